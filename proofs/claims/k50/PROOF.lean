import PyProof.Rows.All
import Wide.All
import OpenK.AllK
import Wide.FinOn
import Lean
import PyProof.EqAt
import PyProof.EqKinds
import PyProof.TupleCall
import Lean
import PyProof.ExcInit
import PyProof.ExcClass3
import PyProof.InstStoreFacts
import KE.KIsAll
import KE.KTryMore
import PyProof.ExcBaseAll.ValueError
import PyProof.ExcArgsOwn
import KE.RegKIsAll
import KE.RegKTryMore
import PyProof.RulesAs
import PySem.Challenge.RW_ownturn_k50_exchanges_shown
local macro_rules | `(tactic| omega) => `(tactic| lia)
set_option compiler.extract_closed false
set_option Elab.async false
set_option linter.all false
set_option maxRecDepth 100000
open Array renaming length_toList->hW,getElem?_eq_some_iff->iJ,mem_toList_iff->mF,append_assoc->nl,find?_toList->nq
open Bool renaming false_ne_true->bL,and_eq_true->b7,and_false->iB,not_true->lh,not_false->mP,true_and->ni,false_eq_true->nA,not_eq_true'->nW
open Classical renaming propDecidable->gv,choose_spec->mE,choose->oz
open Eq renaming refl->oN
open Except renaming ok->oC
open False renaming elim->bU
open ForInStep renaming yield->dQ
open Function renaming comp->nj
open Int renaming toNat_natCast->bQ,mul_one->gr,zero_add->ie,fdiv_eq_ediv_of_nonneg->iw,fmod_eq_emod_of_nonneg->iz,ediv_one->lO
open LawfulBEq renaming eq_of_beq->mS
open Lean renaming mkIdent->me
open Lean.Parser.Tactic renaming tacticSeq->hV
open List renaming getElem?_eq_getElem->af,getD_eq_getElem?_getD->aq,length_map->az,getElem?_map->aD,mem_cons->aE,getElem?_eq_some_iff->aF,size_toArray->aG,length_cons->aN,replicate->aS,not_mem_nil->aT,length_set->aV,map_cons->aY,length_append->bc,getElem_mem->bh,length_reverse->bn,map->bp,getElem?_eq_none->bA,mem_cons_of_mem->bD,mem_append_right->bE,mem_of_getElem?->bJ,length_drop->bN,map_map->bR,range->bT,length_nil->bV,mem_singleton->bW,map_append->bX,mem_map->bZ,mem_or_eq_of_mem_set->cf,length_take->cg,mem_cons_self->ck,append_nil->cu,mem_range->cv,length_zip->cD,getElem?_range->cF,length_range->cK,getElem?_set_ne->cL,lookup_cons->cS,getElem?_append_left->cT,mem_append->cY,getElem?_set_self->dg,getElem?_append_right->dk,map_set->dq,replicate_succ->dr,lookup->dv,nodup_cons->dA,find?_cons->dB,filterMap_cons_some->dH,ext_getElem?->dM,length_replicate->ef,getElem?_reverse->ei,length_filter_le->eu,drop_eq_getElem_cons->ez,flatten_cons->eB,getElem?_set->eD,all_cons->eG,map_congr_left->eM,length_eq_zero_iff->eO,mem_filterMap->eU,mem_filter->e7,getElem?_toArray->fg,getElem?_of_mem->fE,all_eq_true->fJ,cons_ne_nil->fN,getElem?_zip_eq_some->fP,filterMap_cons->fR,forIn_cons->gg,map_replicate->gm,map_inj_right->gn,flatMap_cons->gG,map_reverse->gO,take_length->gQ,any_cons->gT,sum_cons->gU,mem_append_left->gX,count_replicate->g0,of_mem_zip->hU,filterMap->iF,count_pos_iff->iK,count_eq_zero->iL,count_replicate_self->iP,Pairwise->i8,filterMap_cons_none->lf,map_drop->lg,getElem?_replicate->lB,ext_getElem->lG,drop_length->lH,take_of_length_le->lX,drop_of_length_le->lY,all_nil->mf,range_succ->mw,countP_map->mC,mem_of_mem_take->mO,map_take->m9,filterMap_map->nz,getElem?_drop->nE,contains_cons->nF,any_eq_false->nJ,map_nil->nO,append_assoc->nQ,reverse_cons->nT,take_add_one->nV,cons_eq_cons->nX,sum_nil->nZ,countP_cons->ow,mem_reverse->oB,nodup_range->oE,filter_cons->oF,length->oH,foldl->oR
open List.cons renaming inj->dX
open Nat renaming le_refl->aJ,le_trans->aZ,ne_of_lt->br,lt_of_lt_of_le->bw,lt_of_le_of_lt->b8,zero_le->ci,lt_irrefl->cW,lt_of_sub_eq_succ->ej,ne_of_gt->eA,le_of_lt->fF,le_succ->gu,succ_le_succ->gR,add_le_add_right->hJ,min_comm->ig,lt_succ_of_lt->i4,succ_ne_self->lF,min_eq_left->my,mul_le_mul_right->mQ,add_le_add_left->mY,le_of_eq->nL,min_self->nU,succ_min_succ->nY,lt_succ_self->og,le_add_right->oq,le_max_right->oy
open Option renaming map_eq_some_iff->bM,getD_none->om
open Option.some renaming inj->bC
open Or renaming inl->bf,inr->bg
open PyProof renaming noPylong_small->lL
open PyProof.Rows renaming slot_tuple_getitem->bG,callWith_type1->cI,Keyed->cO,envOfC->fT,subscriptTail->fX,entry_tuple_getitem->gE,args_tuple_getitem->gI,AllBare->ia,assignInOrder_cons->ir,seqObj->iE,IntsAre->lQ,Subscript_->lR,IsTup->nH
open PySem renaming Value->aj,wpAny_bind->am,Shared->au,Addr->aw,wpAny_pure->aA,wpAny->aK,model->aL,sizeLine->aM,wpAny_mono->aO,starEach->aW,Program->aX,Around->bj,mainGlobals->bq,World->bB,wpAny_newObj_type->bI,bootBuiltins->bK,wpAny_field->bO,PyData->b9,sliceBounds->cj,wpAny_holding->cq,NameKind->cr,wpAny_callSpecial?_slot->cy,wpAny_standAt->cz,sizeLine_eq->cC,backTo->cG,foldedSetIterable->cJ,Stmt->de,wpAny_call_entry->df,FuncData->dE,Comprehension->dG,wpAny_truthy_bool->dJ,wpAny_loadPart_at->dN,wpAny_loadPart'->dP,codeAny->dR,keywordEach->dU,compareOp->dY,PassesOwn->dZ,sysModules->d7,wpAny_seqItems->d8,attributeBase->eE,mem_of_lookup->eL,excClassObj->eQ,assignEach->eR,wpAny_pyIter_tuple->eT,wpAny_Call_Name_kw->eV,IsPart->eX,ExcBaseFacts->eY,wpAny_setField_rec->eZ,behindInMarks->e8,wpAny_pyIter_enum->fk,wpAny_pyIter_list->fq,binaryOp->fv,bindArgs->fA,codeAny_mono->fH,backToKw->fV,cLine->fW,wpAny_execs_nil->fY,getItem->fZ,letOwnedTupleGo->f7,wpAny_passesOwn->f9,Spec->gh,Paired->gi,recursionLimit->gC,wpAny_nextOf_list_item->gF,plainObj_wpAny_Assign_Attribute->gH,noteFrame->gL,wpAny_pyIter_zip->gM,sliceRange->gN,wpAny_onRaise->gW,callWith->gY,wpAny_isSubtype_exc->h7,Within->h8,wpAny_typeOf->ib,tupleKind->ii,swapsWith->ik,assign->iq,rawInt->iu,wpAny_call->iA,tupleKind_room_in1->iC,wpAny_letOwnedTupleGo_enum->iD,wpAny_letOwnedTupleGo_zip->iO,hashStr->iQ,standAt->iS,wpAny_assign_Name->iT,Keyword->iX,wpAny_sequenceKey->iY,slot_list_getitem->iZ,wpAny_getItem_list_slice->i7,comprehension->i9,wpAny_comprehension_free->kb,wpAny_execs_cons->lr,wpAny_lookBehind->lv,pastItsLine_dict->lA,setFlight->lI,wpAny_rule->lJ,pyNext->lK,BindsTo->lM,seqIndex_neg->lS,wpAny_getItem_list_neg->lU,call_meets->lW,wpAny_noteFrame_againW->ma,IsZip->mr,codeAny_builtin->mz,wpAny_loadPart->mG,seqIndex_of->mI,subscripted->mJ,field->mL,wpAny_setField->mM,callerA->mT,valueAt->mU,Code->mX,assignInOrder->mZ,wpAny_attempt->m8,Result->nu,wpAny_nsSet1->nK,atKey->nR,relabel->nS,cellsFrom->oj,slicePick->oo,seqItems?->ou,raiseStmt->oA,Model->oG,getAttr->oK,OwnTail->oM,CmpOp->oO,bindL->oP,bindC->oQ,call->oS
open PySem.Builtin.List renaming listTooLong->eI,listExtendWith->ic
open PySem.Builtin.ObjectAttr renaming storeInDict->gS
open PySem.Builtin.Range renaming rangeSize->eN,small->hZ
open PySem.Builtin.Slice renaming slicePlaces->bP,sliceApplied->cM,sliceAdjust->dC,sliceFields->fO
open PySem.Builtin.SmallTypes renaming nextOf->ca,ownedTupleIsFree->cX,ownedTupleHandOut->fU
open PySem.Builtin.Tuple renaming tupleExact->bF,tupleItemsOf->fC
open PySem.Calls renaming evalArgs_plain->fD,Name_function_global->io,callWith_builtin->lV
open PySem.Challenge renaming rw_ownturn_k50_exchanges_shown->eK
open PySem.Code renaming quiet_builtin->iG
open PySem.Data renaming cell->gq,fields->iU,seq->lE
open PySem.F renaming excBase_ValueError->cN,plainAttrs_list->eP,slot_dict_getitem->iM,args_tuple_add_2->i6,slot_list_extend->li,type_list_extend->lj,entry_tuple_add->lC,slot_tuple_add->lN,slot_dict_get->mD
open PySem.Heap renaming get?_push_of_some->ay,lt_size->aH,get?_push_size->aQ,SameBut->cR,get?_update_self->cV,size_push->dj,get?_update_other->dS,get?_none_of_le->fu,FlyingW->fL,IsList->gZ,MadeExcOf->iI,IsListIter->mB
open PySem.Heap.IsSliceOf renaming new->gj
open PySem.Obj renaming mapSeq->eF,mapFields->eJ,data_mapFields->gk
open PySem.PassesOwn renaming never->db
open PySem.SeqAt renaming EqAt->bS,RcNeAt->fK,RcAt->gP
open PySem.Str renaming ofString->ap
open PySem.W renaming Frag->ax,findIn->bo,mg_none_of->bz,nsIn->bH,fnOf->bY,kia_one->cQ,emptyDict->cU,kia_tup->cZ,keepIn->dh,isFn->dF,hideAll_none->dI,hasDictIn->dL,instObj->dO,exmOne->d9,callWith_K->eW,Looks->e9,mg_of->fb,hasDictIn->fc,methodCall_KW->ff,findIn->fh,looks_findIn->fz,codeIn->fB,plainGet->fG,hideAll_get->fQ,looks_clsIn->fS,lookIn->gw,specialIn->gy,kitx_list->gA,kitx_dict->gB,cellsFrom_some->gD,any_some->gJ,plainGet_of->hX,of_hideAll->im,Looks->iH,methodObj->iR,plainOver->iV,set_plain->iW,findObj->i5,handedIn->lu,funFrames_hide->lZ,takerIn->mh,makesIn->mj,takesIn->mq,kitOne->mH,kitAny->mK,notCls->mR,takerIn->mV,findObj_own->mW,mroIn->m7,subIn->nc,clsIn->ng,kitx_float->nv,kitx_tuple->nw,codeRec_of->ny,isNs_of_in->nG,kitx_none->nM,kitx_bool->nN,kitx_int->oh,kitx_str->oi,mroIn->oJ
open Sum renaming inr->cH,inl->fj
theorem Pn1_ {α:Type}{p:List α->Prop}(f:∀ a,p [a]):∀ us:List α,us.length=1->p us
 | [_],_=>f _
theorem Pn2_ {α:Type}{p:List α->Prop}(f:∀ a b,p [a,b]):∀ us:List α,us.length=2->p us
 | [_,_],_=>f _ _
theorem Pn3_ {α:Type}{p:List α->Prop}(f:∀ a b c,p [a,b,c]):∀ us:List α,us.length=3->p us
 | [_,_,_],_=>f _ _ _
theorem Pn4_ {α:Type}{p:List α->Prop}(f:∀ a b c d,p [a,b,c,d]):∀ us:List α,us.length=4->p us
 | [_,_,_,_],_=>f _ _ _ _
namespace L2
open PySem PySem.Spec PyProof.Rows
abbrev Key:=Sum Int Str
noncomputable def wV:Key->aj->Bool
 | .inl k,v=>aj.isInt k v
 | .inr x,v=>aj.isStrOf x v
noncomputable def Na (w:bB):Key->Int
 | .inl k=>hashInt k
 | .inr x=>iQ w x
theorem qm:∀ {k:Key} {v:aj},wV k v=true->(∃ i t,k=fj i/\v=aj.int i t) \/ (∃ x t,k=cH x/\v=aj.str x t)
 | .inl i,v,h=>by
  obtain ⟨t,e⟩:=aj.isInt_shape (k:=i) (v:=v) h
  exact .inl ⟨i,t,rfl,e⟩
 | .inr x,v,h=>by
  obtain ⟨t,e⟩:=aj.isStrOf_shape (x:=x) (v:=v) h
  exact .inr ⟨x,t,rfl,e⟩
theorem Vc (i:Int)(t:Tok):wV (.inl i) (.int i t)=true:=by simp [wV,aj.isInt]
theorem V4 (x:Str)(t:Tok):wV (.inr x) (.str x t)=true:=by simp [wV,aj.isStrOf]
theorem Iy (a b:Int):decide ((fj a:Key)=fj b)=(a == b):=by
 by_cases e:a=b
 ·subst e;simp
 ·have h:¬ (fj a:Key)=fj b:=fun q=>e (fj.inj q)
  rw [decide_eq_false h]
  exact (beq_eq_false_iff_ne.mpr e).symm
theorem Hv (a b:Str):decide ((cH a:Key)=cH b)=decide (a=b):=by
 by_cases e:a=b
 ·subst e;simp
 ·have h:¬ (cH a:Key)=cH b:=fun q=>e (cH.inj q)
  rw [decide_eq_false h,decide_eq_false e]
theorem HJ (a:Int)(b:Str):decide ((fj a:Key)=cH b)=false:=decide_eq_false (fun q=>nomatch q)
theorem IC (a:Str)(b:Int):decide ((cH a:Key)=fj b)=false:=decide_eq_false (fun q=>nomatch q)
noncomputable def qc (prog:aX)(w:bB):PySem.KeyKind prog w Key where
 is:=wV
 hash:=Na w
 inj:=fun v a b ha hb=>by
  rcases qm ha with ⟨i,t,rfl,rfl⟩ | ⟨x,t,rfl,rfl⟩
  ·rcases qm hb with ⟨j,u,rfl,e⟩ | ⟨y,u,rfl,e⟩
   ·injection e with e1 _;rw [e1]
   ·exact nomatch e
  ·rcases qm hb with ⟨j,u,rfl,e⟩ | ⟨y,u,rfl,e⟩
   ·exact nomatch e
   ·injection e with e1 _;rw [e1]
 byValue:=fun k v h=>by
  rcases qm h with ⟨i,t,rfl,rfl⟩ | ⟨x,t,rfl,rfl⟩ <;> rfl
 pyHash:=fun hv h=>by
  rcases qm hv with ⟨i,t,rfl,rfl⟩ | ⟨x,t,rfl,rfl⟩
  ·exact wpAny_pyHash_int h
  ·exact wpAny_pyHash_str h
 eqBool:=fun hu hv h=>by
  rcases qm hu with ⟨i,t,rfl,rfl⟩ | ⟨x,t,rfl,rfl⟩
  ·rcases qm hv with ⟨j,u,rfl,rfl⟩ | ⟨y,u,rfl,rfl⟩
   ·rw [Iy] at h;exact wpAny_eqBool_int h
   ·rw [HJ] at h;exact bS.int_str i t y u _ _ _ _ h
  ·rcases qm hv with ⟨j,u,rfl,rfl⟩ | ⟨y,u,rfl,rfl⟩
   ·rw [IC] at h;exact bS.str_int x t j u _ _ _ _ h
   ·rw [Hv] at h;exact wpAny_eqBool_str h
 «strs»:=fun k x t v h=>by
  rcases qm h with ⟨i,u,rfl,e⟩ | ⟨y,u,rfl,e⟩
  ·exact nomatch e
  ·injection e with e1 _
   subst e1
   cases v <;> rfl
theorem Jv (prog:aX)(w:bB)(i:Int)(t:Tok):(qc prog w).is (.inl i) (.int i t)=true:=Vc i t
theorem Jk (prog:aX)(w:bB)(x:Str)(t:Tok):(qc prog w).is (.inr x) (.str x t)=true:=V4 x t
inductive V where
 | non | bl (b:Bool) | int (i:Int) | str (x:Str) | byt (b:Array UInt8) | flt (b:UInt64) | ref (a:aw) | ty (n:String)
 deriving DecidableEq
noncomputable def zv:V->aj->Prop
 | .non,u=>u=aj.none
 | .bl b,u=>u=aj.bool b
 | .int i,u=>∃ t,u=aj.int i t
 | .str x,u=>∃ t,u=aj.str x t
 | .byt b,u=>∃ t,u=aj.bytes b t
 | .flt b,u=>∃ t,u=aj.float b t
 | .ref a,u=>u=aj.ref a
 | .ty n,u=>u=aj.type n
noncomputable abbrev zw:List V->List aj->Prop:=gi zv
variable {xs:List V} {us:List aj}
theorem zw.length (r:zw xs us):xs.length=us.length:=gi.length r
theorem zw.get:∀ {xs:List V} {us:List aj} {i:Nat} {x:V},zw xs us->xs[i]?=some x->∃ u,us[i]?=some u/\zv x u
 | _,_,_,_,.nil,e=>by simp at e
 | _,_,0,_,.cons r _,e=>by simp at e;subst e;exact ⟨_,rfl,r⟩
 | _,_,i+1,x,.cons _ t,e=>by
  obtain ⟨u,h1,h2⟩:=zw.get (i:=i) (x:=x) t (by simpa using e)
  exact ⟨u,by simpa using h1,h2⟩
theorem zw.set {x:V}{u:aj}(r:zv x u):∀ {xs:List V} {us:List aj} (i:Nat),zw xs us->zw (xs.set i x) (us.set i u)
 | _,_,_,.nil=>.nil
 | _,_,0,.cons _ t=>.cons r t
 | _,_,i+1,.cons q t=>.cons q (zw.set r i t)
theorem zw.append:∀ {xs ys:List V} {us ws:List aj},zw xs us->zw ys ws->zw (xs ++ ys) (us ++ ws)
 | _,_,_,_,.nil,s=>s
 | _,_,_,_,.cons r t,s=>.cons r (zw.append t s)
theorem zw.take:∀ {xs:List V} {us:List aj} (n:Nat),zw xs us->zw (xs.take n) (us.take n)
 | _,_,0,_=>.nil
 | _,_,_+1,.nil=>.nil
 | _,_,n+1,.cons r t=>.cons r (zw.take n t)
theorem zw.drop:∀ {xs:List V} {us:List aj} (n:Nat),zw xs us->zw (xs.drop n) (us.drop n)
 | _,_,0,r=>r
 | _,_,_+1,.nil=>.nil
 | _,_,n+1,.cons _ t=>zw.drop n t
noncomputable def j8:Option V->Option aj->Prop
 | some v,some u=>zv v u
 | none,none=>True
 | _,_=>False
noncomputable def KV {κ:Type}:List (κ × V)->List (κ × aj)->Prop:=gi fun (p:κ × V) (q:κ × aj)=>p.1=q.1/\zv p.2 q.2
noncomputable def kV:Key->V
 | .inl i=>.int i
 | .inr x=>.str x
inductive HO where
  | lst (xs:List V)
  | tup (xs:List V)
  | dK (kvs:List (Key × V)) | dT (kvs:List (List Key × V))
  | set (S:Int->Bool) (n:Nat)
  | ins (C dx:aw) (fs:List (Str × V))
  | own (x:aw)
  | xd (fs:List (Str × V))
  | met (f x:aw)
  | rng (lo hi:Int)
  | frz (o:Obj) (u:HO)
  | tbl (ps:Array aj)
  | ext (φ:Heap->Prop)
abbrev Hp:=aw->Option HO
noncomputable def upd (H:Hp)(a:aw)(o:HO):Hp:=fun b=>if b=a then some o else H b
variable {H:Hp} {a:aw} {o:HO}
theorem zj:upd H a o a=some o:=by unfold upd;rw [if_pos rfl]
variable {b:aw}
theorem zg (h:b ≠ a):upd H a o b=H b:=by unfold upd;rw [if_neg h]
variable {u:HO}
theorem xy:upd (upd H a o) a u=upd H a u:=by
 funext b;unfold upd;split <;> rfl
theorem wW (h:H a=some o)(h':H b=some u)(d:o ≠ u):a ≠ b:=by
 intro e;subst e;rw [h] at h';exact d (bC h')
theorem zo (h:H a=some o)(h':H b=none):a ≠ b:=by
 intro e;subst e;rw [h] at h';cases h'
def y9 (h:Heap)(a:aw)(items:Array aj):Prop:=∃ o,h.get? a=some o/\o.cls=.type "tuple"/\(∃ n,o.data=.seq items n)/\o.dict=none
variable {items:Array aj}
theorem y9.is {h:Heap} (x:y9 h a items):nH h a items:=let ⟨o,e,c,n,_⟩:=x;⟨o,e,c,n⟩
theorem y9.lt {h:Heap} (x:y9 h a items):a<h.objs.size:=x.is.lt
theorem y9.new (h:Heap)(items:Array aj):y9 (h.push { cls:=.type "tuple",data:=.seq items }) h.objs.size items:=⟨_,aQ _ rfl,rfl,⟨_,rfl⟩,rfl⟩
section
variable (P:aX)(w:bB)
noncomputable def zM (H:Hp)(h:Heap)(a:aw):HO->Prop
  | .lst xs=>xs.length<=aM/\∃ (its:List aj) (n:Nat),zw xs its/\h.get? a=some { cls:=.type "list",data:=.seq its.toArray n }
  | .tup xs=>xs.length<=aM/\∃ its:List aj,zw xs its/\y9 h a its.toArray
  | .dK kvs=>kvs.length<=aM/\(a == d7)=false/\∃ vs,KV kvs vs/\h.DictOf (qc P w) a vs
  | .dT kvs => kvs.length <= aM /\ (a == d7) = false /\ ∃ xs : List (List Key × aw × aj),
      gi (fun (p:List Key × V) (q:List Key × aw × aj)=>p.1=q.1/\H q.2.1=some (.tup (p.1.map kV))/\zv p.2 q.2.2) kvs xs /\
      ∃ o es ep,h.get? a=some o/\o.ExactDict/\o.data=.dict es ep/\es.toList=xs.map (entryOfKey (ii (qc P w)))/\(xs.map (·.1)).Nodup
  | .set S n=>h.SetOf (intKind P w) a S n
  | .ins C dx fs => H dx = some (.own a) /\ fs.length <= 1000 /\ dx ≠ a /\ h.get? a = some (dO C dx) /\
      ∃ mA,h.Ns1 dx mA/\(∀ f,j8 (fs.lookup f) (mA f))/\h8 mA (fs.map (·.1))
  | .own _=>∃ o,h.get? a=some o
  | .xd fs=>∃ mA,h.Ns1 a mA/\∀ f,j8 (fs.lookup f) (mA f)
  | .rng lo hi=>∃ t u v,h.get? a=some { cls:=.type "range",data:=.fields #[.int lo t,.int hi u,.int 1 v] }
  | .frz o u=>h.get? a=some o/\zM H h a u
  | .tbl ps=>h.get? a=some { cls:=.none,data:=.fields ps }
  | .met f x=>h.get? a=some (iR (.ref f) (.ref x))
  | .ext φ=>φ h/\(∃ o,h.get? a=some o)/\∀ h1 h2:Heap,φ h1->(∀ o,h1.get? a=some o->h2.get? a=some o)->φ h2
def HOk (H:Hp)(h:Heap):Prop:=∀ a o,H a=some o->zM P w H h a o
end
section
variable {P:aX}{w:bB}{H H':Hp}{h h':Heap}{a:aw}{o:HO}
theorem zM.lt (x:zM P w H h a o):a<h.objs.size:=by
 cases o with
 | lst xs=>obtain ⟨_,_,_,_,e⟩:=x;exact aH e
 | tup xs=>obtain ⟨_,_,_,p⟩:=x;exact p.lt
 | dK kvs=>obtain ⟨_,_,_,_,o,_,_,e,_⟩:=x;exact aH e
 | dT kvs=>obtain ⟨_,_,_,_,o,_,_,e,_⟩:=x;exact aH e
 | set S n=>obtain ⟨o,_,_,_,e,_⟩:=x;exact aH e
 | ins C dx fs=>obtain ⟨_,_,_,e,_⟩:=x;exact aH e
 | own y=>obtain ⟨_,e⟩:=x;exact aH e
 | xd fs=>obtain ⟨_,⟨_,_,_,e,_⟩,_⟩:=x;exact aH e
 | rng lo hi=>obtain ⟨_,_,_,e⟩:=x;exact aH e
 | frz ob u=>obtain ⟨e,_⟩:=x;exact aH e
 | tbl ps=>exact aH (show h.get? a=some _ from x)
 | met f y=>exact aH (show h.get? a=some _ from x)
 | ext φ=>obtain ⟨_,⟨_,e⟩,_⟩:=x;exact aH e
theorem gi.mapP {α β:Type}{F G:α->β->Prop}:∀ {l₁:List α} {l₂:List β},gi F l₁ l₂->(∀ a b,F a b->G a b)->gi G l₁ l₂
 | _,_,.nil,_=>.nil
 | _,_,.cons r t,f=>.cons (f _ _ r) (gi.mapP t f)
theorem zM.stay (x:zM P w H h a o)(k:∀ b u,(b=a \/ H b=some (.own a))->h.get? b=some u->h'.get? b=some u)
  (ho:∀ b,H b=some (.own a)->H' b=some (.own a)) (ht:∀ b xs,H b=some (.tup xs)->H' b=some (.tup xs)):zM P w H' h' a o:=by
 induction o with
 | lst xs=>obtain ⟨z,its,n,r,e⟩:=x;exact ⟨z,its,n,r,k _ _ (.inl rfl) e⟩
 | tup xs=>obtain ⟨z,its,r,ob,e,c⟩:=x;exact ⟨z,its,r,ob,k _ _ (.inl rfl) e,c⟩
 | dK kvs=>obtain ⟨z,y,vs,r,ob,es,ep,e,c⟩:=x;exact ⟨z,y,vs,r,ob,es,ep,k _ _ (.inl rfl) e,c⟩
 | dT kvs=>
  obtain ⟨z,y,xs,r,ob,es,ep,e,c⟩:=x
  exact ⟨z,y,xs,gi.mapP r fun p q z=>⟨z.1,ht _ _ z.2.1,z.2.2⟩,ob,es,ep,k _ _ (.inl rfl) e,c⟩
 | set S n=>obtain ⟨ob,es,ep,t,e,c⟩:=x;exact ⟨ob,es,ep,t,k _ _ (.inl rfl) e,c⟩
 | ins C dx fs=>
  obtain ⟨d,z,ne,e,mA,⟨od,es,ep,e2,c⟩,r⟩:=x
  exact ⟨ho _ d,z,ne,k _ _ (.inl rfl) e,mA,⟨od,es,ep,k _ _ (.inr d) e2,c⟩,r⟩
 | own y=>obtain ⟨ob,e⟩:=x;exact ⟨ob,k _ _ (.inl rfl) e⟩
 | xd fs=>obtain ⟨mA,⟨od,es,ep,e,c⟩,r⟩:=x;exact ⟨mA,⟨od,es,ep,k _ _ (.inl rfl) e,c⟩,r⟩
 | rng lo hi=>obtain ⟨t,u,v,e⟩:=x;exact ⟨t,u,v,k _ _ (.inl rfl) e⟩
 | frz ob u ih=>obtain ⟨e,q⟩:=x;exact ⟨k _ _ (.inl rfl) e,ih q⟩
 | tbl ps=>
  have e:h.get? a=some { cls:=.none,data:=.fields ps }:=x
  show h'.get? a=some { cls:=.none,data:=.fields ps }
  exact k a _ (.inl rfl) e
 | met f y=>
  have e:h.get? a=some (iR (.ref f) (.ref y)):=x
  show h'.get? a=some (iR (.ref f) (.ref y))
  exact k a _ (.inl rfl) e
 | ext φ=>obtain ⟨p,⟨o,e⟩,st⟩:=x;exact ⟨st _ _ p fun o q=>k _ _ (.inl rfl) q,⟨o,k _ _ (.inl rfl) e⟩,st⟩
theorem HOk.lt (x:HOk P w H h)(e:H a=some o):a<h.objs.size:=(x a o e).lt
theorem HOk.fresh (x:HOk P w H h)(e:h.objs.size<=a):H a=none:=by
 cases q:H a with
 | none=>rfl
 | some u=>exact absurd (bw (x.lt q) e) (cW _)
theorem HOk.kept (x:HOk P w H h)(k:∀ b u,h.get? b=some u->h'.get? b=some u):HOk P w H h':=fun a o e=>
 (x a o e).stay (fun b u _ q=>k b u q) (fun _ q=>q) fun _ _ q=>q
theorem HOk.laid (x:HOk P w H h)(k:∀ b u,h.get? b=some u->h'.get? b=some u)(hp:h.objs.size<=a)(new:zM P w (upd H a o) h' a o):HOk P w (upd H a o) h':=fun b u e=>by
 have hn:=x.fresh hp
 by_cases hb:b=a
 ·subst hb;rw [zj] at e;cases e;exact new
 ·rw [zg hb] at e
  exact (x b u e).stay (fun c v _ q=>k c v q) (fun c q=>by rw [zg (zo q hn)];exact q) fun c xs q=>by rw [zg (zo q hn)];exact q
end
def Rd (H:Hp)(a:aw)(u:HO):Prop:=H a=some u \/ ∃ o,H a=some (.frz o u)
variable {P:aX} {w:bB}
theorem Rd.ok {h:Heap} (r:Rd H a u)(x:HOk P w H h):zM P w H h a u:=by
 rcases r with r | ⟨o,r⟩
 ·exact x a u r
 ·obtain ⟨_,q⟩:=x a _ r
  exact q
noncomputable def Mut:Option HO->Prop
 | some (.lst _)=>True
 | some (.dK _)=>True
 | some (.dT _)=>True
 | some (.set _ _)=>True
 | some (.ins _ _ _)=>True
 | some (.ext _)=>True
 | _=>False
section
variable {P:aX}{w:bB}{H:Hp}{h h':Heap}{x e:aw}{o':HO}
theorem HOk.write (ok : HOk P w H h)(mu : Mut (H x))(he : e = x \/ H e = some (.own x))(k : ∀ b u, b ≠ e -> h.get? b = some u -> h'.get? b = some u)(heo : ∃ u, h'.get? e = some u)
    (new:zM P w (upd H x o') h' x o'):HOk P w (upd H x o') h':=fun b u q=>by
  have nown:∀ c y,H c=some (.own y)->c ≠ x:=fun c y r z=>by subst z;rw [r] at mu;exact mu
  have ntup:∀ c xs,H c=some (.tup xs)->c ≠ x:=fun c xs r z=>by subst z;rw [r] at mu;exact mu
  by_cases hb:b=x
  · subst hb;rw [zj] at q;cases q;exact new
  · rw [zg hb] at q
    by_cases hbe:b=e
    · have q' : H b = some (.own x) := by
        rcases he with z | z
        · exact absurd (hbe.trans z) hb
        · rw [hbe];exact z
      rw [q] at q';cases q'
      obtain ⟨v,hv⟩:=heo
      exact ⟨v,by rw [hbe];exact hv⟩
    · refine (ok b u q).stay (fun c v hc r=>k c v ?_ r) (fun c r=>by rw [zg (nown c b r)];exact r) fun c xs r=>by rw [zg (ntup c xs r)];exact r
      rcases hc with rfl | hc
      · exact hbe
      · rintro rfl
        rcases he with z | z
        · exact nown c b hc z
        · rw [hc] at z;cases z;exact hb rfl
end
structure Un (fs ex:List aw)(H H':Hp)(h h':Heap):Prop where
 keep:∀ b o,h.get? b=some o->H b=none->b ∉ fs->b ∉ ex->h'.get? b=some o
 slot:∀ b o,h.get? b=some o->H b=none->b ∈ fs->b ∉ ex->∃ sl,h'.get? b=some { o with slots:=sl }
 free:∀ b o,h.get? b=some o->H b=none->b ∉ ex->H' b=none
 there:∀ b o,h.get? b=some o->b ∉ ex->∃ o',h'.get? b=some o'
 tups:∀ b xs,H b=some (.tup xs)->H' b=some (.tup xs)
 frzs:∀ b o u,H b=some (.frz o u)->H' b=some (.frz o u)
 tbls:∀ b ps,H b=some (.tbl ps)->∃ more,H' b=some (.tbl (ps ++ more))
section
variable {fs fs' ex ex':List aw}{H H1 H2:Hp}{h h1 h2 h':Heap}{a x e:aw}{o:HO}
theorem Un.any (u:Un fs ex H H1 h h1) {ob:Obj}(q:h.get? b=some ob)(n:H b=none)(hx:b ∉ ex):∃ sl,h1.get? b=some { ob with slots:=sl }:=by
 by_cases hb:b ∈ fs
 ·exact u.slot b ob q n hb hx
 ·exact ⟨ob.slots,u.keep b ob q n hb hx⟩
theorem Un.kept (k:∀ b u,h.get? b=some u->h'.get? b=some u):Un fs ex H H h h':=
 ⟨fun b ob q _ _ _=>k b ob q,fun b ob q _ _ _=>⟨ob.slots,k b ob q⟩,fun _ _ _ n _=>n,fun b ob q _=>⟨ob,k b ob q⟩,fun _ _ q=>q,fun _ _ _ q=>q,fun _ ps q=>⟨#[],by rw [q];simp⟩⟩
theorem Un.refl:Un fs ex H H h h:=Un.kept fun _ _ q=>q
theorem Un.laid (k:∀ b u,h.get? b=some u->h'.get? b=some u)(hp:h.objs.size<=a)(hn:H a=none):Un fs ex H (upd H a o) h h' where
 keep:=fun b u q _ _ _=>k b u q
 slot:=fun b u q _ _ _=>⟨u.slots,k b u q⟩
 free:=fun b u q n _=>by rw [zg (br (bw (aH q) hp))];exact n
 there:=fun b u q _=>⟨u,k b u q⟩
 tups:=fun b xs q=>by rw [zg (zo q hn)];exact q
 frzs:=fun b u xs q=>by rw [zg (zo q hn)];exact q
 tbls:=fun b ps q=>⟨#[],by rw [zg (zo q hn),q];simp⟩
theorem Un.write (mu:Mut (H x))(he:e=x \/ H e=some (.own x))(k:∀ b u,b ≠ e->h.get? b=some u->h'.get? b=some u)(heo:∃ u,h'.get? e=some u):Un fs ex H (upd H x o) h h':=by
 have hx:∀ b,H b=none->b ≠ x:=fun b n z=>by subst z;rw [n] at mu;exact mu
 have hb:∀ b,H b=none->b ≠ e:=fun b n z=>by
  subst z
  rcases he with r | r
  ·exact hx b n r
  ·rw [n] at r;cases r
 have hm:∀ b u,H b=some u->¬ Mut (some u)->b ≠ x:=fun b u q nm z=>by subst z;rw [q] at mu;exact nm mu
 refine ⟨fun b u q n _ _=>k b u (hb b n) q,fun b u q n _ _=>⟨u.slots,k b u (hb b n) q⟩,fun b u q n _=>by rw [zg (hx b n)];exact n,fun b u q _=>?_,
  fun b xs q=>by rw [zg (hm b _ q fun z=>z)];exact q,fun b u xs q=>by rw [zg (hm b _ q fun z=>z)];exact q,fun b ps q=>⟨#[],by rw [zg (hm b _ q fun z=>z),q];simp⟩⟩
 by_cases hbe:b=e
 ·subst hbe;exact heo
 ·exact ⟨u,k b u hbe q⟩
end
noncomputable def trk (h:Heap)(H:Hp):List aw:=(bT h.objs.size).filter fun a=>(H a).isSome
noncomputable def ZP (h:Heap)(H:Hp):Heap:=PySem.W.hideAll h (trk h H)
theorem YT (h:Heap)(H:Hp):(ZP h H).objs.size=h.objs.size:=PySem.W.hideAll_size _ _
theorem WG {h:Heap} {o:Obj}(e:h.get? b=some o)(n:H b=none):(ZP h H).get? b=some o:=
 fQ _ e fun hm=>by
  have q:(H b).isSome=true:=(e7.mp hm).2
  rw [n] at q;simp at q
theorem Fg {h:Heap}{H:Hp}{b:aw}{o:Obj}(e:(ZP h H).get? b=some o):h.get? b=some o/\H b=none:=by
 have e':h.get? b=some o:=im (trk h H) e
 refine ⟨e',?_⟩
 cases q:H b with
 | none=>rfl
 | some x=>
  have hm:b ∈ trk h H:=e7.mpr ⟨cv.mpr (aH e'),by simp [q]⟩
  have z:(ZP h H).get? b=none:=dI (trk h H) hm
  rw [z] at e;cases e
noncomputable def FN (g h:Heap)(L:aw):List (aw × Obj):=(bT h.objs.size).filterMap fun a=>if a=L \/ (g.get? a).isSome=true then none else (h.get? a).map fun o=>(a,o)
noncomputable def qi (g h:Heap)(L d:aw):List (aw × Obj):=(FN g h L).filter fun p=>decide (p.1 ≠ d)
structure Mod (K:ax)(mg:Str->Option aj)(base:Heap):Prop where
 kin:K.In base
 glob:base.Ns bq mg
 blt:∃ mb,base.Ns builtinsNs mb/\∀ x:Str,x ≠ "__name__"->mb x=bK x
 nolimit:base.NoLimit
structure Cx where
 prog:aX
 w:bB
 K:ax
 mg:Str->Option aj
 base:Heap
 A:bj
 N:List Str
 s₀:au
 H₀:Hp
 env:Env
 outer:List Env
 stack:List Env
 ex:List aw
 fn:Str->Bool
 calm:Bool
 pn:List (aw × Obj)
 xe:aj->au->Prop
noncomputable def frs (l:List Env):List aw:=l.filterMap (·.frame)
noncomputable abbrev Cx.fs (X:Cx):List aw:=frs X.outer
def Vis (sc:Scope)(x:Str):Prop:=sc.names.lookup x=some .local \/ sc.names.lookup x=some .cell \/ sc.names.lookup x=some .free
def Loc (sc:Scope)(x:Str):Prop:=sc.names.lookup x=some .local \/ sc.names.lookup x=some .cell
def Nd (env:Env)(h:Heap)(m:Str->Option aj)(x:Str)(u:aj):Prop:=
 (env.kindOf x=some .local/\m x=some u) \/ ((env.kindOf x=some .cell \/ env.kindOf x=some .free)/\∃ c,env.cells.lookup x=some c/\h.IsCell c (some u))
structure Cx.Ok (X:Cx):Prop where
 mod:Mod X.K X.mg X.base
 kind:X.env.scope.kind=.function
 glob:X.env.globals=bq
 blt:X.env.builtins=builtinsNs
 above:X.s₀.heap.objs.size<=X.env.locals
 inj:∀ x y c,X.env.cells.lookup x=some c->X.env.cells.lookup y=some c->x=y
 has:∀ x,(X.env.kindOf x=some .cell \/ X.env.kindOf x=some .free)->∃ c,X.env.cells.lookup x=some c
 cab:∀ x c,X.fn x=true->X.env.cells.lookup x=some c->X.s₀.heap.objs.size<=c
 hd:X.calm=true->X.A.handled=none
 frames:X.A.frames=some X.stack
 stk:X.stack=X.outer \/ (X.stack=X.env :: X.outer/\X.env.frame=some X.env.locals)
 exf:∀ b ∈ X.ex,b ≠ X.env.locals/\∀ x c,X.env.cells.lookup x=some c->c ≠ b
 bs:∀ b o,X.base.get? b=some o->X.s₀.heap.get? b=some o/\X.H₀ b=none
 bsz:X.base.objs.size<=X.s₀.heap.objs.size
 noex:∀ b o,X.base.get? b=some o->b ∉ X.ex
 exfs:∀ b ∈ X.ex,b ∉ X.fs
 funs:X.s₀.heap.FunFrames X.base X.outer
 frf:∀ b ∈ X.fs,X.H₀ b=none
structure Inv (X:Cx)(pins:List (aw × Obj))(σ:List (Option V))(H:Hp)(s:au):Prop where
 ok:X.Ok
 os:s.os=X.s₀.os
 bare:ia s.gens
 base:Un X.fs X.ex X.H₀ H X.s₀.heap s.heap
 loc:∃ m,s.heap.Ns X.env.locals m/\∀ (i:Nat) (x:Str) (v:V),X.N[i]?=some x->σ[i]?=some (some v)->Vis X.env.scope x->∃ u,zv v u/\Nd X.env s.heap m x u
 cell:∀ x c,X.env.cells.lookup x=some c->∃ v,s.heap.IsCell c v
 free:H X.env.locals=none
 freeC:∀ x c,X.env.cells.lookup x=some c->H c=none
 pin:∀ p ∈ X.pn ++ pins,s.heap.get? p.1=some p.2/\H p.1=none/\p.1 ≠ X.env.locals/\p.1 ∉ X.fs/\∀ v,p.2.data ≠ .cell v
 hok:HOk X.prog X.w H s.heap
 len:σ.length=X.N.length
section
variable {X:Cx}{pins:List (aw × Obj)}{σ:List (Option V)}{H H':Hp}{s:au}{h':Heap}
theorem Cx.Ok.nofr (ok:X.Ok) {o:Obj}(e:X.base.get? b=some o):b ∉ X.fs:=fun hb=>by
 have:=(ok.funs.mem hb).1
 rw [e] at this;cases this
theorem Inv.bs (I:Inv X pins σ H s):∀ b o,X.base.get? b=some o->s.heap.get? b=some o/\H b=none:=fun b o e=>
 ⟨I.base.keep b o (I.ok.bs b o e).1 (I.ok.bs b o e).2 (I.ok.nofr e) (I.ok.noex b o e),I.base.free b o (I.ok.bs b o e).1 (I.ok.bs b o e).2 (I.ok.noex b o e)⟩
theorem Inv.bk (I:Inv X pins σ H s):∀ b o,X.base.get? b=some o->s.heap.get? b=some o:=fun b o e=>(I.bs b o e).1
theorem Inv.mod (I:Inv X pins σ H s):Mod X.K X.mg X.base:=I.ok.mod
theorem Inv.kIn (I:Inv X pins σ H s):X.K.In s.heap:=I.ok.mod.kin.keeps I.bk
theorem Inv.lt (I:Inv X pins σ H s):X.env.locals<s.heap.objs.size:=let ⟨_,hn,_⟩:=I.loc;hn.lt
theorem Inv.sz (I:Inv X pins σ H s):X.s₀.heap.objs.size<=s.heap.objs.size:=aZ I.ok.above (fF I.lt)
theorem Inv.nofs (I:Inv X pins σ H s) (h:s.heap.objs.size<=a):a ∉ X.fs:=fun hb=>by
 obtain ⟨_,o,ho,_⟩:=I.ok.funs.mem hb
 exact absurd (bw (aH ho) (aZ I.sz h)) (cW _)
theorem Inv.cne (I:Inv X pins σ H s):∀ x c,X.env.cells.lookup x=some c->c ≠ X.env.locals:=fun x c e z=>by
 obtain ⟨v,o,ho,hd⟩:=I.cell x c e
 obtain ⟨m,⟨o',es,ep,ho',hd',_⟩,_⟩:=I.loc
 rw [z,ho'] at ho;cases ho;rw [hd'] at hd;cases hd
theorem Inv.funs (I:Inv X pins σ H s):s.heap.FunFrames X.base X.outer:=by
 have all:∀ (l:List Env),(∀ b ∈ frs l,b ∈ X.fs)->X.s₀.heap.FunFrames X.base l->s.heap.FunFrames X.base l:=by
  intro l
  induction l with
  | nil=>intro _ _;trivial
  | cons env r ih=>
   intro hs hl
   obtain ⟨hk,⟨L,o,hf,hn,ho,hd⟩,hr⟩:=hl
   have hL:L ∈ X.fs:=hs L (by unfold frs;rw [fR,hf];exact ck)
   obtain ⟨sl,e⟩:=I.base.slot L o ho (I.ok.frf L hL) hL fun z=>I.ok.exfs L z hL
   exact ⟨hk,⟨L,_,hf,hn,e,hd⟩,ih (fun b hb=>hs b (by unfold frs;rw [fR,hf];exact bD _ hb)) hr⟩
 exact all X.outer (fun _ hb=>hb) I.ok.funs
theorem Inv.stack (I:Inv X pins σ H s):s.heap.FunFrames X.base X.stack:=by
 rcases I.ok.stk with e | ⟨e,hf⟩
 ·rw [e];exact I.funs
 ·rw [e]
  obtain ⟨m,hn,_⟩:=I.loc
  refine .cons (by rw [I.ok.kind];decide) hf hn ?_ I.funs
  exact fu (aZ I.ok.bsz I.ok.above)
theorem Inv.stkSub (I:Inv X pins σ H s):∀ b ∈ frs X.stack,b ∈ X.env.locals :: X.fs:=fun b hb=>by
 rcases I.ok.stk with e | ⟨e,hf⟩
 ·rw [e] at hb;exact bD _ hb
 ·rw [e] at hb
  unfold frs at hb
  rw [fR,hf] at hb
  exact hb
theorem Inv.stkFree (I:Inv X pins σ H s):∀ b ∈ frs X.stack,H b=none:=fun b hb=>by
 rcases aE.mp (I.stkSub b hb) with e | hb
 ·rw [e];exact I.free
 ·obtain ⟨_,o,ho,_⟩:=I.ok.funs.mem hb
  exact I.base.free b o ho (I.ok.frf b hb) fun z=>I.ok.exfs b z hb
variable {g':Array GenState} {t':Nat} {d':Drawn} {ch:List aw}
theorem Inv.step (I:Inv X pins σ H s)
  (hch:∀ b ∈ ch,(b ∈ X.ex \/ X.s₀.heap.objs.size<=b)/\b ≠ X.env.locals/\(∀ x c,X.env.cells.lookup x=some c->c ≠ b)/\∀ p ∈ X.pn ++ pins,p.1 ≠ b)
  (keep:∀ b o,b ≠ X.env.locals->b ∉ X.fs->b ∉ ch->s.heap.get? b=some o->H b=none->h'.get? b=some o)
  (slot:∀ b o,b ≠ X.env.locals->b ∈ X.fs->b ∉ ch->s.heap.get? b=some o->H b=none->∃ sl,h'.get? b=some { o with slots:=sl }) (free:∀ b o,b ∉ ch->s.heap.get? b=some o->H b=none->H' b=none)
  (there:∀ b o,b ∉ ch->s.heap.get? b=some o->∃ o',h'.get? b=some o')
  (tups:∀ b xs,H b=some (.tup xs)->H' b=some (.tup xs)) (frzs:∀ b o u,H b=some (.frz o u)->H' b=some (.frz o u)) (tbls:∀ b ps,H b=some (.tbl ps)->∃ more,H' b=some (.tbl (ps ++ more)))
  (ns:∀ m,s.heap.Ns X.env.locals m->h'.Ns X.env.locals m) (hok:HOk X.prog X.w H' h') (hg:ia g') :
  Inv X pins σ H' { s with heap:=h',gens:=g',drawn:=d',toks:=t' }:=by
 have neL:∀ b o,X.s₀.heap.get? b=some o->b ≠ X.env.locals:=fun b o e=>br (bw (aH e) I.ok.above)
 have neC:∀ b o,X.s₀.heap.get? b=some o->b ∉ X.ex->b ∉ ch:=fun b o e hx hb=>by
  rcases (hch b hb).1 with z | z
  ·exact hx z
  ·exact absurd (bw (aH e) z) (cW _)
 have cellK:∀ x c,X.env.cells.lookup x=some c->∀ v,s.heap.IsCell c v->h'.IsCell c v:=fun x c e v ⟨o,ho,hd⟩=>by
  have nch:c ∉ ch:=fun z=>(hch c z).2.2.1 x c e rfl
  by_cases hc:c ∈ X.fs
  ·obtain ⟨sl,q⟩:=slot c o (I.cne x c e) hc nch ho (I.freeC x c e)
   exact ⟨_,q,hd⟩
  ·exact ⟨o,keep c o (I.cne x c e) hc nch ho (I.freeC x c e),hd⟩
 refine ⟨I.ok,I.os,hg,⟨fun b o e n hb hx=>?_,fun b o e n hb hx=>?_,fun b o e n hx=>?_,fun b o e hx=>?_,fun b xs e=>tups b xs (I.base.tups b xs e),fun b o xs e=>frzs b o xs (I.base.frzs b o xs e),fun b ps e=>?_⟩,?_,fun x c e=>?_,?_,fun x c e=>?_,fun p hp=>?_,hok,I.len⟩
 ·exact keep b o (neL b o e) hb (neC b o e hx) (I.base.keep b o e n hb hx) (I.base.free b o e n hx)
 ·obtain ⟨sl,e1⟩:=I.base.slot b o e n hb hx
  obtain ⟨sl',e2⟩:=slot b _ (neL b o e) hb (neC b o e hx) e1 (I.base.free b o e n hx)
  exact ⟨sl',e2⟩
 ·obtain ⟨o',e1⟩:=I.base.there b o e hx
  exact free b o' (neC b o e hx) e1 (I.base.free b o e n hx)
 ·obtain ⟨o',e1⟩:=I.base.there b o e hx
  exact there b o' (neC b o e hx) e1
 ·obtain ⟨m1,e1⟩:=I.base.tbls b ps e
  obtain ⟨m2,e2⟩:=tbls b _ e1
  exact ⟨m1 ++ m2,by rw [e2,nl]⟩
 ·obtain ⟨m,hn,hl⟩:=I.loc
  refine ⟨m,ns m hn,fun i x v e1 e2 e3=>?_⟩
  obtain ⟨u,r,l⟩:=hl i x v e1 e2 e3
  refine ⟨u,r,?_⟩
  rcases l with l | ⟨k,c,e,z⟩
  ·exact .inl l
  ·exact .inr ⟨k,c,e,cellK x c e _ z⟩
 ·obtain ⟨v,z⟩:=I.cell x c e
  exact ⟨v,cellK x c e v z⟩
 ·obtain ⟨m,⟨o,_,_,ho,_⟩,_⟩:=I.loc
  exact free _ o (fun z=>(hch _ z).2.1 rfl) ho I.free
 ·obtain ⟨v,o,ho,hd⟩:=I.cell x c e
  exact free c o (fun z=>(hch c z).2.2.1 x c e rfl) ho (I.freeC x c e)
 ·obtain ⟨e,n,ne,nf,d⟩:=I.pin p hp
  have nch:p.1 ∉ ch:=fun z=>(hch p.1 z).2.2.2 p hp rfl
  exact ⟨keep p.1 p.2 ne nf nch e n,free p.1 p.2 nch e n,ne,nf,d⟩
theorem Inv.un (I:Inv X pins σ H s)(u:Un X.fs [] H H' s.heap h')(hok:HOk X.prog X.w H' h'):Inv X pins σ H' { s with heap:=h',toks:=t' }:=by
 obtain ⟨m,⟨o,es,ep,ho,r⟩,_⟩:=id I.loc
 obtain ⟨sl,hL⟩:=u.any ho I.free (by simp)
 exact I.step (g':=s.gens) (d':=s.drawn) (ch:=[]) (fun _ z=>nomatch z) (fun b o _ hb _ e n=>u.keep b o e n hb (by simp)) (fun b o _ hb _ e n=>u.slot b o e n hb (by simp)) (fun b o _ e n=>u.free b o e n (by simp)) (fun b o _ e=>u.there b o e (by simp)) u.tups u.frzs u.tbls (fun m' hm=>by
  obtain ⟨o',es',ep',ho',r'⟩:=hm
  rw [ho] at ho';cases ho'
  exact ⟨_,es',ep',hL,r'⟩) hok I.bare
theorem Inv.call (I:Inv X pins σ H s)(u:Un (frs X.stack) ch H H' s.heap h')(hok:HOk X.prog X.w H' h')(hg:ia g')
  (hch:∀ b ∈ ch,(b ∈ X.ex \/ X.s₀.heap.objs.size<=b)/\b ≠ X.env.locals/\(∀ x c,X.env.cells.lookup x=some c->c ≠ b)/\∀ p ∈ X.pn ++ pins,p.1 ≠ b) :
  Inv X pins σ H' { s with heap:=h',gens:=g',drawn:=d',toks:=t' }:=by
 obtain ⟨m,⟨o,es,ep,ho,r⟩,_⟩:=id I.loc
 obtain ⟨sl,hL⟩:=u.any ho I.free fun z=>(hch _ z).2.1 rfl
 exact I.step (ch:=ch) hch (fun b o hL hb hc e n=>u.keep b o e n (fun z=>(aE.mp (I.stkSub b z)).elim hL hb) hc) (fun b o _ _ hc e n=>u.any e n hc) (fun b o hc e n=>u.free b o e n hc) (fun b o hc e=>u.there b o e hc) u.tups u.frzs u.tbls (fun m' hm=>by
  obtain ⟨o',es',ep',ho',r'⟩:=hm
  rw [ho] at ho';cases ho'
  exact ⟨_,es',ep',hL,r'⟩) hok hg
theorem Inv.turned {it:aw}(I:Inv X pins σ H s)(k:∀ b o,b ≠ it->s.heap.get? b=some o->h'.get? b=some o)(hn:H it=none)(hL:it ≠ X.env.locals)
  (h1:it ∈ X.ex \/ X.s₀.heap.objs.size<=it) (h2:∀ x c,X.env.cells.lookup x=some c->c ≠ it) (h3:∀ p ∈ X.pn ++ pins,p.1 ≠ it):Inv X pins σ H { s with heap:=h',toks:=t' }:=by
 have nit:∀ b u,H b=some u->b ≠ it:=fun b u e z=>by rw [z,hn] at e;cases e
 refine I.step (g':=s.gens) (d':=s.drawn) (ch:=[it]) (fun b hb=>?_) (fun b o _ _ hc e _=>k b o (fun z=>hc (by simp [z])) e) (fun b o _ _ hc e _=>⟨o.slots,k b o (fun z=>hc (by simp [z])) e⟩) (fun _ _ _ _ n=>n)
  (fun b o hc e=>⟨o,k b o (fun z=>hc (by simp [z])) e⟩) (fun _ _ e=>e) (fun _ _ _ e=>e) (fun b ps e=>⟨#[],by rw [e];simp⟩) (fun m hm=>?_) (fun b u e=>?_) I.bare
 ·have e:b=it:=by simpa using hb
  subst e
  exact ⟨h1,hL,h2,h3⟩
 ·obtain ⟨o,es,ep,ho,r⟩:=hm
  exact ⟨o,es,ep,k _ o (Ne.symm hL) ho,r⟩
 ·refine (I.hok b u e).stay (fun c v hc q=>k c v ?_ q) (fun _ q=>q) fun _ _ q=>q
  rcases hc with z | z
  ·rw [z];exact nit b u e
  ·exact nit c _ z
theorem Inv.tok (I:Inv X pins σ H s)(t:Nat):Inv X pins σ H { s with toks:=t }:=I.un (h':=s.heap) (t':=t) Un.refl I.hok
theorem Inv.kept (I:Inv X pins σ H s)(k:∀ b u,s.heap.get? b=some u->h'.get? b=some u):Inv X pins σ H { s with heap:=h',toks:=t' }:=I.un (Un.kept k) (I.hok.kept k)
theorem Inv.laid (I:Inv X pins σ H s)(k:∀ b u,s.heap.get? b=some u->h'.get? b=some u)(hp:s.heap.objs.size<=a)(new:zM X.prog X.w (upd H a o) h' a o) :
  Inv X pins σ (upd H a o) { s with heap:=h',toks:=t' }:=I.un (Un.laid k hp (I.hok.fresh hp)) (I.hok.laid k hp new)
theorem Inv.write {x e:aw} (I:Inv X pins σ H s)(mu:Mut (H x))(he:e=x \/ H e=some (.own x))(k:∀ b u,b ≠ e->s.heap.get? b=some u->h'.get? b=some u)(heo:∃ u,h'.get? e=some u)
  (new:zM X.prog X.w (upd H x o) h' x o):Inv X pins σ (upd H x o) { s with heap:=h',toks:=t' }:=I.un (Un.write mu he k heo) (I.hok.write mu he k heo new)
theorem Inv.pins_of {pins':List (aw × Obj)}(I:Inv X pins σ H s)(h:∀ p ∈ pins',s.heap.get? p.1=some p.2/\H p.1=none/\p.1 ≠ X.env.locals/\p.1 ∉ X.fs/\∀ v,p.2.data ≠ .cell v):Inv X pins' σ H s:=
 ⟨I.ok,I.os,I.bare,I.base,I.loc,I.cell,I.free,I.freeC,fun p hp=>(cY.mp hp).elim (fun z=>I.pin p (gX _ z)) (h p),I.hok,I.len⟩
theorem QP {N:List Str}(hN:N.Nodup){i j:Nat}{x:Str}(a:N[i]?=some x)(b:N[j]?=some x):i=j:=by
 obtain ⟨h1,e1⟩:=aF.mp a
 obtain ⟨h2,e2⟩:=aF.mp b
 exact (List.getElem_inj hN).mp (e1.trans e2.symm)
theorem yD {M : oG}{A : bj}{E : aj -> au -> Prop}{i : Nat}{x : Str}{v : V}{u : aj}{Q : Unit -> au -> Prop}(I : Inv X pins σ H s)(hN : X.N.Nodup)(hi : X.N[i]? = some x)(hx : Loc X.env.scope x)(r : zv v u)
    (h:∀ s',Inv X pins (σ.set i (some v)) H s'->(∃ a,cR a s.heap s'.heap/\(a=X.env.locals \/ X.env.cells.lookup x=some a))->Q () s') (hf:X.fn x=true \/ X.env.scope.names.lookup x=some .local:=by first | exact .inl rfl | exact .inr rfl | assumption):aK M A (storeName X.env x u) Q E s:=by
  obtain ⟨m,hn,hl⟩:=id I.loc
  have hcls:(X.env.scope.kind == .class || (X.env.scope.kind == .module && X.env.locals != X.env.globals))=false:=by rw [I.ok.kind];rfl
  have hiσ:i<σ.length:=by rw [I.len];exact (aF.mp hi).1
  have cne:=I.cne
  have tracked:∀ {a:aw} {h':Heap},(∃ o,s.heap.get? a=some o/\H a=none)->cR a s.heap h'->HOk X.prog X.w H h':=fun {a h'} ha hs b ob e=>by
    obtain ⟨_,_,hfree⟩:=ha
    refine (I.hok b ob e).stay (fun c w' hc q=>(hs.2 c ?_).trans q) (fun _ q=>q) fun _ _ q=>q
    rintro rfl
    rcases hc with rfl | hc
    · rw [hfree] at e;cases e
    · rw [hfree] at hc;cases hc
  rcases hx with hk | hk
  · refine wpAny_storeName_local hk hn (fun h' hn' hs=>?_) hcls
    obtain ⟨oL,_,_,hoL,_⟩:=id hn
    refine h _ ⟨I.ok,I.os,I.bare,⟨fun b o e n hb hx=>?_,fun b o e n hb hx=>?_,I.base.free,fun b o e hx=>?_,I.base.tups,I.base.frzs,I.base.tbls⟩,⟨_,hn',fun j y v' e1 e2 e3=>?_⟩,fun y c e=>?_,I.free,I.freeC,fun p hp=>?_,tracked ⟨oL,hoL,I.free⟩ hs,by simpa using I.len⟩ ⟨_,hs,.inl rfl⟩
    · exact (hs.2 b (br (bw (aH e) I.ok.above))).trans (I.base.keep b o e n hb hx)
    · obtain ⟨sl,e1⟩:=I.base.slot b o e n hb hx
      exact ⟨sl,(hs.2 b (br (bw (aH e) I.ok.above))).trans e1⟩
    · obtain ⟨o',e1⟩:=I.base.there b o e hx
      exact ⟨o',(hs.2 b (br (bw (aH e) I.ok.above))).trans e1⟩
    · by_cases hj:j=i
      · subst hj
        rw [hi] at e1;cases e1
        rw [dg hiσ] at e2
        cases e2
        exact ⟨u,r,.inl ⟨hk,by simp⟩⟩
      · rw [cL (Ne.symm hj)] at e2
        obtain ⟨u',r',q⟩:=hl j y v' e1 e2 e3
        refine ⟨u',r',?_⟩
        rcases q with ⟨k,e⟩ | ⟨k,c,e,z⟩
        · refine .inl ⟨k,?_⟩
          have:y ≠ x:=fun e=>hj (QP hN e1 (e ▸ hi))
          simp [this,e]
        · exact .inr ⟨k,c,e,z.sameBut hs (cne y c e)⟩
    · obtain ⟨w',z⟩:=I.cell y c e
      exact ⟨w',z.sameBut hs (cne y c e)⟩
    · obtain ⟨e,n,ne,nf,d⟩:=I.pin p hp
      exact ⟨(hs.2 p.1 ne).trans e,n,ne,nf,d⟩
  · have hfn : X.fn x = true := by
      rcases hf with z | z
      · exact z
      · rw [z] at hk;cases hk
    obtain ⟨c,hc⟩:=I.ok.has x (.inl hk)
    obtain ⟨w',z⟩:=I.cell x c hc
    refine wpAny_storeName_cell I.ok.kind hk hc z (fun h' hc' hs=>?_)
    obtain ⟨oc,hoc,hocd⟩:=id z
    refine h { s with heap:=h' } ⟨I.ok,I.os,I.bare,⟨fun b o e n hb hx=>?_,fun b o e n hb hx=>?_,I.base.free,fun b o e hx=>?_,I.base.tups,I.base.frzs,I.base.tbls⟩,⟨m,hn.sameBut hs (Ne.symm (cne x c hc)),fun j y v' e1 e2 e3=>?_⟩,fun y c' e=>?_,I.free,I.freeC,fun p hp=>?_,tracked ⟨oc,hoc,I.freeC x c hc⟩ hs,by simpa using I.len⟩ ⟨c,hs,.inr hc⟩
    · exact (hs.2 b (br (bw (aH e) (I.ok.cab x c hfn hc)))).trans (I.base.keep b o e n hb hx)
    · obtain ⟨sl,e1⟩:=I.base.slot b o e n hb hx
      exact ⟨sl,(hs.2 b (br (bw (aH e) (I.ok.cab x c hfn hc)))).trans e1⟩
    · obtain ⟨o',e1⟩:=I.base.there b o e hx
      exact ⟨o',(hs.2 b (br (bw (aH e) (I.ok.cab x c hfn hc)))).trans e1⟩
    · by_cases hj:j=i
      · subst hj
        rw [hi] at e1;cases e1
        rw [dg hiσ] at e2
        cases e2
        exact ⟨u,r,.inr ⟨.inl hk,c,hc,hc'⟩⟩
      · rw [cL (Ne.symm hj)] at e2
        obtain ⟨u',r',q⟩:=hl j y v' e1 e2 e3
        refine ⟨u',r',?_⟩
        rcases q with q | ⟨k,c',e,z'⟩
        · exact .inl q
        · refine .inr ⟨k,c',e,z'.sameBut hs ?_⟩
          rintro rfl
          exact hj (QP hN e1 (I.ok.inj _ _ _ e hc ▸ hi))
    · by_cases hcc:c'=c
      · subst hcc;exact ⟨_,hc'⟩
      · obtain ⟨w2,z2⟩:=I.cell y c' e
        exact ⟨w2,z2.sameBut hs hcc⟩
    · obtain ⟨e,n,ne,nf,d⟩:=I.pin p hp
      refine ⟨(hs.2 p.1 ?_).trans e,n,ne,nf,d⟩
      intro q
      rw [q,hoc] at e
      have q':oc=p.2:=bC e
      exact d w' (by rw [<- q'];exact hocd)
theorem xg {M:oG}{A:bj}{E:aj->au->Prop}{i:Nat}{x:Str}{v:V}{u:aj}{Q:Unit->au->Prop}(I:Inv X pins σ H s)(hN:X.N.Nodup)(hi:X.N[i]?=some x)(hx:Loc X.env.scope x)(r:zv v u)
  (h:∀ s',Inv X pins (σ.set i (some v)) H s'->Q () s') (hf:X.fn x=true \/ X.env.scope.names.lookup x=some .local:=by first | exact .inl rfl | exact .inr rfl | assumption):aK M A (storeName X.env x u) Q E s:=
 yD I hN hi hx r (fun s' I' _=>h s' I') hf
theorem Inv.call' {s':au} (I:Inv X pins σ H s)(ho:s'.os=s.os)(u:Un (frs X.stack) ch H H' s.heap s'.heap)(hok:HOk X.prog X.w H' s'.heap)(hg:ia s'.gens)
  (hch:∀ b ∈ ch,(b ∈ X.ex \/ X.s₀.heap.objs.size<=b)/\b ≠ X.env.locals/\(∀ x c,X.env.cells.lookup x=some c->c ≠ b)/\∀ p ∈ X.pn ++ pins,p.1 ≠ b):Inv X pins σ H' s':=by
 obtain ⟨h',g',d',t',o'⟩:=s'
 have e:o'=s.os:=ho
 subst e
 exact I.call (g':=g') (t':=t') (d':=d') u hok hg hch
end
abbrev XK:=aj->Option aw->Hp->Prop
abbrev St:=List (Option V)
abbrev VK:=V->Hp->Prop
abbrev TE:=St->Hp->VK->Prop
abbrev TT:=St->Hp->(Bool->Hp->Prop)->Prop
abbrev TA:=St->Hp->(List V->Hp->Prop)->Prop
structure kl where
 nx:St->Hp->Prop
 rt:VK
 bk:St->Hp->Prop:=fun _ _=>False
 ct:St->Hp->Prop:=fun _ _=>False
abbrev TS:=kl->St->Hp->Prop
def EP (X:Cx)(pins:List (aw × Obj))(σ:St)(Q:VK)(u:aj)(s':au):Prop:=∃ v H',Inv X pins σ H' s'/\zv v u/\Q v H'
def TP (X:Cx)(pins:List (aw × Obj))(σ:St)(Q:Bool->Hp->Prop)(b:Bool)(s':au):Prop:=∃ H',Inv X pins σ H' s'/\Q b H'
def AP (X:Cx)(pins:List (aw × Obj))(σ:St)(Q:List V->Hp->Prop)(us:List aj)(s':au):Prop:=∃ vs H',Inv X pins σ H' s'/\zw vs us/\Q vs H'
def SP (X:Cx)(pins:List (aw × Obj))(D:kl)(f:Flow)(s':au):Prop:=
 match f with
 | .next=>∃ σ' H',Inv X pins σ' H' s'/\D.nx σ' H'
 | .brk=>∃ σ' H',Inv X pins σ' H' s'/\D.bk σ' H'
 | .cont=>∃ σ' H',Inv X pins σ' H' s'/\D.ct σ' H'
 | .ret u=>∃ v σ' H',Inv X pins σ' H' s'/\zv v u/\D.rt v H'
def PE (X:Cx)(e:Expr)(t:TE):Prop:=
 ∀ (pins:List (aw × Obj)) (s:au) (σ:St) (H:Hp) (Q:VK),Inv X pins σ H s->t σ H Q->aK (aL X.prog X.w) X.A (eval e X.env) (EP X pins σ Q) X.xe s
def PT (X:Cx)(e:Expr)(t:TT):Prop:=
 ∀ (pins:List (aw × Obj)) (s:au) (σ:St) (H:Hp) (Q:Bool->Hp->Prop),Inv X pins σ H s->t σ H Q->aK (aL X.prog X.w) X.A (isTrue e X.env (eval e X.env)) (TP X pins σ Q) X.xe s
def PW (X:Cx)(e:Expr)(t:TT):Prop:=
 ∀ (whole:Sem aj) (pins:List (aw × Obj)) (s:au) (σ:St) (H:Hp) (Q:Bool->Hp->Prop),Inv X pins σ H s->t σ H Q->aK (aL X.prog X.w) X.A (isTrue e X.env whole) (TP X pins σ Q) X.xe s
variable {X:Cx} {e:Expr}
theorem PW.pt {t:TT}(h:PW X e t):PT X e t:=h _
def PA (X:Cx)(es:List Expr)(t:TA):Prop:=
 ∀ (pos:Pos) (pins:List (aw × Obj)) (s:au) (σ:St) (H:Hp) (Q:List V->Hp->Prop),Inv X pins σ H s->t σ H Q->aK (aL X.prog X.w) X.A (spliced (cG pos (aW es X.env))) (AP X pins σ Q) X.xe s
def PS (X:Cx)(st:de)(t:TS):Prop:=
 ∀ (pins:List (aw × Obj)) (s:au) (σ:St) (H:Hp) (D:kl),Inv X pins σ H s->t D σ H->aK (aL X.prog X.w) X.A (exec st X.env) (SP X pins D) X.xe s
def PSs (X:Cx)(st:List de)(t:TS):Prop:=
 ∀ (pins:List (aw × Obj)) (s:au) (σ:St) (H:Hp) (D:kl),Inv X pins σ H s->t D σ H->aK (aL X.prog X.w) X.A (execs st X.env) (SP X pins D) X.xe s
variable {A:bj} {E:aj->au->Prop} {s:au}
theorem thn {α:Type}{t:Sem α}{Q Q':α->au->Prop}{M:oG} (h:aK M A t Q E s)(hQ:∀ a s,Q a s->Q' a s):aK M A t Q' E s:=aO h hQ fun _ _ x=>x
section
variable {X:Cx}
variable {pins:List (aw × Obj)} {σ:St}
theorem bin {a b:Expr}{ta tb:TE}(ha:PE X a ta)(hb:PE X b tb) {R:V->V->Hp->Prop}(I:Inv X pins σ H s)(h:ta σ H fun x H1=>tb σ H1 fun y H2=>R x y H2)
  {α:Type} {Q:α->au->Prop} {f:aj->aj->Sem α}
  (hf:∀ v u s2 x y H2,Inv X pins σ H2 s2->zv x v->zv y u->R x y H2->aK (aL X.prog X.w) X.A (f v u) Q X.xe s2) :
  aK (aL X.prog X.w) X.A (eval a X.env) (fun v s₁=>aK (aL X.prog X.w) X.A (eval b X.env) (fun u s₂=>aK (aL X.prog X.w) X.A (f v u) Q X.xe s₂) X.xe s₁) X.xe s:=by
 refine thn (ha pins s σ H _ I h) fun v s1 ⟨x,H1,I1,r1,q1⟩=>?_
 refine thn (hb pins s1 σ H1 _ I1 q1) fun u s2 ⟨y,H2,I2,r2,q2⟩=>?_
 exact hf v u s2 x y H2 I2 r1 r2 q2
noncomputable def qT (i:Nat):TE:=fun σ H Q=>∃ v,σ[i]?=some (some v)/\Q v H
noncomputable def tC (v:V):TE:=fun _ H Q=>Q v H
variable {pos:Pos}
theorem Li {i:Nat}{x:Str} (hN:X.N[i]?=some x)(hv:Vis X.env.scope x)(hd:(x == ("__debug__":Str))=false:=by decide)(hcd:(x == ("__classdict__":Str))=false:=by decide):PE X (.Name x pos) (qT i):=by
 intro pins s σ H Q I h
 obtain ⟨v,e,h⟩:=h
 obtain ⟨m,hn,hl⟩:=I.loc
 obtain ⟨u,r,l⟩:=hl i x v hN e hv
 have fin:EP X pins σ Q u s:=⟨v,H,I,r,h⟩
 rcases l with ⟨hk,hm⟩ | ⟨hk,c,hc,hcell⟩
 ·exact wpAny_Name (wpAny_loadName_local I.ok.kind hk hn hm fin) hd
 ·rcases hk with hk | hk
  ·exact wpAny_Name (wpAny_loadName_cell I.ok.kind hk hc hcell fin) hd
  ·exact wpAny_Name (wpAny_loadName_free I.ok.kind hk hc hcell fin hcd) hd
theorem zc {i j pos}:PE X (.Constant (.int i) j pos) (tC (.int i)):=fun _ _ _ H _ I h=>wpAny_Constant_int ⟨.int i,H,I.tok _,⟨_,rfl⟩,h⟩
theorem jb {b j pos}:PE X (.Constant (.bool b) j pos) (tC (.bl b)):=fun _ _ _ H _ I h=>Constant_bool ⟨.bl b,H,I,rfl,h⟩
theorem jk {j pos}:PE X (.Constant .none j pos) (tC .non):=fun _ _ _ H _ I h=>Constant_none ⟨.non,H,I,rfl,h⟩
theorem zI {x j pos}:PE X (.Constant (.str x) j pos) (tC (.str x)):=fun _ _ _ H _ I h=>Calls.Constant_str ⟨.str x,H,I.tok _,⟨_,rfl⟩,h⟩
def Gl (X:Cx)(x:Str):Prop:=X.env.kindOf x=some .globalImplicit
variable {Q:aj->au->Prop}
theorem jB {x:Str}{u:aj} (I:Inv X pins σ H s)(hg:Gl X x)(hm:X.mg x=some u)(h:Q u s)
  (hd:(x == ("__debug__":Str))=false:=by decide):aK (aL X.prog X.w) X.A (eval (.Name x pos) X.env) Q E s:=
 io I.ok.kind hg (Calls.loadGlobal_global (by rw [I.ok.glob];exact I.mod.glob.keeps I.bk) hm h) hd
theorem xt {x:Str}{u:aj} (I:Inv X pins σ H s)(hg:Gl X x)(hm:X.mg x=none)(hv:bK x=some u)(h:Q u s)
  (hn:x ≠ "__name__":=by decide) (hd:(x == ("__debug__":Str))=false:=by decide):aK (aL X.prog X.w) X.A (eval (.Name x pos) X.env) Q E s:=by
 obtain ⟨mb,h1,h2⟩:=I.mod.blt
 exact io I.ok.kind hg (Calls.loadGlobal_builtin (by rw [I.ok.glob];exact I.mod.glob.keeps I.bk) hm (by rw [I.ok.blt];exact h1.keeps I.bk) ((h2 x hn).trans hv) h) hd
variable {v:V}
theorem Yg {x:Str} {u:aj} (hg:Gl X x)(hm:X.mg x=some u)(r:zv v u)(hd:(x == ("__debug__":Str))=false:=by decide):PE X (.Name x pos) (tC v):=
 fun _ _ _ H _ I h=>jB I hg hm ⟨v,H,I,r,h⟩ hd
theorem qt {x:Str} {u:aj} (hg:Gl X x)(hm:X.mg x=none)(hv:bK x=some u)(r:zv v u)(hn:x ≠ "__name__":=by decide)(hd:(x == ("__debug__":Str))=false:=by decide):PE X (.Name x pos) (tC v):=
 fun _ _ _ H _ I h=>xt I hg hm hv ⟨v,H,I,r,h⟩ hn hd
variable {a b:Expr}{ta tb:TE}{pos:Pos}
def PC (X:Cx)(op:oO)(a b:Expr)(t:TE):Prop:=
 ∀ (pins:List (aw × Obj)) (s:au) (σ:St) (H:Hp) (Q:VK),Inv X pins σ H s->t σ H Q ->
  aK (aL X.prog X.w) X.A (eval a X.env) (fun v s₁=>aK (aL X.prog X.w) X.A (eval b X.env) (fun u s₂=>aK (aL X.prog X.w) X.A (dY op v u) (EP X pins σ Q) X.xe s₂) X.xe s₁) X.xe s
variable {op:oO}
theorem As (b:Expr) (h:op ≠ .In)(h2:op ≠ .NotIn):e8 op b=false:=by
 have e1:(op == oO.In)=false:=by cases op <;> first | rfl | exact absurd rfl h
 have e2:(op == oO.NotIn)=false:=by cases op <;> first | rfl | exact absurd rfl h2
 cases b <;> simp [e8,e1,e2]
noncomputable def tB (t:TE):TT:=fun σ H Q=>t σ H fun x H1=>∃ c,x=.bl c/\Q c H1
theorem Ni {t:TE}(h:PC X op a b t)(h1:e8 op b=false:=by first | exact As _ (by decide) (by decide) | rfl):PT X (.Compare a [op] [b] pos) (tB t):=by
 intro pins s σ H Q I hw
 refine wpAny_isTrue_Compare1 (thn (h pins s σ H _ I hw) fun v s1 h1=>thn h1 fun u s2 h2=>thn h2 fun c s3 ⟨x,H1,I1,r1,q1⟩=>?_) h1
 obtain ⟨d,rfl,q⟩:=q1
 cases r1
 exact dJ ⟨H1,I1,q⟩
theorem jh {t:TE}(h:PE X e t)(he:∀ whole,isTrue e X.env whole=(do let v <- whole;iS e.pos;holding [v] (truthy v)):=by intro _;rfl):PT X e (tB t):=by
 intro pins s σ H Q I hw
 refine isTrue_plain (thn (h pins s σ H _ I hw) fun v s1 ⟨x,H1,I1,r1,q1⟩=>?_) (he _)
 obtain ⟨d,rfl,q⟩:=q1
 cases r1
 exact dJ ⟨H1,I1,q⟩
variable {tA tB':TT}{qi:List Expr}
noncomputable def HK (t u:TT):TT:=fun σ H Q=>t σ H fun c H1=>if c=true then u σ H1 Q else Q false H1
noncomputable def tOr (t u:TT):TT:=fun σ H Q=>t σ H fun c H1=>if c=true then Q true H1 else u σ H1 Q
noncomputable def Lk (t:TT):TT:=fun σ H Q=>t σ H fun c H1=>Q (!c) H1
theorem Gz (ha:PT X a tA):PW X (.BoolOp .And [a] pos) tA:=by
 intro wh pins s σ H Q I h
 refine isTrue_and (thn (ha pins s σ H Q I h) fun c s1 e=>?_)
 cases c with
 | true=>exact isTrue_and_nil e
 | false=>exact e
theorem xk (ha:PT X a tA):PW X (.BoolOp .Or [a] pos) tA:=by
 intro wh pins s σ H Q I h
 refine isTrue_or (thn (ha pins s σ H Q I h) fun c s1 e=>?_)
 cases c with
 | false=>exact isTrue_or_nil e
 | true=>exact e
theorem IF (ha:PT X a tA)(hb:PW X (.BoolOp .And (b :: qi) pos) tB'):PW X (.BoolOp .And (a :: b :: qi) pos) (HK tA tB'):=by
 intro wh pins s σ H Q I h
 refine isTrue_and (thn (ha pins s σ H _ I h) fun c s1 ⟨H1,I1,q1⟩=>?_)
 cases c with
 | true=>exact hb wh pins s1 σ H1 Q I1 q1
 | false=>exact ⟨H1,I1,q1⟩
theorem kZ (ha:PT X a tA)(hb:PW X (.BoolOp .Or (b :: qi) pos) tB'):PW X (.BoolOp .Or (a :: b :: qi) pos) (tOr tA tB'):=by
 intro wh pins s σ H Q I h
 refine isTrue_or (thn (ha pins s σ H _ I h) fun c s1 ⟨H1,I1,q1⟩=>?_)
 cases c with
 | true=>exact ⟨H1,I1,q1⟩
 | false=>exact hb wh pins s1 σ H1 Q I1 q1
theorem jy (ha:PT X a tA):PT X (.UnaryOp .Not a pos) (Lk tA):=by
 intro pins s σ H Q I h
 exact isTrue_not (ha pins s σ H (fun c H1=>Q (!c) H1) I h)
noncomputable def DT (ta tb:TE):TE:=fun σ H Q=>ta σ H fun x H1=>∃ c,x=.bl c/\if c=true then tb σ H1 Q else Q (.bl false) H1
noncomputable def DN (ta:TE):TE:=fun σ H Q=>ta σ H fun x H1=>∃ c,x=.bl c/\Q (.bl (!c)) H1
theorem WI {op}{t:TE}(h:PE X a t):PE X (.BoolOp op [a] pos) t:=fun pins s σ H Q I hw=>BoolOp_one (h pins s σ H Q I hw)
theorem Ku (ha:PE X a ta)(hb:PE X (.BoolOp .And (b :: qi) pos) tb):PE X (.BoolOp .And (a :: b :: qi) pos) (DT ta tb):=by
 intro pins s σ H Q I h
 refine BoolOp_and (thn (ha pins s σ H _ I h) fun v s1 ⟨x,H1,I1,r1,q1⟩=>?_)
 obtain ⟨c,rfl,q1⟩:=q1
 cases r1
 refine dJ ?_
 cases c with
 | true=>exact hb pins s1 σ H1 Q I1 q1
 | false=>exact ⟨.bl false,H1,I1,rfl,q1⟩
theorem Hi (ha:PE X a ta):PE X (.UnaryOp .Not a pos) (DN ta):=by
 intro pins s σ H Q I h
 refine UnaryOp_ (thn (ha pins s σ H _ I h) fun v s1 ⟨x,H1,I1,r1,q1⟩=>?_)
 obtain ⟨c,rfl,q1⟩:=q1
 cases r1
 exact not_of (dJ ⟨.bl (!c),H1,I1,rfl,q1⟩)
end
def SqL (K:ax)(H:Hp)(a:aw)(xs:List V):Prop:=
 Rd H a (.lst xs) \/
  ∃ (o:Obj) (its:Array aj) (n:Nat),K.lookup a=some o/\o.cls=.type "list"/\o.dict=none/\o.data=.seq its n/\its.size<=aM/\zw xs its.toList
def SqT (K:ax)(H:Hp)(a:aw)(xs:List V):Prop:=
 Rd H a (.tup xs) \/
  ∃ (o:Obj) (its:Array aj) (n:Nat),K.lookup a=some o/\o.cls=.type "tuple"/\o.data=.seq its n/\its.size<=aM/\zw xs its.toList
noncomputable def MZ:aj->Option V
 | .none=>some .non
 | .bool b=>some (.bl b)
 | .int i _=>some (.int i)
 | .str x _=>some (.str x)
 | .bytes b _=>some (.byt b)
 | .float b _=>some (.flt b)
 | .ref a=>some (.ref a)
 | .type n=>some (.ty n)
 | _=>none
theorem zv.abs {x:V}{u:aj}(r:zv x u):MZ u=some x:=by
 cases x with
 | non=>cases r;rfl
 | bl _=>cases r;rfl
 | int _=>obtain ⟨t,rfl⟩:=r;rfl
 | str _=>obtain ⟨t,rfl⟩:=r;rfl
 | byt _=>obtain ⟨t,rfl⟩:=r;rfl
 | flt _=>obtain ⟨t,rfl⟩:=r;rfl
 | ref _=>cases r;rfl
 | ty _=>cases r;rfl
theorem zv.inj {x y:V}{u:aj}(r:zv x u)(q:zv y u):x=y:=bC (r.abs.symm.trans q.abs)
theorem zw.inj:∀ {xs ys:List V} {us:List aj},zw xs us->zw ys us->xs=ys
 | _,_,_,.nil,.nil=>rfl
 | _,_,_,.cons r t,.cons r' t'=>by rw [r.inj r',zw.inj t t']
section
variable {X:Cx}{pins:List (aw × Obj)}{σ:St}{H:Hp}{s:au}{a:aw}{xs ys:List V}
variable {K:ax}
theorem SqL.of (h:H a=some (.lst xs)):SqL K H a xs:=.inl (.inl h)
theorem SqT.of (h:H a=some (.tup xs)):SqT K H a xs:=.inl (.inl h)
theorem Inv.list (I:Inv X pins σ H s)(h:SqL X.K H a xs):∃ its:List aj,zw xs its/\PlainL s.heap a its.toArray/\xs.length<=aM:=by
 rcases h with h | ⟨o,its,n,hk,hc,hd,hs,hz,r⟩
 ·obtain ⟨z,its,n,r,e⟩:=h.ok I.hok
  exact ⟨its,r,⟨_,n,e,rfl,rfl,rfl⟩,z⟩
 ·refine ⟨its.toList,r,⟨o,n,I.kIn a o hk,hc,hd,by simpa using hs⟩,?_⟩
  have e:=r.length
  simp only [hW] at e
  omega
theorem Inv.tuple (I:Inv X pins σ H s)(h:SqT X.K H a xs):∃ its:List aj,zw xs its/\nH s.heap a its.toArray/\xs.length<=aM:=by
 rcases h with h | ⟨o,its,n,hk,hc,hs,hz,r⟩
 ·obtain ⟨z,its,r,p⟩:=h.ok I.hok
  exact ⟨its,r,p.is,z⟩
 ·refine ⟨its.toList,r,⟨o,I.kIn a o hk,hc,n,by simpa using hs⟩,?_⟩
  have e:=r.length
  simp only [hW] at e
  omega
theorem Inv.list_inj (I:Inv X pins σ H s)(h:SqL X.K H a xs)(h':SqL X.K H a ys):xs=ys:=by
 obtain ⟨its,r,⟨o,n,e,_,_,d⟩,_⟩:=I.list h
 obtain ⟨its',r',⟨o',n',e',_,_,d'⟩,_⟩:=I.list h'
 rw [e] at e';cases e'
 rw [d] at d'
 injection d' with d1 _
 have:its=its':=by simpa using congrArg Array.toList d1
 subst this
 exact r.inj r'
theorem Inv.tuple_inj (I:Inv X pins σ H s)(h:SqT X.K H a xs)(h':SqT X.K H a ys):xs=ys:=by
 obtain ⟨its,r,⟨o,e,_,n,d⟩,_⟩:=I.tuple h
 obtain ⟨its',r',⟨o',e',_,n',d'⟩,_⟩:=I.tuple h'
 rw [e] at e';cases e'
 rw [d] at d'
 injection d' with d1 _
 have:its=its':=by simpa using congrArg Array.toList d1
 subst this
 exact r.inj r'
end
noncomputable abbrev Cx.wish (X:Cx)(E:aj->au->Prop):Cx:={ X with xe:=E }
noncomputable abbrev Cx.nox (X:Cx):Cx:=X.wish fun _ _=>False
theorem Cx.Ok.wish (ok:X.Ok)(E:aj->au->Prop):(X.wish E).Ok:=
 ⟨ok.mod,ok.kind,ok.glob,ok.blt,ok.above,ok.inj,ok.has,ok.cab,ok.hd,ok.frames,ok.stk,ok.exf,ok.bs,ok.bsz,ok.noex,ok.exfs,ok.funs,ok.frf⟩
theorem Cx.Ok.unwish (ok:(X.wish E).Ok):X.Ok:=
 ⟨ok.mod,ok.kind,ok.glob,ok.blt,ok.above,ok.inj,ok.has,ok.cab,ok.hd,ok.frames,ok.stk,ok.exf,ok.bs,ok.bsz,ok.noex,ok.exfs,ok.funs,ok.frf⟩
section
variable {X:Cx}{pins:List (aw × Obj)}{σ:St}{H:Hp}{s:au}{E:aj->au->Prop}
theorem Inv.wish (I:Inv X pins σ H s)(E:aj->au->Prop):Inv (X.wish E) pins σ H s:=⟨I.ok.wish E,I.os,I.bare,I.base,I.loc,I.cell,I.free,I.freeC,I.pin,I.hok,I.len⟩
theorem Inv.unwish (I:Inv (X.wish E) pins σ H s):Inv X pins σ H s:=⟨I.ok.unwish,I.os,I.bare,I.base,I.loc,I.cell,I.free,I.freeC,I.pin,I.hok,I.len⟩
theorem SP.unwish {D:kl}{f:Flow}{s':au}(h:SP (X.wish E) pins D f s'):SP X pins D f s':=by
 cases f with
 | next=>obtain ⟨σ',H',I,q⟩:=h;exact ⟨σ',H',I.unwish,q⟩
 | brk=>obtain ⟨σ',H',I,q⟩:=h;exact ⟨σ',H',I.unwish,q⟩
 | cont=>obtain ⟨σ',H',I,q⟩:=h;exact ⟨σ',H',I.unwish,q⟩
 | ret u=>obtain ⟨v,σ',H',I,r,q⟩:=h;exact ⟨v,σ',H',I.unwish,r,q⟩
theorem PSs.nox {st:List de}{t:TS}(h:PSs X.nox st t):PSs X st t:=fun pins s σ H D I hw=>
 aO (h pins s σ H D (I.wish _) hw) (fun _ _ q=>q.unwish) fun _ _ z=>bU z
end
section
variable {X:Cx}{st:de}{qi:List de}{t u:TS}{e:Expr}{te:TE}{pos:Pos}
noncomputable def B9:TS:=fun D σ H=>D.nx σ H
noncomputable def BV (t u:TS):TS:=fun D σ H=>t { D with nx:=u D } σ H
theorem zO:PSs X [] B9:=fun _ _ σ H _ I h=>fY ⟨σ,H,I,h⟩
theorem zd (h1:PS X st t)(h2:PSs X qi u):PSs X (st :: qi) (BV t u):=by
 intro pins s σ H D I h
 refine lr (thn (h1 pins s σ H { D with nx:=u D } I h) fun f s1 q=>?_)
 cases f with
 | next=>
  obtain ⟨σ',H',I',q⟩:=q
  exact h2 pins s1 σ' H' D I' q
 | ret v=>exact q
 | brk=>exact q
 | cont=>exact q
theorem zh (h1:PS X st t):PSs X [st] t:=by
 intro pins s σ H D I h
 refine lr (thn (h1 pins s σ H D I h) fun f s1 q=>?_)
 cases f with
 | next=>exact fY q
 | ret v=>exact q
 | brk=>exact q
 | cont=>exact q
theorem Inv.quiet {pins:List (aw × Obj)}{σ:St} (I:Inv X pins σ H s):interactive X.env=false:=by simp [interactive,I.ok.kind]
noncomputable def YM (te:TE):TS:=fun D σ H=>te σ H fun _ H1=>D.nx σ H1
theorem jW (he:PE X e te)(hs:ik e none pos.line X.env=pure false:=by rfl):PS X (.Expr e pos) (YM te):=by
 intro pins s σ H D I h
 exact wpAny_Expr_any (thn (he pins s σ H _ I h) fun v s1 ⟨x,H1,I1,r1,q1⟩=>⟨σ,H1,I1,q1⟩) I.quiet hs
noncomputable def Lv (te:TE):TS:=fun D σ H=>te σ H D.rt
theorem zK (he:PE X e te):PS X (.Return (some e) pos) (Lv te):=by
 intro pins s σ H D I h
 exact wpAny_Return_some (thn (he pins s σ H _ I h) fun v s1 ⟨x,H1,I1,r1,q1⟩=>⟨x,σ,H1,I1,r1,q1⟩)
noncomputable def F9 (c:TT)(t u:TS):TS:=fun D σ H=>c σ H fun b H1=>if b=true then t D σ H1 else u D σ H1
theorem qj {c:Expr}{a b:List de}{tc:TT}(hc:PT X c tc)(ha:PSs X a t)(hb:PSs X b u):PS X (.If c a b pos) (F9 tc t u):=by
 intro pins s σ H D I h
 refine wpAny_If (thn (hc pins s σ H _ I h) fun d s1 ⟨H1,I1,q1⟩=>?_)
 cases d with
 | true=>exact ha pins s1 σ H1 D I1 q1
 | false=>exact hb pins s1 σ H1 D I1 q1
end
abbrev TG:=V->St->Hp->(St->Hp->Prop)->Prop
abbrev TGs:=List V->St->Hp->(St->Hp->Prop)->Prop
def PG (X:Cx)(target:Expr)(t:TG):Prop:=
 ∀ (pins:List (aw × Obj)) (s:au) (σ:St) (H:Hp) (v:V) (u:aj) (Q:St->Hp->Prop),Inv X pins σ H s->zv v u->t v σ H Q ->
  aK (aL X.prog X.w) X.A (iq target X.env u) (fun _ s'=>∃ σ' H',Inv X pins σ' H' s'/\Q σ' H') X.xe s
def PGs (X:Cx)(ts:List Expr)(t:TGs):Prop:=
 ∀ (pins:List (aw × Obj)) (s:au) (σ:St) (H:Hp) (vs:List V) (us:List aj) (Q:St->Hp->Prop),Inv X pins σ H s->zw vs us->t vs σ H Q ->
  aK (aL X.prog X.w) X.A (mZ ((eR ts X.env).map (·.2)) us) (fun _ s'=>∃ σ' H',Inv X pins σ' H' s'/\Q σ' H') X.xe s
abbrev QR:=V->V->V->Hp->(Hp->Prop)->Prop
def Fy (X:Cx)(t:QR):Prop:=
 ∀ (pins:List (aw × Obj)) (s:au) (σ:St) (H:Hp) (o i v:V) (ov iv u:aj) (Q:Hp->Prop),Inv X pins σ H s->zv o ov->zv i iv->zv v u->t o i v H Q ->
  aK (aL X.prog X.w) X.A (setItem ov iv u) (fun _ s'=>∃ H',Inv X pins σ H' s'/\Q H') X.xe s
abbrev TIp:=V->V->Hp->VK->Prop
def PIp (X:Cx)(op:Operator)(t:TIp):Prop:=
 ∀ (pins:List (aw × Obj)) (s:au) (σ:St) (H:Hp) (x y:V) (v u:aj) (Q:VK),Inv X pins σ H s->zv x v->zv y u->t x y H Q ->
  aK (aL X.prog X.w) X.A (inplaceOp op v u) (EP X pins σ Q) X.xe s
section
variable {X:Cx}{pos:Pos}
noncomputable def wj (i:Nat):TG:=fun v σ H Q=>Q (σ.set i (some v)) H
variable {i:Nat}
theorem zu {x:Str}(hN:X.N.Nodup)(hi:X.N[i]?=some x)(hx:Loc X.env.scope x)(hf:X.fn x=true \/ X.env.scope.names.lookup x=some .local:=by first | exact .inl rfl | exact .inr rfl | assumption):PG X (.Name x pos) (wj i):=by
 intro pins s σ H v u Q I r h
 exact iT (xg I hN hi hx r (fun s' I'=>⟨_,H,I',h⟩) hf)
noncomputable def FX:TGs:=fun vs σ H Q=>vs=[]/\Q σ H
noncomputable def YE (t:TG)(u:TGs):TGs:=fun vs σ H Q=>∃ v r,vs=v :: r/\t v σ H fun σ' H'=>u r σ' H' Q
theorem qS:PGs X [] FX:=by
 intro pins s σ H vs us Q I r h
 obtain ⟨e,h⟩:=h
 subst e
 cases r
 exact assignInOrder_nil ⟨σ,H,I,h⟩
theorem zG {e:Expr}{es:List Expr}{t:TG}{u:TGs}(h1:PG X e t)(h2:PGs X es u)
  (hs:(eR (e :: es) X.env).map (·.2)=iq e X.env :: (eR es X.env).map (·.2):=by rfl):PGs X (e :: es) (YE t u):=by
 intro pins s σ H vs us Q I r h
 obtain ⟨v,vr,e1,h⟩:=h
 subst e1
 cases r with
 | cons r rr=>
  rw [hs]
  refine ir (thn (h1 pins s σ H _ _ _ I r h) fun _ s1 ⟨σ1,H1,I1,q1⟩=>?_)
  exact h2 pins s1 σ1 H1 _ _ Q I1 rr q1
noncomputable def Kr (K:ax)(n:Nat)(t:TGs):TG:=fun v σ H Q=>∃ a xs,v=.ref a/\SqT K H a xs/\xs.length=n/\t xs σ H Q
theorem B5 {es:List Expr}{k:Nat}{t:TGs}{n:Nat}(hc:X.calm=true)(h:PGs X es t)
  (hn:(eR es X.env).length=n:=by rfl) (hst:(eR es X.env).findIdx? (·.1)=none:=by rfl):PG X (.Tuple es k pos) (Kr X.K n t):=by
 intro pins s σ H v u Q I r hw
 obtain ⟨a,xs,e1,hq,hl,hw⟩:=hw
 subst e1
 cases r
 obtain ⟨its,rv,ht,hz⟩:=I.tuple hq
 refine assign_Tuple_tuple (I.ok.hd hc) ht (by simp [hn,<- hl,rv.length]) hst fun h' hx=>?_
 have I1:Inv X pins σ H { s with heap:=h' }:=I.kept (t':=s.toks) fun b o e=>hx b o (br (aH e)) e
 exact h pins _ σ H xs _ Q I1 (by simpa using rv) hw
noncomputable def IX (to ti:TE)(t:QR):TG:=fun v σ H Q=>to σ H fun o H1=>ti σ H1 fun i H2=>t o i v H2 fun H3=>Q σ H3
theorem ju {o i:Expr}{to ti:TE}{t:QR}(ho:PE X o to)(hi:PE X i ti)(hs:Fy X t)
  (ha:∀ v,iq (.Subscript o i pos) X.env v=(do
   let ov <- holding [v] (eval o X.env)
   let iv <- holding [v,ov] (eval i X.env)
   iS pos
   holding [v,ov,iv] (setItem ov iv v)
   release [v,ov,iv] []):=by intro _;rfl):PG X (.Subscript o i pos) (IX to ti t):=by
 intro pins s σ H v u Q I r h
 rw [ha]
 refine am (cq (thn (ho pins s σ H _ I h) fun ov s1 ⟨x,H1,I1,r1,q1⟩=>?_))
 refine am (cq (thn (hi pins s1 σ H1 _ I1 q1) fun iv s2 ⟨y,H2,I2,r2,q2⟩=>?_))
 refine am (cz (am (cq (thn (hs pins s2 σ H2 x y v ov iv u _ I2 r1 r2 r q2) fun _ s3 ⟨H3,I3,q3⟩=>?_))))
 exact wpAny_release ⟨σ,H3,I3,q3⟩
noncomputable def ZE (te:TE)(g:TG):TS:=fun D σ H=>te σ H fun x H1=>g x σ H1 D.nx
variable {te:TE}
theorem jN {tg e:Expr} {g:TG}(he:PE X e te)(hg:PG X tg g)(hs:swapsWithSole [tg] e pos.line X.env=pure false:=by rfl)(hw:swappedStores [tg] e X.env=pure none:=by rfl)
  (h1:(eR [tg] X.env).map (·.2)=[iq tg X.env]:=by rfl):PS X (.Assign [tg] e pos) (ZE te g):=by
 intro pins s σ H D I h
 refine wpAny_Assign_stores (thn (he pins s σ H _ I h) fun v s1 ⟨x,H1,I1,r1,q1⟩=>?_) hs hw
 rw [h1]
 exact thn (hg pins s1 σ H1 x v _ I1 r1 q1) fun _ s2 q=>q
theorem zy {x:Str} {pos':Pos}(hN:X.N.Nodup)(hi:X.N[i]?=some x)(hx:Loc X.env.scope x)(he:PE X e te)(hs:ik e (some (.Name x pos')) pos.line X.env=pure false:=by rfl)(hf:X.fn x=true \/ X.env.scope.names.lookup x=some .local:=by first | exact .inl rfl | exact .inr rfl | assumption) :
  PS X (.Assign [.Name x pos'] e pos) (ZE te (wj i)):=by
 intro pins s σ H D I h
 refine wpAny_Assign_Name (thn (he pins s σ H _ I h) fun v s1 ⟨y,H1,I1,r1,q1⟩=>?_) hs
 exact xg I1 hN hi hx r1 (fun s2 I2=>⟨_,H1,I2,q1⟩) hf
noncomputable def IH (i j:Nat)(ta:TA):TS:=fun D σ H=>ta σ H fun vs H1=>∃ v w,vs=[v,w]/\D.nx ((σ.set i (some v)).set j (some w)) H1
theorem JX {i j:Nat}{x y:Str}{a b:Expr}{ta:TA}{px py pt:Pos}{kt k2 pt2}(hc:X.calm=true)(hN:X.N.Nodup)(hi:X.N[i]?=some x)(hj:X.N[j]?=some y)(hij:i ≠ j)
  (hx:X.env.scope.names.lookup x=some .local) (hy:X.env.scope.names.lookup y=some .local) (ha:PA X [a,b] ta)
  (hw:swappedStores [.Tuple [.Name x px,.Name y py] kt pt] (.Tuple [a,b] k2 pt2) X.env=pure (some [x,y]))
  (hs:swapsWithSole [.Tuple [.Name x px,.Name y py] kt pt] (.Tuple [a,b] k2 pt2) pos.line X.env=pure false:=by rfl) :
  PS X (.Assign [.Tuple [.Name x px,.Name y py] kt pt] (.Tuple [a,b] k2 pt2) pos) (IH i j ta):=by
 intro pins s σ H D I h
 rw [exec_Assign_arm]
 refine am (cz ?_)
 rw [hs]
 refine am (aA ?_)
 rw [if_neg (by decide)]
 refine am (Tuple_ (thn (ha _ pins s σ H _ I h) fun us s1 ⟨vs,H1,I1,r1,q1⟩=>?_))
 obtain ⟨v,w,e1,q1⟩:=q1
 subst e1
 obtain ⟨u1,u2,rfl,rv,rw'⟩:∃ u1 u2,us=[u1,u2]/\zv v u1/\zv w u2:=by
  cases r1 with
  | cons p q=>
   cases q with
   | cons p' q'=>
    cases q'
    exact ⟨_,_,rfl,p,p'⟩
 refine bI ?_ (by show 2<=aM;decide)
 have I2:Inv X pins σ H1 { s1 with heap:=s1.heap.push { cls:=.type "tuple",data:=.seq [u1,u2].toArray } }:=I1.kept (t':=s1.toks) fun b o e=>ay _ e
 rw [hw]
 refine am (aA ?_)
 show aK (aL X.prog X.w) X.A (do rule "assign.swapped-stores";let items <- unpackItems (.ref s1.heap.objs.size) 2 none;mZ [fun v=>bindName X.env y v,fun v=>bindName X.env x v] items.reverse;pure Flow.next) _ _ _
 refine am (lJ (am (unpackItems_tuple (items:=#[u1,u2]) (I.ok.hd hc) (nH.new s1.heap _) fun h' hx'=>?_)))
 have I3:=I2.kept (h':=h') (t':=s1.toks) fun b o e=>hx' b o (br (aH e)) e
 show aK _ _ (mZ [fun v=>bindName X.env y v,fun v=>bindName X.env x v] [u2,u1] >>= fun _=>pure Flow.next) _ _ _
 refine am (ir (wpAny_bindName (xg I3 hN hj (.inl hy) rw' (fun s2 I4=>?_) (.inr hy))))
 refine ir (wpAny_bindName (xg I4 hN hi (.inl hx) rv (fun s3 I5=>assignInOrder_nil (aA ?_)) (.inr hx)))
 rw [List.set_comm _ _ (Ne.symm hij)] at I5
 exact ⟨_,H1,I5,q1⟩
noncomputable def DV (to ti te:TE)(tget:V->V->Hp->VK->Prop)(tip:TIp)(tset:QR):TS:=fun D σ H=>to σ H fun o H1=>ti σ H1 fun i H2=>tget o i H2 fun x H3=>te σ H3 fun y H4=>tip x y H4 fun z H5=>tset o i z H5 fun H6=>D.nx σ H6
def MD (X:Cx)(t:V->V->Hp->VK->Prop):Prop:=
 ∀ (pins:List (aw × Obj)) (s:au) (σ:St) (H:Hp) (o i:V) (ov iv:aj) (Q:VK),Inv X pins σ H s->zv o ov->zv i iv->t o i H Q ->
  aK (aL X.prog X.w) X.A (fZ ov iv) (EP X pins σ Q) X.xe s
theorem vk {o i e:Expr}{to ti te:TE}{tget:V->V->Hp->VK->Prop}{tip:TIp}{tset:QR}{op:Operator}{tpos:Pos}(ho:PE X o to)(hi:PE X i ti)(hg:MD X tget)(he:PE X e te)(hp:PIp X op tip)(hs:Fy X tset)
  (ha:∀ ov iv new,augStore i ov iv new=(do holding [new,ov,iv] (setItem ov iv new);release [new,ov,iv] [];pure .next):=by intros;rfl):PS X (.AugAssign (.Subscript o i tpos) op e pos) (DV to ti te tget tip tset):=by
 intro pins s σ H D I h
 refine wpAny_AugAssign_SubscriptAny (thn (ho pins s σ H _ I h) fun ov s1 ⟨x1,H1,I1,r1,q1⟩=>?_) ha
 refine thn (hi pins s1 σ H1 _ I1 q1) fun iv s2 ⟨x2,H2,I2,r2,q2⟩=>?_
 refine thn (hg pins s2 σ H2 x1 x2 ov iv _ I2 r1 r2 q2) fun old s3 ⟨x3,H3,I3,r3,q3⟩=>?_
 refine thn (he pins s3 σ H3 _ I3 q3) fun v s4 ⟨x4,H4,I4,r4,q4⟩=>?_
 refine thn (hp pins s4 σ H4 x3 x4 old v _ I4 r3 r4 q4) fun new s5 ⟨x5,H5,I5,r5,q5⟩=>?_
 exact thn (hs pins s5 σ H5 x1 x2 x5 ov iv new _ I5 r1 r2 r5 q5) fun _ s6 ⟨H6,I6,q6⟩=>⟨σ,H6,I6,q6⟩
noncomputable def ipI (f:Int->Int->Int):TIp:=fun x y H Q=>∃ i j,x=.int i/\y=.int j/\Q (.int (f i j)) H
theorem ZC:PIp X .Add (ipI fun i j=>i+j):=by
 intro pins s σ H x y v u Q I r1 r2 h
 obtain ⟨i,j,e1,e2,q⟩:=h
 subst e1;subst e2
 obtain ⟨t,rfl⟩:=r1
 obtain ⟨t',rfl⟩:=r2
 exact iadd_int ⟨.int _,H,I.tok _,⟨_,rfl⟩,q⟩
end
section
variable {X:Cx}{pos:Pos}
end
structure It where
 go:Nat->Hp->Prop
 yld:Nat->Hp->V->Hp->Prop
 stop:Nat->Hp->Prop
def xK (X:Cx)(pins:List (aw × Obj))(H:Hp)(b:aw):Prop:=
 H b=none/\b ≠ X.env.locals/\b ∉ X.fs/\(b ∈ X.ex \/ X.s₀.heap.objs.size<=b)/\(∀ x c,X.env.cells.lookup x=some c->c ≠ b)/\∀ p ∈ X.pn ++ pins,p.1 ≠ b
variable {pins:List (aw × Obj)} {σ:St}
theorem Inv.fpOk {H H':Hp} (I:Inv X pins σ H s)(hb:s.heap.objs.size<=b)(hn:H' b=none):xK X pins H' b:=by
 refine ⟨hn,eA (bw I.lt hb),I.nofs hb,.inr (aZ I.sz hb),fun x c e z=>?_,fun p hp z=>?_⟩
 ·obtain ⟨v,q⟩:=I.cell x c e
  exact absurd (bw q.lt (by rw [z];exact hb)) (cW _)
 ·exact absurd (bw (aH (I.pin p hp).1) (by rw [z];exact hb)) (cW _)
structure Qv (P:aX)(w:bB)(K:ax)(tg:Expr)(J:It)(fp:List aw)(it:aw)(tn:Nat->Heap->Prop):Prop where
 mem:it ∈ fp
 obj:∀ i h,tn i h->∀ b ∈ fp,∃ o,h.get? b=some o/\∀ v,o.data ≠ .cell v
 keep:∀ i h h',tn i h->(∀ b ∈ fp,∀ o,h.get? b=some o->h'.get? b=some o)->tn i h'
 item:∀ (X:Cx),X.prog=P->X.w=w->X.K=K->X.calm=true->∀ (i:Nat) (pins:List (aw × Obj)) (s:au) (σ:St) (H:Hp) (E:aj->au->Prop),Inv X pins σ H s->(∀ b ∈ fp,xK X pins H b)->tn i s.heap->J.go i H ->
  aK (aL P w) X.A (lK (.ref it)) (fun r s1=>∃ u,r=some u /\
   aK (aL P w) X.A (f7 tg (.ref it) u) (fun _ s2=>∃ x H',Inv X pins σ H' s2/\zv x u/\J.yld i H x H'/\tn (i+1) s2.heap/\∀ b ∈ fp,H' b=none) E s1) E s
 done:∀ (X:Cx),X.prog=P->X.w=w->X.K=K->X.calm=true->∀ (i:Nat) (pins:List (aw × Obj)) (s:au) (σ:St) (H:Hp) (E:aj->au->Prop),Inv X pins σ H s->(∀ b ∈ fp,xK X pins H b)->tn i s.heap->J.stop i H ->
  aK (aL P w) X.A (lK (.ref it)) (fun r s1=>r=none/\Inv X pins σ H s1) E s
 self:∀ (A:bj) (i:Nat) (s:au) (Q:aj->au->Prop) (E:aj->au->Prop),tn i s.heap->Q (.ref it) s->aK (aL P w) A (pyIter (.ref it)) Q E s
abbrev TI:=St->Hp->(It->Hp->Prop)->Prop
def PIE (X:Cx)(pins:List (aw × Obj))(σ:St)(tg:Expr)(R:It->Hp->Prop)(itv:aj)(s2:au):Prop:=
 ∃ (it:aw) (fp:List aw) (tn:Nat->Heap->Prop) (J:It) (H':Hp),itv=.ref it/\Inv X pins σ H' s2/\Qv X.prog X.w X.K tg J fp it tn/\tn 0 s2.heap/\(∀ b ∈ fp,xK X pins H' b)/\R J H'
def PI (X:Cx)(tg iter:Expr)(wi:TI):Prop:=
 ∀ (pins:List (aw × Obj)) (s:au) (σ:St) (H:Hp) (R:It->Hp->Prop),Inv X pins σ H s->wi σ H R ->
  aK (aL X.prog X.w) X.A (eval iter X.env) (fun v s1=>aK (aL X.prog X.w) X.A (pyIter v) (PIE X pins σ tg R) X.xe s1) X.xe s
theorem Wt {M : oG}{A : bj}{E : aj -> au -> Prop}{s : au}{tg : Expr}{it : aw}{u : aj}{o : Obj}{n : String}{vs : Array aj}{Q : Unit -> au -> Prop}(ho : s.heap.get? it = some o)(hc : o.cls = .type n)(hd : o.data = .fields vs)
    (hn:["enumerate","zip","dict_itemiterator","dict_reverseitemiterator","odict_iterator","itertools.zip_longest","itertools.pairwise"].contains n=false) (hQ:Q () s):aK M A (f7 tg (.ref it) u) Q E s:=by
  unfold f7
  cases tg <;> first
    | exact aA hQ
    | (cases u <;> first
        | exact aA hQ
        | (refine am (wpAny_load ho ?_)
           rw [hc,hd]
           show aK M A (if (["enumerate","zip","dict_itemiterator","dict_reverseitemiterator","odict_iterator","itertools.zip_longest","itertools.pairwise"].contains n && vs[0]? == some (iu _))=true then _ else _) Q E s
           rw [if_neg (by intro h;rw [hn,Bool.false_and] at h;cases h)]
           exact aA hQ))
noncomputable def Itl (K:ax)(a:aw):It:=
 ⟨fun i H=>∃ xs x,SqL K H a xs/\xs[i]?=some x,fun i H x H'=>H'=H/\∀ xs,SqL K H a xs->xs[i]?=some x,fun i H=>∃ xs,SqL K H a xs/\xs.length<=i⟩
noncomputable def Itt (K:ax)(a:aw):It:=
 ⟨fun i H=>∃ xs x,SqT K H a xs/\xs[i]?=some x,fun i H x H'=>H'=H/\∀ xs,SqT K H a xs->xs[i]?=some x,fun i H=>∃ xs,SqT K H a xs/\xs.length<=i⟩
noncomputable def Itr (lo:Int)(n:Nat):It:=⟨fun i _=>i<n,fun i H x H'=>H'=H/\x=.int (lo+i),fun i _=>n<=i⟩
variable {K:ax} {tg:Expr}
theorem VB (a it:aw):Qv P w K tg (Itl K a) [it] it (fun i h=>h.IsListIter it a i) where
 mem:=by simp
 obj:=fun i h st b hb=>by
  have e:b=it:=by simpa using hb
  subst e
  obtain ⟨o,e,c,d⟩:=st
  exact ⟨o,e,fun v z=>by rw [d] at z;cases z⟩
 keep:=fun i h h' st k=>st.at fun o e=>k it (by simp) o e
 item:=by
  intro X hP hw hK hc i pins s σ H E I hf st hg
  subst hP hw hK
  obtain ⟨xs,x,hq,hx⟩:=hg
  obtain ⟨its,rv,p,hz⟩:=I.list hq
  obtain ⟨u,hu,ru⟩:=rv.get hx
  obtain ⟨f0,f1,f2,f3,f4,f5⟩:=hf it (by simp)
  refine wpAny_pyNext_list_item st p.isList (x:=u) (by simpa using hu) fun h' st' sb=>?_
  have I1:Inv X pins σ H { s with heap:=h' }:=I.turned (t':=s.toks) (fun b o hb e=>(sb.2 b hb).trans e) f0 f1 f3 f4 f5
  obtain ⟨o,e,c,d⟩:=id st'
  exact ⟨u,rfl,Wt (s:={ s with heap:=h' }) e c d (by decide) ⟨x,H,I1,ru,⟨rfl,fun ys hy=>by rw [I.list_inj hy hq];exact hx⟩,st',fun b hb=>(hf b hb).1⟩⟩
 done:=by
  intro X hP hw hK hc i pins s σ H E I hf st hg
  subst hP hw hK
  obtain ⟨xs,hq,hx⟩:=hg
  obtain ⟨its,rv,p,hz⟩:=I.list hq
  obtain ⟨f0,f1,f2,f3,f4,f5⟩:=hf it (by simp)
  have hl:=rv.length
  exact wpAny_pyNext_list_end (I.ok.hd hc) st p.isList (by simp;omega) fun h' eb=>⟨rfl,I.turned (t':=s.toks) (fun b o hb e=>eb b o hb e) f0 f1 f3 f4 f5⟩
 self:=fun _ _ _ _ _ st h=>wpAny_pyIter_listiter st h
theorem vA (a it:aw):Qv P w K tg (Itt K a) [it] it (fun i h=>h.IsTupleIter it a i) where
 mem:=by simp
 obj:=fun i h st b hb=>by
  have e:b=it:=by simpa using hb
  subst e
  obtain ⟨o,e,c,d⟩:=st
  exact ⟨o,e,fun v z=>by rw [d] at z;cases z⟩
 keep:=fun i h h' st k=>st.at fun o e=>k it (by simp) o e
 item:=by
  intro X hP hw hK hc i pins s σ H E I hf st hg
  subst hP hw hK
  obtain ⟨xs,x,hq,hx⟩:=hg
  obtain ⟨its,rv,p,hz⟩:=I.tuple hq
  obtain ⟨u,hu,ru⟩:=rv.get hx
  obtain ⟨f0,f1,f2,f3,f4,f5⟩:=hf it (by simp)
  refine wpAny_pyNext_tuple_item st (show s.heap.IsTuple a its.toArray from p) (x:=u) (by simpa using hu) fun h' st' sb=>?_
  have I1:Inv X pins σ H { s with heap:=h' }:=I.turned (t':=s.toks) (fun b o hb e=>(sb.2 b hb).trans e) f0 f1 f3 f4 f5
  obtain ⟨o,e,c,d⟩:=id st'
  exact ⟨u,rfl,Wt (s:={ s with heap:=h' }) e c d (by decide) ⟨x,H,I1,ru,⟨rfl,fun ys hy=>by rw [I.tuple_inj hy hq];exact hx⟩,st',fun b hb=>(hf b hb).1⟩⟩
 done:=by
  intro X hP hw hK hc i pins s σ H E I hf st hg
  subst hP hw hK
  obtain ⟨xs,hq,hx⟩:=hg
  obtain ⟨its,rv,p,hz⟩:=I.tuple hq
  obtain ⟨f0,f1,f2,f3,f4,f5⟩:=hf it (by simp)
  have hl:=rv.length
  exact wpAny_pyNext_tuple_end (I.ok.hd hc) st (show s.heap.IsTuple a its.toArray from p) (by simp;omega) fun h' eb=>⟨rfl,I.turned (t':=s.toks) (fun b o hb e=>eb b o hb e) f0 f1 f3 f4 f5⟩
 self:=fun _ _ _ _ _ st h=>wpAny_pyIter_tupleiter st h
theorem K7 (it:aw)(lo:Int)(n:Nat):Qv P w K tg (Itr lo n) [it] it (fun i h=>IsRangeIter h it (lo+(i:Nat) * 1) ((n:Int) - (i:Nat)) 1) where
 mem:=by simp
 obj:=fun i h st b hb=>by
  have e:b=it:=by simpa using hb
  subst e
  exact ⟨_,st,fun v z=>by
   have z':iU _=gq v:=z
   cases z'⟩
 keep:=fun i h h' st k=>k it (by simp) _ st
 item:=by
  intro X hP hw hK hc i pins s σ H E I hf st hg
  subst hP hw hK
  obtain ⟨f0,f1,f2,f3,f4,f5⟩:=hf it (by simp)
  have W:=Walks.range (prog:=X.prog) (w:=X.w) (I.ok.hd hc) it lo 1 n
  refine W.item i s _ _ hg st fun v h' tk hv st' kk=>?_
  obtain ⟨t,rfl⟩:=hv
  have I1:Inv X pins σ H { s with heap:=h',toks:=tk }:=I.turned (fun b o hb e=>kk b o (by simpa using hb) e) f0 f1 f3 f4 f5
  refine ⟨_,rfl,Wt (s:={ s with heap:=h',toks:=tk }) (n:="range_iterator") st' rfl rfl (by decide) ⟨.int (lo+i),H,I1,⟨t,?_⟩,⟨rfl,rfl⟩,st',fun b hb=>(hf b hb).1⟩⟩
  rw [gr]
 done:=by
  intro X hP hw hK hc i pins s σ H E I hf st hg
  subst hP hw hK
  obtain ⟨f0,f1,f2,f3,f4,f5⟩:=hf it (by simp)
  exact wpAny_pyNext_range_end (I.ok.hd hc) st (by have:n<=i:=hg;omega) fun h' eb=>⟨rfl,I.turned (t':=s.toks) (fun b o hb e=>eb b o hb e) f0 f1 f3 f4 f5⟩
 self:=fun _ _ _ _ _ st h=>wpAny_pyIter_rangeiter st h
section
variable {X:Cx}{tg:Expr}
noncomputable def LY (K:ax)(tl:TE):TI:=fun σ H R=>tl σ H fun x H1=>∃ a,x=.ref a/\(∃ xs,SqT K H1 a xs)/\R (Itt K a) H1
theorem Ed {l:Expr}{tl:TE}(hl:PE X l tl):PI X tg l (LY X.K tl):=by
 intro pins s σ H R I h
 refine thn (hl pins s σ H _ I h) fun v s1 ⟨x,H1,I1,r1,q1⟩=>?_
 obtain ⟨a,e,⟨xs,hq⟩,q⟩:=q1
 subst e
 cases r1
 obtain ⟨its,rv,p,hz⟩:=I1.tuple hq
 refine eT (show s1.heap.IsTuple a its.toArray from p) ?_
 refine ⟨s1.heap.objs.size,[s1.heap.objs.size],_,_,H1,rfl,I1.kept (t':=s1.toks) fun b o e=>ay _ e,vA a _,⟨_,aQ _ rfl,rfl,rfl⟩,fun b hb=>?_,q⟩
 have e:b=s1.heap.objs.size:=by simpa using hb
 subst e
 exact I1.fpOk (aJ _) (I1.hok.fresh (aJ _))
theorem Al {R:It->Hp->Prop} {lo hi:Int}{t u v:Tok}{tk:Nat}(I:Inv X pins σ H s)(h1:-(2 ^ 62)<=lo)(h2:lo<2 ^ 62)(h3:-(2 ^ 62)<=hi)(h4:hi<2 ^ 62)
  (q:R (Itr lo (hi - lo).toNat) H):aK (aL X.prog X.w) X.A (pyIter (.ref s.heap.objs.size)) (PIE X pins σ tg R) E { s with heap:=s.heap.push { cls:=.type "range",data:=.fields #[.int lo t,.int hi u,.int 1 v] },toks:=tk }:=by
 refine wpAny_pyIter_range (IsRange.new ..) (small_one h1 h2 h3 h4) ?_
 have I1:Inv X pins σ H { s with heap:=s.heap.push { cls:=.type "range",data:=.fields #[.int lo t,.int hi u,.int 1 v] },toks:=tk }:=I.kept fun b o e=>ay _ e
 refine ⟨(s.heap.push { cls:=.type "range",data:=.fields #[.int lo t,.int hi u,.int 1 v] }).objs.size,[(s.heap.push { cls:=.type "range",data:=.fields #[.int lo t,.int hi u,.int 1 v] }).objs.size],_,_,H,rfl,
  I1.kept (t':=tk) fun b o e=>ay _ e,K7 _ lo (hi - lo).toNat,?_,fun b hb=>?_,q⟩
 ·have e1:lo+((0:Nat):Int) * 1=lo:=by simp
  have e2:(((hi - lo).toNat:Nat):Int) - ((0:Nat):Int)=eN lo hi 1:=by rw [rangeSize_one];split <;> omega
  show IsRangeIter _ _ (lo+((0:Nat):Int) * 1) ((((hi - lo).toNat:Nat):Int) - ((0:Nat):Int)) 1
  rw [e1,e2]
  exact aQ _ rfl
 ·have e:b=(s.heap.push { cls:=.type "range",data:=.fields #[.int lo t,.int hi u,.int 1 v] }).objs.size:=by simpa using hb
  subst e
  exact I1.fpOk (aJ _) (I1.hok.fresh (aJ _))
noncomputable def BM (ta:TA):TI:=fun σ H R=>ta σ H fun vs H1=>∃ j:Int,vs=[.int j]/\-(2 ^ 62)<=j/\j<2 ^ 62/\R (Itr 0 j.toNat) H1
theorem qL {a:Expr}{ta:TA}{p pos:Pos}(hg:Gl X "range")(hm:X.mg "range"=none)(ha:PA X [a] ta)(hs:aW [a] X.env=[(false,eval a X.env)]:=by rfl):PI X tg (.Call (.Name "range" p) [a] [] pos) (BM ta):=by
 intro pins s σ H R I h
 refine Call_ (xt I hg hm boot_range (cI (thn (ha pos pins s σ H _ I h) fun us s1 ⟨vs,H1,I1,r1,q1⟩=>?_) hs rfl))
 obtain ⟨j,e,q1,q2,q⟩:=q1
 subst e
 cases r1 with
 | cons r rr=>
  cases rr
  obtain ⟨t,rfl⟩:=r
  exact call_range_1 (Al I1 (by omega) (by omega) q1 q2 (by simpa using q))
noncomputable def Z4 (wi:TI)(g:TG)(tb:TS):TS:=fun D σ H=>wi σ H fun J H1=>∃ W:Nat->Nat->St->Hp->Prop,(∃ m,W 0 m σ H1)/\∀ i m σ H,W i m σ H ->
 (J.stop i H/\D.nx σ H) \/ (J.go i H/\∃ N:St->Hp->Prop,(∀ σ' H',N σ' H'->∃ m',m'<m/\W (i+1) m' σ' H')/\∀ x H',J.yld i H x H'->g x σ H' fun σ2 H2=>tb { D with nx:=N,ct:=N,bk:=D.nx } σ2 H2)
noncomputable def yJ (fp:List aw)(h:Heap):List (aw × Obj):=fp.filterMap fun b=>(h.get? b).map fun o=>(b,o)
variable {fp:List aw}
theorem jf {h:Heap} {o:Obj}(hb:b ∈ fp)(e:h.get? b=some o):(b,o) ∈ yJ fp h:=eU.mpr ⟨b,hb,by rw [e];rfl⟩
theorem Vj {fp:List aw}{h:Heap}{p:aw × Obj}(hp:p ∈ yJ fp h):p.1 ∈ fp/\h.get? p.1=some p.2:=by
 obtain ⟨b,hb,e⟩:=eU.mp hp
 cases q:h.get? b with
 | none=>rw [q] at e;cases e
 | some o=>
  rw [q] at e
  have e':(b,o)=p:=bC e
  subst e'
  exact ⟨hb,q⟩
theorem Inv.pinned (I:Inv X pins σ H s)(hf:∀ b ∈ fp,xK X pins H b)(ho:∀ b ∈ fp,∃ o,s.heap.get? b=some o/\∀ v,o.data ≠ .cell v):Inv X (pins ++ yJ fp s.heap) σ H s:=
 I.pins_of fun p hp=>(cY.mp hp).elim (fun z=>I.pin p (bE _ z)) fun z=>by
  obtain ⟨hb,e⟩:=Vj z
  obtain ⟨f0,f1,f2,_⟩:=hf p.1 hb
  obtain ⟨o,e',d⟩:=ho p.1 hb
  rw [e] at e';cases e'
  exact ⟨e,f0,f1,f2,d⟩
theorem Inv.unpinned {pins pl:List (aw × Obj)} (I:Inv X (pins ++ pl) σ H s):Inv X pins σ H s:=I.pins_of fun p hp=>I.pin p (bE _ (gX _ hp))
theorem ka {iter:Expr}{body:List de}{wi:TI}{g:TG}{tb:TS}{pos:Pos}(hp:dZ (aL X.prog X.w) X.A X.env X.xe)(hc:X.calm=true)(hi:PI X tg iter wi)(hg:PG X tg g)(hb:PSs X body tb)
  (hs:∀ x,cJ iter X.env x=pure x:=by intro _;rfl):PS X (.For tg iter body [] pos) (Z4 wi g tb):=by
 intro pins s σ H D I h
 refine wpAny_For (thn (hi pins s σ H _ I h) fun v s1 h1=>thn h1 fun itv s2 h2=>?_) hs
 obtain ⟨it,fp,tn,J,H2,e,I2,T,st2,f2,W,⟨m0,w0⟩,turn⟩:=h2
 subst e
 have stat:∀ {H':Hp},(∀ b ∈ fp,H' b=none)->∀ b ∈ fp,xK X pins H' b:=fun hn b hb=>⟨hn b hb,(f2 b hb).2⟩
 refine codeAny_forLoop_any (fun n s'=>∃ i σ' H',Inv X pins σ' H' s'/\tn i s'.heap/\(∀ b ∈ fp,H' b=none)/\W i n σ' H') ?_ m0 ⟨0,σ,H2,I2,st2,fun b hb=>(f2 b hb).1,w0⟩
 rintro n s3 ⟨i,σ3,H3,I3,st3,fr3,w3⟩
 rcases turn i n σ3 H3 w3 with ⟨stop,qn⟩ | ⟨go,N,hN,step⟩
 ·refine f9 hp (thn (T.done X rfl rfl rfl hc i pins s3 σ3 H3 X.xe I3 (stat fr3) st3 stop) fun r s4 ⟨hr,I4⟩=>?_)
  subst hr
  exact fY ⟨σ3,H3,I4,qn⟩
 ·refine f9 hp (thn (T.item X rfl rfl rfl hc i pins s3 σ3 H3 X.xe I3 (stat fr3) st3 go) fun r s4 ⟨u,hr,h4⟩=>?_)
  subst hr
  refine f9 hp (thn h4 fun _ s5 ⟨x,H5,I5,r5,y5,st5,fr5⟩=>?_)
  have I5':=I5.pinned (stat fr5) (T.obj _ _ st5)
  refine f9 hp (thn (hg _ s5 σ3 H5 x u _ I5' r5 (step x H5 y5)) fun _ s6 ⟨σ6,H6,I6,q6⟩=>?_)
  refine f9 hp (thn (hb _ s6 σ6 H6 _ I6 q6) fun f s7 q7=>?_)
  have again:∀ {σ7:St} {H7:Hp},Inv X (pins ++ yJ fp s5.heap) σ7 H7 s7->N σ7 H7->∃ m,m<n/\∃ i σ' H',Inv X pins σ' H' s7/\tn i s7.heap/\(∀ b ∈ fp,H' b=none)/\W i m σ' H':=fun {σ7 H7} I7 n7=>by
   obtain ⟨m',hm,w7⟩:=hN σ7 H7 n7
   refine ⟨m',hm,i+1,σ7,H7,I7.unpinned,T.keep _ _ _ st5 fun b hb o e=>(I7.pin (b,o) (bE _ (bE _ (jf hb e)))).1,fun b hb=>?_,w7⟩
   obtain ⟨o,e,d⟩:=T.obj _ _ st5 b hb
   exact (I7.pin (b,o) (bE _ (bE _ (jf hb e)))).2.1
  cases f with
  | next=>obtain ⟨σ7,H7,I7,n7⟩:=q7;exact again I7 n7
  | cont=>obtain ⟨σ7,H7,I7,n7⟩:=q7;exact again I7 n7
  | brk=>obtain ⟨σ7,H7,I7,q7⟩:=q7;exact ⟨σ7,H7,I7.unpinned,q7⟩
  | ret v=>obtain ⟨x7,σ7,H7,I7,r7,q7⟩:=q7;exact ⟨x7,σ7,H7,I7.unpinned,r7,q7⟩
end
variable {g:TG} {tb:TS} {D:kl}
theorem Ml (Pv:Nat->St->Hp->Prop)(h0:Pv 0 σ H)(hl:∀ i σ H,i<=xs.length->Pv i σ H->SqL K H a xs)
  (hs:∀ i x σ H,xs[i]?=some x->Pv i σ H->g x σ H fun σ2 H2=>tb { D with nx:=Pv (i+1),ct:=Pv (i+1),bk:=D.nx } σ2 H2) (hd:∀ σ H,Pv xs.length σ H->D.nx σ H) :
  ∃ W:Nat->Nat->St->Hp->Prop,(∃ m,W 0 m σ H)/\∀ i m σ H,W i m σ H ->
   ((Itl K a).stop i H/\D.nx σ H) \/ ((Itl K a).go i H/\∃ N:St->Hp->Prop,(∀ σ' H',N σ' H'->∃ m',m'<m/\W (i+1) m' σ' H')/\∀ x H',(Itl K a).yld i H x H'->g x σ H' fun σ2 H2=>tb { D with nx:=N,ct:=N,bk:=D.nx } σ2 H2):=by
 refine ⟨fun i m σ H=>m=xs.length - i/\i<=xs.length/\Pv i σ H,⟨xs.length,by simp,ci _,h0⟩,?_⟩
 rintro i m σ H ⟨rfl,hi,p⟩
 have q:=hl i σ H hi p
 by_cases hlt:i<xs.length
 ·refine .inr ⟨⟨xs,xs[i],q,by simp [hlt]⟩,Pv (i+1),fun σ' H' p'=>⟨xs.length - (i+1),by omega,rfl,hlt,p'⟩,fun x H' y=>?_⟩
  obtain ⟨e,y⟩:=y
  subst e
  exact hs i x σ _ (y xs q) p
 ·have e:i=xs.length:=by omega
  subst e
  exact .inl ⟨⟨xs,q,aJ _⟩,hd σ H p⟩
theorem YB (Pv:Nat->St->Hp->Prop)(h0:Pv 0 σ H)(hl:∀ i σ H,i<=xs.length->Pv i σ H->SqT K H a xs)
  (hs:∀ i x σ H,xs[i]?=some x->Pv i σ H->g x σ H fun σ2 H2=>tb { D with nx:=Pv (i+1),ct:=Pv (i+1),bk:=D.nx } σ2 H2) (hd:∀ σ H,Pv xs.length σ H->D.nx σ H) :
  ∃ W:Nat->Nat->St->Hp->Prop,(∃ m,W 0 m σ H)/\∀ i m σ H,W i m σ H ->
   ((Itt K a).stop i H/\D.nx σ H) \/ ((Itt K a).go i H/\∃ N:St->Hp->Prop,(∀ σ' H',N σ' H'->∃ m',m'<m/\W (i+1) m' σ' H')/\∀ x H',(Itt K a).yld i H x H'->g x σ H' fun σ2 H2=>tb { D with nx:=N,ct:=N,bk:=D.nx } σ2 H2):=by
 refine ⟨fun i m σ H=>m=xs.length - i/\i<=xs.length/\Pv i σ H,⟨xs.length,by simp,ci _,h0⟩,?_⟩
 rintro i m σ H ⟨rfl,hi,p⟩
 have q:=hl i σ H hi p
 by_cases hlt:i<xs.length
 ·refine .inr ⟨⟨xs,xs[i],q,by simp [hlt]⟩,Pv (i+1),fun σ' H' p'=>⟨xs.length - (i+1),by omega,rfl,hlt,p'⟩,fun x H' y=>?_⟩
  obtain ⟨e,y⟩:=y
  subst e
  exact hs i x σ _ (y xs q) p
 ·have e:i=xs.length:=by omega
  subst e
  exact .inl ⟨⟨xs,q,aJ _⟩,hd σ H p⟩
abbrev R2:=V->V->Hp->VK->Prop
def OpR (X:Cx)(f:aj->aj->Sem aj)(r:R2):Prop:=
 ∀ (pins:List (aw × Obj)) (s:au) (σ:St) (H:Hp) (x y:V) (v u:aj) (Q:VK),Inv X pins σ H s->zv x v->zv y u->r x y H Q ->
  aK (aL X.prog X.w) X.A (f v u) (EP X pins σ Q) X.xe s
def UnR (X:Cx)(f:aj->Sem aj)(r:V->Hp->VK->Prop):Prop:=
 ∀ (pins:List (aw × Obj)) (s:au) (σ:St) (H:Hp) (x:V) (v:aj) (Q:VK),Inv X pins σ H s->zv x v->r x H Q ->
  aK (aL X.prog X.w) X.A (f v) (EP X pins σ Q) X.xe s
def qG (X:Cx)(f:aj)(r:List V->Hp->VK->Prop):Prop:=
 ∀ (pins:List (aw × Obj)) (s:au) (σ:St) (H:Hp) (xs:List V) (us:List aj) (Q:VK),Inv X pins σ H s->zw xs us->r xs H Q ->
  aK (aL X.prog X.w) X.A (call f us) (EP X pins σ Q) X.xe s
noncomputable def tOp (r:R2)(ta tb:TE):TE:=fun σ H Q=>ta σ H fun x H1=>tb σ H1 fun y H2=>r x y H2 Q
noncomputable def tUn (r:V->Hp->VK->Prop)(ta:TE):TE:=fun σ H Q=>ta σ H fun x H1=>r x H1 Q
noncomputable def rI (C:Int->Int->Prop)(g:Int->Int->V):R2:=fun x y H Q=>∃ i j,x=.int i/\y=.int j/\C i j/\Q (g i j) H
noncomputable def rI0 (g:Int->Int->V):R2:=fun x y H Q=>∃ i j,x=.int i/\y=.int j/\Q (g i j) H
noncomputable def rU (g:Int->V):V->Hp->VK->Prop:=fun x H Q=>∃ i,x=.int i/\Q (g i) H
section
variable {X:Cx}{a b c:Expr}{ta tb tc:TE}{pos:Pos}
variable {f:aj->aj->Sem aj}
theorem LK (ha:PE X a ta)(hb:PE X b tb) {R:V->V->Hp->Prop}(I:Inv X pins σ H s)
  (h:ta σ H fun x H1=>tb σ H1 fun y H2=>R x y H2) {Q:aj->au->Prop}
  (hf:∀ v u s2 x y H2,Inv X pins σ H2 s2->zv x v->zv y u->R x y H2->aK (aL X.prog X.w) X.A (f v u) Q X.xe s2) :
  aK (aL X.prog X.w) X.A (eval a X.env) (fun v s₁=>aK (aL X.prog X.w) X.A (eval b X.env) (fun u s₂=>aK (aL X.prog X.w) X.A (f v u) Q X.xe s₂) X.xe s₁) X.xe s:=by
 refine thn (ha pins s σ H _ I h) fun v s1 ⟨x,H1,I1,r1,q1⟩=>?_
 refine thn (hb pins s1 σ H1 _ I1 q1) fun u s2 ⟨y,H2,I2,r2,q2⟩=>?_
 exact hf v u s2 x y H2 I2 r1 r2 q2
theorem zp {op:Operator}{r:R2}(ho:OpR X (fv op) r)(ha:PE X a ta)(hb:PE X b tb):PE X (.BinOp a op b pos) (tOp r ta tb):=by
 intro pins s σ H Q I h
 exact wpAny_BinOp (LK ha hb I h fun v u s2 x y H2 I2 rx ry q=>ho pins s2 σ H2 x y v u Q I2 rx ry q)
theorem Jr {op:UnaryOp}{r:V->Hp->VK->Prop}(ho:UnR X (unaryOp op) r)(ha:PE X a ta):PE X (.UnaryOp op a pos) (tUn r ta):=by
 intro pins s σ H Q I h
 exact UnaryOp_ (thn (ha pins s σ H _ I h) fun v s1 ⟨x,H1,I1,r1,q1⟩=>ho pins s1 σ H1 x v Q I1 r1 q1)
theorem opI {C:Int->Int->Prop}{g:Int->Int->Int}
  (rule:∀ (i j:Int) (t u:Tok) (s:au) (Q:aj->au->Prop) (E:aj->au->Prop),C i j->Q (.int (g i j) s.toks) { s with toks:=s.toks+1 }->aK (aL X.prog X.w) X.A (f (.int i t) (.int j u)) Q E s) :
  OpR X f (rI C fun i j=>.int (g i j)):=by
 intro pins s σ H x y v u Q I rx ry h
 obtain ⟨i,j,rfl,rfl,hc,q⟩:=h
 obtain ⟨t,rfl⟩:=rx
 obtain ⟨t',rfl⟩:=ry
 exact rule i j t t' s _ _ hc ⟨.int (g i j),H,I.tok _,⟨_,rfl⟩,q⟩
theorem LP {g:Int->Int->Int}
  (rule:∀ (i j:Int) (t u:Tok) (s:au) (Q:aj->au->Prop) (E:aj->au->Prop),Q (.int (g i j) s.toks) { s with toks:=s.toks+1 }->aK (aL X.prog X.w) X.A (f (.int i t) (.int j u)) Q E s) :
  OpR X f (rI0 fun i j=>.int (g i j)):=by
 intro pins s σ H x y v u Q I rx ry h
 obtain ⟨i,j,rfl,rfl,q⟩:=h
 obtain ⟨t,rfl⟩:=rx
 obtain ⟨t',rfl⟩:=ry
 exact rule i j t t' s _ _ ⟨.int (g i j),H,I.tok _,⟨_,rfl⟩,q⟩
theorem Gy {g:Int->Int->Bool}
  (rule:∀ (i j:Int) (t u:Tok) (s:au) (Q:aj->au->Prop) (E:aj->au->Prop),Q (.bool (g i j)) s->aK (aL X.prog X.w) X.A (f (.int i t) (.int j u)) Q E s) :
  OpR X f (rI0 fun i j=>.bl (g i j)):=by
 intro pins s σ H x y v u Q I rx ry h
 obtain ⟨i,j,rfl,rfl,q⟩:=h
 obtain ⟨t,rfl⟩:=rx
 obtain ⟨t',rfl⟩:=ry
 exact rule i j t t' s _ _ ⟨.bl (g i j),H,I,rfl,q⟩
def Hr (i j:Int):Prop:=0<j/\j<1073741824
def Nf (i j:Int):Prop:=0<=j/\j<=1000000/\i.natAbs<2 ^ 64
def Aa (i j:Int):Prop:=(-(2 ^ 64)<i/\i<2 ^ 64) \/ (-(2 ^ 64)<j/\j<2 ^ 64)
theorem Aa.ok {i j:Int}(h:Aa i j):IntMulOk i j:=by
 rcases h with ⟨h1,h2⟩ | ⟨h1,h2⟩
 ·exact .of_left (intBits_le_64 h1 h2)
 ·exact .of_right (intBits_le_64 h1 h2)
theorem qa:OpR X (fv .Add) (rI0 fun i j=>.int (i+j)):=LP fun _ _ _ _ _ _ _ q=>add_int q
theorem ZR:OpR X (fv .Sub) (rI0 fun i j=>.int (i - j)):=LP fun _ _ _ _ _ _ _ q=>sub_int q
theorem jS:OpR X (fv .Mult) (rI Aa fun i j=>.int (i * j)):=opI fun _ _ _ _ _ _ _ hc q=>mul_int q hc.ok
theorem YF:OpR X (fv .FloorDiv) (rI Hr fun i j=>.int (i / j)):=opI fun i j _ _ _ _ _ hc q=>by
 have h1:(0:Int)<j:=hc.1
 have h2:j<1073741824:=hc.2
 exact floordiv_int (by omega) (by rw [iw i (by omega)];exact q) (.inl (lL (by omega)))
theorem jO:OpR X (fv .Mod) (rI (fun _ j=>0<j) fun i j=>.int (i % j)):=opI fun i j _ _ _ _ _ hc q=>by
 have h1:(0:Int)<j:=hc
 exact mod_int' (by omega) (by rw [iz i (by omega)];exact q)
theorem HU:OpR X (fv .Pow) (rI Nf fun i j=>.int (i ^ j.toNat)):=opI fun _ _ _ _ _ _ _ hc q=>pow_int_small hc.1 hc.2.1 hc.2.2 q
theorem unI {f:aj->Sem aj}{g:Int->Int}
  (rule:∀ (i:Int) (t:Tok) (s:au) (Q:aj->au->Prop) (E:aj->au->Prop),Q (.int (g i) s.toks) { s with toks:=s.toks+1 }->aK (aL X.prog X.w) X.A (f (.int i t)) Q E s) :
  UnR X f (rU fun i=>.int (g i)):=by
 intro pins s σ H x v Q I rx h
 obtain ⟨i,rfl,q⟩:=h
 obtain ⟨t,rfl⟩:=rx
 exact rule i t s _ _ ⟨.int (g i),H,I.tok _,⟨_,rfl⟩,q⟩
theorem wn:UnR X (unaryOp .USub) (rU fun i=>.int (-i)):=unI fun _ _ _ _ _ q=>neg_int q
end
section
variable {X:Cx}{a b c:Expr}{ta tb tc:TE}{pos:Pos}
theorem Kb {Q:VK}{k k':Bool}(I:Inv X pins σ H s)(q:Q (.bl k) H)(e:k=k'):EP X pins σ Q (.bool k') s:=by
 subst e
 exact ⟨.bl k,H,I,rfl,q⟩
theorem Yw:OpR X (dY .Lt) (rI0 fun i j=>.bl (decide (i<j))):=Gy fun _ _ _ _ _ _ _ q=>lt_int q
theorem G1:OpR X (dY .LtE) (rI0 fun i j=>.bl (decide (i<=j))):=Gy fun _ _ _ _ _ _ _ q=>le_int q
theorem Ms:OpR X (dY .Gt) (rI0 fun i j=>.bl (decide (j<i))):=Gy fun _ _ _ _ _ _ _ q=>gt_int q
theorem Mx:OpR X (dY .GtE) (rI0 fun i j=>.bl (decide (j<=i))):=Gy fun _ _ _ _ _ _ _ q=>ge_int q
theorem Qj:OpR X (dY .Is) (fun x y H Q=>y=.non/\Q (.bl (decide (x=.non))) H):=by
 intro pins s σ H x y v u Q I rx ry h
 obtain ⟨rfl,q⟩:=h
 cases ry
 refine is_none_gen (Kb I q ?_)
 cases x <;> first
  | (cases rx;rfl)
  | (obtain ⟨t,rfl⟩:=rx;rfl)
theorem Qp:OpR X (dY .IsNot) (fun x y H Q=>y=.non/\Q (.bl (!decide (x=.non))) H):=by
 intro pins s σ H x y v u Q I rx ry h
 obtain ⟨rfl,q⟩:=h
 cases ry
 refine isnot_none_gen (Kb I q ?_)
 cases x <;> first
  | (cases rx;rfl)
  | (obtain ⟨t,rfl⟩:=rx;rfl)
variable {op:oO}
theorem zH (b:Expr) (h:op ≠ .In:=by decide)(h2:op ≠ .NotIn:=by decide):e8 op b=false:=by
 have e1:(op == oO.In)=false:=by cases op <;> first | rfl | exact absurd rfl h
 have e2:(op == oO.NotIn)=false:=by cases op <;> first | rfl | exact absurd rfl h2
 cases b <;> simp [e8,e1,e2]
variable {r:R2}
theorem jm (ho:OpR X (dY op) r)(ha:PE X a ta)(hb:PE X b tb)(hm:e8 op b=false):PE X (.Compare a [op] [b] pos) (tOp r ta tb):=by
 intro pins s σ H Q I h
 exact wpAny_Compare1 (LK ha hb I h fun v u s2 x y H2 I2 rx ry q=>ho pins s2 σ H2 x y v u Q I2 rx ry q) hm
noncomputable def BW (t:TE):TT:=fun σ H Q=>t σ H fun x H'=>∃ k,x=.bl k/\Q k H'
theorem zJ (ho:OpR X (dY op) r)(ha:PE X a ta)(hb:PE X b tb)(hm:e8 op b=false):PT X (.Compare a [op] [b] pos) (BW (tOp r ta tb)):=by
 intro pins s σ H Q I h
 refine wpAny_isTrue_Compare1 (thn (ha pins s σ H _ I h) fun v s1 ⟨x,H1,I1,r1,q1⟩=>thn (hb pins s1 σ H1 _ I1 q1) fun u s2 ⟨y,H2,I2,r2,q2⟩=>
  thn (ho pins s2 σ H2 x y v u _ I2 r1 r2 q2) fun c s3 ⟨z,H3,I3,r3,k,e,q3⟩=>?_) hm
 subst e
 cases r3
 exact dJ ⟨H3,I3,q3⟩
noncomputable def WO (r r':R2)(ta tb tc:TE):TE:=fun σ H Q=>ta σ H fun x H1=>tb σ H1 fun y H2=>r x y H2 fun z H3=>∃ k,z=.bl k /\
 (if k=true then tc σ H3 fun w' H4=>r' y w' H4 Q else Q (.bl false) H3)
theorem Je {op op':oO}{r r':R2}(ho:OpR X (dY op) r)(ho':OpR X (dY op') r')(ha:PE X a ta)(hb:PE X b tb)(hc:PE X c tc)
  (hm:lastMarks [op,op'] [b,c]=false:=by with_unfolding_all rfl):PE X (.Compare a [op,op'] [b,c] pos) (WO r r' ta tb tc):=by
 intro pins s σ H Q I h
 refine Compare_chain (thn (ha pins s σ H _ I h) fun v s1 ⟨x,H1,I1,r1,q1⟩=>chain_link (thn (hb pins s1 σ H1 _ I1 q1) fun u s2 ⟨y,H2,I2,r2,q2⟩=>
  thn (ho pins s2 σ H2 x y v u _ I2 r1 r2 q2) fun d s3 ⟨z,H3,I3,r3,k,e,q3⟩=>?_)) hm
 subst e
 cases r3
 refine dJ ?_
 cases k with
 | false=>exact ite_ff ⟨.bl false,H3,I3,rfl,q3⟩
 | true=>exact ite_tt (chain_last (thn (hc pins s3 σ H3 _ I3 q3) fun w' s4 ⟨z',H4,I4,r4,q4⟩=>ho' pins s4 σ H4 y z' u w' Q I4 r2 r4 q4))
theorem vP:(aM:Nat)<2 ^ 63:=by rw [cC];decide
theorem jZ {x:V}{us:List aj}(r:zw [x] us):∃ u,us=[u]/\zv x u:=by
 cases r with
 | cons r1 r2=>cases r2;exact ⟨_,rfl,r1⟩
theorem Zr {x y:V}{us:List aj}(r:zw [x,y] us):∃ u w',us=[u,w']/\zv x u/\zv y w':=by
 cases r with
 | cons r1 r2=>
  cases r2 with
  | cons r3 r4=>cases r4;exact ⟨_,_,rfl,r1,r3⟩
theorem vN:qG X (.builtin "abs") (fun xs H Q=>∃ i,xs=[.int i]/\Q (.int (if i<0 then -i else i)) H):=by
 intro pins s σ H xs us Q I r h
 obtain ⟨i,rfl,q⟩:=h
 obtain ⟨u,rfl,t,rfl⟩:=jZ r
 exact call_abs_int fun u tk=>⟨.int (if i<0 then -i else i),H,I.tok _,⟨_,rfl⟩,q⟩
theorem VQ (hc:X.calm=true):qG X (.builtin "max") (fun xs H Q=>∃ i j,xs=[.int i,.int j]/\Q (.int (if j > i then j else i)) H):=by
 intro pins s σ H xs us Q I r h
 obtain ⟨i,j,rfl,q⟩:=h
 obtain ⟨u,w',rfl,⟨t,rfl⟩,⟨t',rfl⟩⟩:=Zr r
 refine max_two_ints (I.ok.hd hc) fun h' tk k=>⟨_,H,I.kept k,?_,q⟩
 by_cases hj:j > i
 ·rw [if_pos hj,if_pos hj];exact ⟨_,rfl⟩
 ·rw [if_neg hj,if_neg hj];exact ⟨_,rfl⟩
theorem yK (hc:X.calm=true):qG X (.builtin "min") (fun xs H Q=>∃ i j,xs=[.int i,.int j]/\Q (.int (if j<i then j else i)) H):=by
 intro pins s σ H xs us Q I r h
 obtain ⟨i,j,rfl,q⟩:=h
 obtain ⟨u,w',rfl,⟨t,rfl⟩,⟨t',rfl⟩⟩:=Zr r
 refine min_two_ints (I.ok.hd hc) fun h' tk k=>⟨_,H,I.kept k,?_,q⟩
 by_cases hj:j<i
 ·rw [if_pos hj,if_pos hj];exact ⟨_,rfl⟩
 ·rw [if_neg hj,if_neg hj];exact ⟨_,rfl⟩
theorem VJ:qG X (.type "int") (fun xs H Q=>(∃ i,xs=[.int i]/\Q (.int i) H) \/ ∃ k,xs=[.bl k]/\Q (.int (if k then 1 else 0)) H):=by
 intro pins s σ H xs us Q I r h
 rcases h with ⟨i,rfl,q⟩ | ⟨k,rfl,q⟩
 ·obtain ⟨u,rfl,t,rfl⟩:=jZ r
  exact call_int_int ⟨.int i,H,I,⟨_,rfl⟩,q⟩
 ·obtain ⟨u,rfl,r1⟩:=jZ r
  cases r1
  exact call_int_bool ⟨.int (if k then 1 else 0),H,I.tok _,⟨_,rfl⟩,q⟩
theorem Ja:qG X (.builtin "divmod") (fun xs H Q=>∃ i j,xs=[.int i,.int j]/\Hr i j/\∀ p,H p=none->Q (.ref p) (upd H p (.tup [.int (i / j),.int (i % j)]))):=by
 intro pins s σ H xs us Q I r h
 obtain ⟨i,j,rfl,⟨h1,h2⟩,q⟩:=h
 obtain ⟨u,w',rfl,⟨t,rfl⟩,⟨t',rfl⟩⟩:=Zr r
 refine divmod_int (by omega) ?_ (.inl (lL (by omega)))
 rw [iw i (by omega),iz i (by omega)]
 have hn:H s.heap.objs.size=none:=I.hok.fresh (aJ _)
 refine ⟨.ref s.heap.objs.size,_,?_,rfl,q _ hn⟩
 refine I.laid (fun b o e=>ay _ e) (aJ _) ⟨by simp only [aN,bV];rw [cC];decide,[.int (i / j) s.toks,.int (i % j) (s.toks+1)],.cons ⟨_,rfl⟩ (.cons ⟨_,rfl⟩ .nil),?_⟩
 exact ⟨_,aQ s.heap rfl,rfl,⟨0,rfl⟩,rfl⟩
end
structure Kv (h:Heap)(x dx C:aw)(mA:Str->Option aj):Prop where
 obj:h.get? x=some (dO C dx)
 ns:h.Ns1 dx mA
 ne:dx ≠ x
variable {mA:Str->Option aj}
theorem wL {h:Heap}{dx:aw} (n:h.Ns1 dx mA):∃ od,h.get? dx=some od/\∀ name,gw name od=some (mA name):=by
 obtain ⟨o,es,ep,ho,hd,hk,_,hm⟩:=n
 refine ⟨o,ho,fun name=>?_⟩
 have e:=hm name
 unfold nsFind findBy at e
 rw [<- nq] at e
 unfold gw
 rw [hd]
 dsimp only
 split
 ·rename_i y q
  rw [q] at e
  exact congrArg some e
 ·rename_i q
  rw [q] at e
  have a:es.toList.any (·.refKey)=false:=by
   rw [nJ]
   intro y hy
   obtain ⟨z,t,hkey⟩:=hk y (mF.mp hy)
   simp [DictEntry.refKey,hkey]
  have a':¬ es.toList.any (·.refKey)=true:=by rw [a];exact bL
  rw [if_neg a']
  exact congrArg some e
theorem Kv.look {h:Heap}{x dx C:aw} (I:Kv h x dx C mA):∃ od,PySem.W.InstAt h x (dO C dx) C (some od)/\∀ name,gw name od=some (mA name):=
 let ⟨od,ho,hl⟩:=wL I.ns
 ⟨od,⟨I.obj,rfl,rfl,ho⟩,hl⟩
section
variable {prog:aX}{w:bB}{A:bj}{E:aj->au->Prop}{s:au}{K:ax}{x dx C f:aw}{mA:Str->Option aj}{name:Str}{v:aj}
theorem FF {expr:Bool}{Q:aj->au->Prop}(X:K.In s.heap)(I:Kv s.heap x dx C mA)(hg:fG K C name=true)(hh:dL K C=true)
  (ha:bo K (.ref C) name=some none) (hv:mA name=some v) (hv':lu v=true) (h:Q v { s with toks:=s.toks+1 }) :
  aK (aL prog w) A (oK (.ref x) name expr) Q E s:=by
 obtain ⟨od,J,hl⟩:=I.look
 exact PySem.W.get_value X J (hX hg).1 (mW hh ha rfl (by rw [hl,hv])) hv' h
theorem Ek {pl:Sem Bool}{Q:aj × List aj->au->Prop}(X:K.In s.heap)(I:Kv s.heap x dx C mA)(hg:fG K C name=true)
  (hf:bo K (.ref C) name=some (some (.ref f))) (ht:dF K (.ref f)=true) (hv:mA name=none) (h:Q (.ref f,[.ref x]) s) :
  aK (aL prog w) A (getMethod (.ref x) name pl) Q E s:=by
 obtain ⟨od,J,hl⟩:=I.look
 exact PySem.W.method_fn X J (hX hg).1 (hX hg).2 hf (beq_iff_eq.mp ht) (by show (gw name od).map (·.isSome)=some false;rw [hl,hv];rfl) h
theorem QM {ns:List Str}{Q:Unit->au->Prop}(X:K.In s.heap)(I:Kv s.heap x dx C mA)
  (hs:bo K (.ref C) "__setattr__"=some (some (.builtin "object.__setattr__"))) (hp:iV K C=true) (ht:mh K C name=some none) (hh:dL K C=true)
  (hw:h8 mA ns) (hsz:ns.length<=aM)
  (h:∀ h',Kv h' x dx C (fun y=>if y=name then some v else mA y)->cR dx s.heap h'->Q () { s with heap:=h',toks:=s.toks+2 }) :
  aK (aL prog w) A (setAttr (.ref x) name v) Q E s:=by
 obtain ⟨od,J,hl⟩:=I.look
 refine iW X J hs (PySem.W.osa_open (s:={ s with toks:=s.toks+1 }) (r:=none) X J hp ht fun b=>?_)
 obtain ⟨cd,hc,hd'⟩:=gJ hh
 have hx:s.heap.get? x=some ⟨.ref C,some dx,.plain,#[]⟩:=I.obj
 refine am (aA (am (am (mG hx (am (e9.here (s:={ s with toks:=s.toks+1 }) (fS X hc) ?_))))))
 rw [hd']
 refine aA (a:=some dx) (am (aA (am ?_)))
 refine nK (s:={ s with toks:=s.toks+1 }) I.ns fun h' hn2 hs2=>?_
 obtain ⟨oD,esD,epD,hoD,hdD,hcD⟩:=hn2.count (h8.cons name v hw)
 refine am (lv hoD (by rw [hdD];exact lA (aZ hcD (by rw [aN];omega))) ?_)
 exact aA (h _ ⟨(hs2.2 _ (Ne.symm I.ne)).trans I.obj,hn2,I.ne⟩ hs2)
theorem Dz {R:nu->au->Prop}{vs:List aj}{kw:List (Str × aj)}(X:K.In s.heap)(hm:mj K C=true)
  (hi:bo K (.ref C) "__init__"=some (some (.ref f))) (hf:PySem.W.typeIn K (.ref f)=some (.type "function"))
  (h:dR (aL prog w) (A.under (.builtin "type.__call__" ⟨.ref C :: vs,kw⟩)) (.call (.ref f) ⟨.ref (s.heap.objs.size+1) :: vs,kw⟩) (PySem.W.InitBack (s.heap.objs.size+1) R)
   { s with heap:=(s.heap.push cU).push (dO C s.heap.objs.size) }) :
  dR (aL prog w) A (.call (.ref C) ⟨vs,kw⟩) R s:=by
 obtain ⟨hh,g,d,t,os⟩:=s
 exact PySem.W.make_core (PySem.W.makes_of X hm) (fz X hi) (fun self=>PySem.W.bind_fn X self hf) (.inl rfl) h
end
noncomputable def jx (f:Str)(v:V):List (Str × V)->List (Str × V)
 | []=>[(f,v)]
 | (g,x) :: r=>if g=f then (g,v) :: r else (g,x) :: jx f v r
theorem j3 (f g:Str)(v:V):∀ fs:List (Str × V),(jx f v fs).lookup g=if g=f then some v else fs.lookup g
 | []=>by
  show dv g [(f,v)]=_
  by_cases h:g=f
  ·have hb:(g == f)=true:=beq_iff_eq.mpr h
   simp only [dv,hb,if_pos h]
  ·have hb:(g == f)=false:=beq_eq_false_iff_ne.mpr h
   simp only [dv,hb,if_neg h]
 | (k,x) :: r=>by
  have ih:=j3 f g v r
  rw [show jx f v ((k,x) :: r)=(if k=f then (k,v) :: r else (k,x) :: jx f v r) from rfl]
  by_cases hk:k=f
  ·rw [if_pos hk]
   by_cases h:g=k
   ·have hb:(g == k)=true:=beq_iff_eq.mpr h
    simp only [dv,hb,if_pos (h.trans hk)]
   ·have hb:(g == k)=false:=beq_eq_false_iff_ne.mpr h
    simp only [dv,hb,if_neg (fun e:g=f=>h (e.trans hk.symm))]
  ·rw [if_neg hk]
   by_cases h:g=k
   ·have hb:(g == k)=true:=beq_iff_eq.mpr h
    simp only [dv,hb,if_neg (fun e:g=f=>hk (h.symm.trans e))]
   ·have hb:(g == k)=false:=beq_eq_false_iff_ne.mpr h
    simp only [dv,hb]
    exact ih
theorem kA (f:Str)(v:V):∀ fs:List (Str × V),f ∈ (jx f v fs).map (·.1)/\∀ g,g ∈ fs.map (·.1)->g ∈ (jx f v fs).map (·.1)
 | []=>⟨by simp [jx],fun g h=>by simp at h⟩
 | (k,x) :: r=>by
  obtain ⟨i1,i2⟩:=kA f v r
  rw [show jx f v ((k,x) :: r)=(if k=f then (k,v) :: r else (k,x) :: jx f v r) from rfl]
  by_cases hk:k=f
  ·rw [if_pos hk]
   subst hk
   exact ⟨by simp,fun g h=>by simpa using h⟩
  ·rw [if_neg hk]
   refine ⟨?_,fun g h=>?_⟩
   ·rw [aY]
    exact bD _ i1
   ·rw [aY] at h ⊢
    rcases aE.mp h with e | e
    ·exact aE.mpr (.inl e)
    ·exact bD _ (i2 g e)
theorem yT (f:Str)(v:V):∀ fs:List (Str × V),(jx f v fs).length<=fs.length+1
 | []=>by simp [jx]
 | (k,x) :: r=>by
  have ih:=yT f v r
  rw [show jx f v ((k,x) :: r)=(if k=f then (k,v) :: r else (k,x) :: jx f v r) from rfl]
  by_cases hk:k=f
  ·rw [if_pos hk,aN,aN];omega
  ·rw [if_neg hk,aN,aN];omega
theorem j8.some_of {v:V}{o:Option aj}(r:j8 (some v) o):∃ u,o=some u/\zv v u:=by
 cases o with
 | none=>exact (show False from r).elim
 | some u=>exact ⟨u,rfl,r⟩
theorem j8.none_of {o:Option aj}(r:j8 none o):o=none:=by
 cases o with
 | none=>rfl
 | some u=>exact (show False from r).elim
theorem Zh {v:V}{u:aj}(r:zv v u):lu u=true:=by
 cases v with
 | non=>cases (show u=aj.none from r);rfl
 | bl b=>cases (show u=aj.bool b from r);rfl
 | int i=>obtain ⟨t,e⟩:=(show ∃ t,u=aj.int i t from r);cases e;rfl
 | str x=>obtain ⟨t,e⟩:=(show ∃ t,u=aj.str x t from r);cases e;rfl
 | byt b=>obtain ⟨t,e⟩:=(show ∃ t,u=aj.bytes b t from r);cases e;rfl
 | flt b=>obtain ⟨t,e⟩:=(show ∃ t,u=aj.float b t from r);cases e;rfl
 | ref a=>cases (show u=aj.ref a from r);rfl
 | ty n=>cases (show u=aj.type n from r);rfl
section
variable {P:aX}{w:bB}{H H':Hp}{h h':Heap}{a C dx:aw}{fs fs':List (Str × V)}
theorem vj (hok:HOk P w H h)(e:H a=some (.ins C dx fs)):∃ mA,Kv h a dx C mA/\(∀ f,j8 (fs.lookup f) (mA f))/\h8 mA (fs.map (·.1))/\fs.length<=1000/\H dx=some (.own a):=by
 obtain ⟨d,z,ne,ob,mA,n,r,q⟩:=(show zM P w H h a (.ins C dx fs) from hok a _ e)
 exact ⟨mA,⟨ob,n,ne⟩,r,q,z,d⟩
end
structure Cls (K:ax)(C:aw):Prop where
 pg:fG K C Str.empty=true
 hd:dL K C=true
 po:iV K C=true
 sa:bo K (.ref C) "__setattr__"=some (some (.builtin "object.__setattr__"))
variable {C:aw}
theorem Cls.get (c:Cls K C)(f:Str):fG K C f=true:=c.pg
def jR (K:ax)(C:aw)(f:Str):Prop:=bo K (.ref C) f=some none
variable {f:Str}
theorem jR.taker (n:jR K C f):mh K C f=some none:=by
 unfold mh
 rw [show bo K (.ref C) f=some none from n]
 rfl
structure Con (K:ax)(C:aw)(f:Str)(v:V)(u:aj):Prop where
 at_:bo K (.ref C) f=some (some u)
 rel:zv v u
 get:gy K u "__get__"=some none
 cp:PySem.W.copiedNames.contains f=false
structure Kk (K:ax)(C:aw)(m:Str)(f:aw):Prop where
 at_:bo K (.ref C) m=some (some (.ref f))
 fn:dF K (.ref f)=true
 kp:dh K (.ref f)=true
section
variable {X:Cx}{pins:List (aw × Obj)}{σ:St}{H:Hp}{s:au}{a C dx:aw}{fs:List (Str × V)}{f:Str}{v:V}{A:bj}{E:aj->au->Prop}
variable {Q:aj->au->Prop}
theorem K4 {b:Bool} (I:Inv X pins σ H s)(e:H a=some (.ins C dx fs))(c:Cls X.K C)(n:jR X.K C f)(l:fs.lookup f=some v)
  (h:∀ u s',Inv X pins σ H s'->zv v u->Q u s'):aK (aL X.prog X.w) A (oK (.ref a) f b) Q E s:=by
 obtain ⟨mA,O,r,_,_,_⟩:=vj I.hok e
 obtain ⟨u,hu,ru⟩:=j8.some_of (v:=v) (o:=mA f) (by rw [<- l];exact r f)
 exact FF I.kIn O (c.get f) c.hd n hu (Zh ru) (h u _ (I.tok _) ru)
theorem kI {m:Str}{g:aw}{pl:Sem Bool}{Q:aj × List aj->au->Prop}(I:Inv X pins σ H s)(e:H a=some (.ins C dx fs))(c:Cls X.K C)(k:Kk X.K C m g)(l:fs.lookup m=none)
  (h:Q (.ref g,[.ref a]) s):aK (aL X.prog X.w) A (getMethod (.ref a) m pl) Q E s:=by
 obtain ⟨mA,O,r,_,_,_⟩:=vj I.hok e
 have hn:mA m=none:=j8.none_of (by rw [<- l];exact r m)
 exact Ek I.kIn O (c.get m) k.at_ k.fn hn h
theorem KY {y:V}{u:aj}{Q:Unit->au->Prop}(I:Inv X pins σ H s)(e:H a=some (.ins C dx fs))(c:Cls X.K C)(n:jR X.K C f)(hl:fs.length<1000)(ry:zv y u)
  (h:∀ s',Inv X pins σ (upd H a (.ins C dx (jx f y fs))) s'->Q () s'):aK (aL X.prog X.w) A (setAttr (.ref a) f u) Q E s:=by
 obtain ⟨mA,O,r,wi,_,ho⟩:=vj I.hok e
 have hz:(fs.map (·.1)).length<=aM:=by rw [az,cC];omega
 refine QM I.kIn O c.sa c.po n.taker c.hd wi hz fun h' O' sb=>h _ ?_
 have hd:∃ o,h'.get? dx=some o:=let ⟨o,_,_,e',_⟩:=O'.ns;⟨o,e'⟩
 refine I.write (x:=a) (e:=dx) (by rw [e];exact True.intro) (.inr ho) (fun b q hb z=>(sb.2 b hb).trans z) hd ?_
 refine ⟨by rw [zg O.ne];exact ho,?_,O.ne,O'.obj,_,O'.ns,fun g=>?_,fun g hg=>?_⟩
 ·have:=yT f y fs;omega
 ·show j8 ((jx f y fs).lookup g) (if g=f then some u else mA g)
  rw [j3]
  by_cases q:g=f
  ·rw [if_pos q,if_pos q];exact ry
  ·rw [if_neg q,if_neg q];exact r g
 ·by_cases q:g=f
  ·rw [q];exact (kA f y fs).1
  ·refine (kA f y fs).2 g (wi g fun z=>hg ?_)
   show (if g=f then some u else mA g)=none
   rw [if_neg q];exact z
theorem Inv.made (I:Inv X pins σ H s):Inv X pins σ (upd (upd H s.heap.objs.size (.own (s.heap.objs.size+1))) (s.heap.objs.size+1) (.ins C s.heap.objs.size []))
  { s with heap:=(s.heap.push cU).push (dO C s.heap.objs.size) }:=by
 have e1:(s.heap.push cU).get? s.heap.objs.size=some cU:=aQ s.heap rfl
 have e2:((s.heap.push cU).push (dO C s.heap.objs.size)).get? (s.heap.objs.size+1)=some (dO C s.heap.objs.size):=by
  have:=aQ (s.heap.push cU) (o:=dO C s.heap.objs.size) rfl
  rwa [dj] at this
 have e3:(s.heap.push cU).Ns s.heap.objs.size (fun _=>none):=⟨cU,#[],_,e1,rfl,(fun e he=>absurd he (by simp)),fun _=>rfl⟩
 have I1:=I.laid (a:=s.heap.objs.size) (o:=.own (s.heap.objs.size+1)) (h':=s.heap.push cU) (t':=s.toks) (fun b u q=>ay _ q) (aJ _) ⟨_,e1⟩
 refine I1.laid (a:=s.heap.objs.size+1) (o:=.ins C s.heap.objs.size []) (t':=s.toks) (fun b u q=>ay _ q) (nL (dj _ _)) ?_
 have ne:s.heap.objs.size ≠ s.heap.objs.size+1:=br (og _)
 refine ⟨by rw [zg ne,zj],ci _,ne,e2,fun _=>none,(Heap.Ns1.of_empty e3).at fun o q=>ay _ q,fun _=>True.intro,fun y hy=>absurd rfl hy⟩
theorem Xy {prog:aX} {env:Env} {pos:Pos} (hb:eE e f env (eval e env)=eval e env)
  (h:aK (aL prog w) A (eval e env) (fun o s₁=>aK (aL prog w) A (oK o f true) Q E s₁) E s):aK (aL prog w) A (eval (.Attribute e f pos) env) Q E s:=
 Attribute_any_ h (by rw [arm_eval_Attribute,hb])
end
noncomputable def IM (K:ax)(ta:TE)(f:Str):TE:=fun σ H Q=>ta σ H fun x H1=>∃ a C dx fs v,x=.ref a/\H1 a=some (.ins C dx fs)/\Cls K C/\jR K C f/\fs.lookup f=some v/\Q v H1
noncomputable def F0 (K:ax)(ta tv:TE)(f:Str):TS:=fun D σ H=>tv σ H fun y H1=>ta σ H1 fun x H2=>∃ a C dx fs,x=.ref a/\H2 a=some (.ins C dx fs)/\Cls K C/\jR K C f/\fs.length<1000 /\
 D.nx σ (upd H2 a (.ins C dx (jx f y fs)))
section
variable {X:Cx}{o e value:Expr}{f:Str}{pos pos' tpos:Pos}{ta tv:TE}
theorem qq (he:PE X e ta)(hb:eE e f X.env (eval e X.env)=eval e X.env):PE X (.Attribute e f pos) (IM X.K ta f):=by
 intro pins s σ H Q I h
 refine Xy hb (thn (he pins s σ H _ I h) fun u s1 ⟨x,H1,I1,rx,a,C,dx,fs,v,ex,ea,c,n,l,q⟩=>?_)
 subst ex
 obtain rfl:u=aj.ref a:=rx
 exact K4 I1 ea c n l fun u' s2 I2 ru=>⟨v,H1,I2,ru,q⟩
theorem vM (ha:PE X o ta)(hv:PE X value tv)(hs:ik value (some (.Attribute o f pos')) pos.line X.env=pure false):PS X (.Assign [.Attribute o f pos'] value pos) (F0 X.K ta tv f):=by
 intro pins s σ H D I h
 refine gH (thn (hv pins s σ H _ I h) fun u s1 ⟨y,H1,I1,ry,q⟩=>thn (ha pins s1 σ H1 _ I1 q) fun ov s2 ⟨x,H2,I2,rx,a,C,dx,fs,ex,ea,c,n,l,q2⟩=>?_) hs
 subst ex
 obtain rfl:ov=aj.ref a:=rx
 exact KY I2 ea c n l ry fun s3 I3=>⟨σ,_,I3,q2⟩
theorem G2 {pl:Sem Bool}{m:Str}{apos:Pos}{args:List Expr} {Q:aj->au->Prop}{te:TE}(he:PE X e te)(I:Inv X pins σ H s)
  (h:te σ H fun x H1=>∃ a C dx fs g,x=.ref a/\H1 a=some (.ins C dx fs)/\Cls X.K C/\Kk X.K C m g/\fs.lookup m=none /\
   ∀ s1,Inv X pins σ H1 s1->aK (aL X.prog X.w) X.A (gY pos (.ref g) [.ref a] (cG pos (aW args X.env)) (fV pos (dU [] X.env))) Q X.xe s1)
  (ht:eval (.Call (.Attribute e m apos) args [] pos) X.env=(do
   let ov <- eval e X.env
   iS apos.atName
   let (f,first) <- holding [ov] (getMethod ov m pl)
   gY pos f first (cG pos (aW args X.env)) (fV pos (dU [] X.env)))) :
  aK (aL X.prog X.w) X.A (eval (.Call (.Attribute e m apos) args [] pos) X.env) Q X.xe s:=by
 refine ff (pl:=pl) (thn (he pins s σ H _ I h) fun u s1 ⟨x,H1,I1,rx,a,C,dx,fs,g,ex,ea,c,k,l,q⟩=>?_) ht
 subst ex
 obtain rfl:u=aj.ref a:=rx
 exact kI I1 ea c k l (q s1 I1)
end
section
variable {X:Cx}{pins:List (aw × Obj)}{σ:St}{H:Hp}{s:au}{A:bj}{E:aj->au->Prop}{Q:aj->au->Prop}{c:aj}{b:Bool}
inductive kR (K:ax) (H:Hp):V->aj->Prop where
  | non:kR K H .non (.type "NoneType")
  | bl (x:Bool):kR K H (.bl x) (.type "bool")
  | int (i:Int):kR K H (.int i) (.type "int")
  | str (x:Str):kR K H (.str x) (.type "str")
  | flt (x:UInt64):kR K H (.flt x) (.type "float")
  | lst {a:aw} {xs:List V} (e:H a=some (.lst xs)):kR K H (.ref a) (.type "list")
  | frz {a:aw} {o:Obj} {xs:List V} (e:H a=some (.frz o (.lst xs))):kR K H (.ref a) (.type "list")
  | tup {a:aw} {xs:List V} (e:H a=some (.tup xs)):kR K H (.ref a) (.type "tuple")
  | dK {a:aw} {kvs:List (Key × V)} (e:H a=some (.dK kvs)):kR K H (.ref a) (.type "dict")
  | dT {a:aw} {kvs:List (List Key × V)} (e:H a=some (.dT kvs)):kR K H (.ref a) (.type "dict")
  | ins {a C dx : aw} {fs : List (Str × V)} (e : H a = some (.ins C dx fs)) (cl : Cls K C) (ha : bo K (.ref C) "__class__" = some (some (.builtin "object.__class__")))
      (hn:gy K (.builtin "object.__class__") "__get__"=some (some (.builtin "getset_descriptor.__get__"))) (htk:mq K (.builtin "object.__class__")=some true)
      (hm:m7 K C (.type "object")=some true):kR K H (.ref a) (.ref C)
theorem VH {x:V}{u t:aj}(I:Inv X pins σ H s)(rx:zv x u)(ty:kR X.K H x t)(e:mH X.K t c=some b)(h:∀ tk,Q (.bool b) { s with toks:=tk }) :
  aK (aL X.prog X.w) A (call (.builtin "isinstance") [u,c]) Q E s:=by
 cases ty with
 | non=>cases (show u=aj.none from rx);exact cQ nM I.kIn True.intro e (fun z=>nomatch z) h
 | bl y=>cases (show u=aj.bool y from rx);exact cQ nN I.kIn True.intro e (fun z=>nomatch z) h
 | int i=>obtain ⟨t,q⟩:=(show ∃ t,u=aj.int i t from rx);cases q;exact cQ oh I.kIn True.intro e (fun z=>nomatch z) h
 | str y=>obtain ⟨t,q⟩:=(show ∃ t,u=aj.str y t from rx);cases q;exact cQ oi I.kIn True.intro e (fun z=>nomatch z) h
 | flt y=>obtain ⟨t,q⟩:=(show ∃ t,u=aj.float y t from rx);cases q;exact cQ nv I.kIn True.intro e (fun z=>nomatch z) h
 | @lst a xs ea=>
  cases (show u=aj.ref a from rx)
  obtain ⟨_,_,n,_,h1⟩:=(show zM X.prog X.w H s.heap a (.lst xs) from I.hok a _ ea)
  exact cQ gA I.kIn ⟨_,h1,rfl⟩ e (fun z=>nomatch z) h
 | @frz a ob xs ea=>
  cases (show u=aj.ref a from rx)
  obtain ⟨_,_,_,n,_,h1⟩:=(show zM X.prog X.w H s.heap a (.frz ob (.lst xs)) from I.hok a _ ea)
  exact cQ gA I.kIn ⟨_,h1,rfl⟩ e (fun z=>nomatch z) h
 | @tup a xs ea=>
  cases (show u=aj.ref a from rx)
  obtain ⟨_,_,_,p⟩:=(show zM X.prog X.w H s.heap a (.tup xs) from I.hok a _ ea)
  obtain ⟨o,h1,h2,_⟩:=p
  exact cQ nw I.kIn ⟨o,h1,h2⟩ e (fun z=>nomatch z) h
 | @dK a kvs ea=>
  cases (show u=aj.ref a from rx)
  obtain ⟨_,_,vs,_,p⟩:=(show zM X.prog X.w H s.heap a (.dK kvs) from I.hok a _ ea)
  obtain ⟨o,es,ep,h1,h2,_⟩:=p
  exact cQ gB I.kIn ⟨o,h1,h2.1⟩ e (fun z=>nomatch z) h
 | @dT a kvs ea=>
  cases (show u=aj.ref a from rx)
  obtain ⟨_,_,xs,_,o,es,ep,h1,h2,_⟩:=(show zM X.prog X.w H s.heap a (.dT kvs) from I.hok a _ ea)
  exact cQ gB I.kIn ⟨o,h1,h2.1⟩ e (fun z=>nomatch z) h
 | @ins a C dx fs ea cl ha hn htk hm=>
  cases (show u=aj.ref a from rx)
  obtain ⟨mA,O,_⟩:=vj I.hok ea
  obtain ⟨od,J,_⟩:=O.look
  exact cQ (PySem.W.kitx_own (cl.get _) cl.hd ha hn htk hm) I.kIn J e (fun z=>nomatch z) h
end
structure qk (k:Nat)(A:bj):Prop where
 hd:A.handled=none
 gd:A.guards=some []
 dp:A.depth+3 * k+5<gC
 un:A.units+16 * k+200<fW
variable {j k:Nat}
theorem qk.mono (r:qk k A)(h:j<=k):qk j A:=⟨r.hd,r.gd,by have:=r.dp;omega,by have:=r.un;omega⟩
theorem qk.deeper (r:qk (k+1) A)(env:Env):qk k (A.deeper env):=
 ⟨r.hd,r.gd,by have:=r.dp;show A.depth+1+3 * k+5<_;omega,by have:=r.un;show A.units+3+16 * k+200<_;omega⟩
variable {kw:List (Str × aj)}
theorem wb:(A.under (.builtin "type.__call__" ⟨.ref C :: us,kw⟩)).depth=A.depth+1:=by
 first | rfl | simp [bj.under,mX.weight,mX.isCreation,mX.isGuard,mX.isCaller,mX.frames,mX.isFrame,guardIds]
theorem vV:(A.under (.builtin "type.__call__" ⟨.ref C :: us,kw⟩)).units=A.units+1:=by
 first | rfl | simp [bj.under,mX.cUnits,mX.frames,mX.isFrame]
theorem yU:(A.under (.builtin "type.__call__" ⟨.ref C :: us,kw⟩)).guards=A.guards:=by
 first | rfl | (simp [bj.under,mX.guards,pushGuards,mX.isGuard,guardIds])
theorem qk.make (r:qk (k+1) A)(C:aw)(us:List aj)(kw:List (Str × aj)):qk k (A.under (.builtin "type.__call__" ⟨.ref C :: us,kw⟩)):=
 ⟨r.hd,(yU).trans r.gd,by have:=r.dp;rw [wb];omega,by have:=r.un;rw [vV];omega⟩
theorem qk.depth (r:qk k A):A.depth<gC:=by have:=r.dp;omega
theorem qk.units (r:qk k A):A.units+64<fW:=by have:=r.un;omega
noncomputable def vF:TA:=fun _ H Q=>Q [] H
noncomputable def qW (ta:TE)(tr:TA):TA:=fun σ H Q=>ta σ H fun x H1=>tr σ H1 fun xs H2=>Q (x :: xs) H2
section
variable {X:Cx}{e:Expr}{es:List Expr}{te:TE}{t:TA}{pos:Pos}
theorem zb:PA X [] vF:=fun _ _ _ _ H Q I h=>Calls.spliced_nil ⟨[],H,I,.nil,h⟩
theorem za (ha:PE X e te)(hr:PA X es t)(hs:aW (e :: es) X.env=(false,eval e X.env) :: aW es X.env:=by rfl):PA X (e :: es) (qW te t):=by
 intro pos pins s σ H Q I h
 rw [hs]
 show aK _ _ (spliced ((false,eval e X.env) :: cG pos (aW es X.env))) _ _ s
 refine Calls.spliced_cons (thn (ha pins s σ H _ I h) fun u s1 ⟨x,H1,I1,r1,q1⟩=>?_)
 exact thn (hr pos pins s1 σ H1 _ I1 q1) fun us s2 ⟨xs,H2,I2,r2,q2⟩=>⟨x :: xs,H2,I2,.cons r1 r2,q2⟩
noncomputable def FT (t:TA):TE:=fun σ H Q=>t σ H fun xs H1=>xs.length<=aM/\∀ p,H1 p=none->Q (.ref p) (upd H1 p (.tup xs))
noncomputable def HL (t:TA):TE:=fun σ H Q=>t σ H fun xs H1=>xs.length<=aM/\∀ p,H1 p=none->Q (.ref p) (upd H1 p (.lst xs))
theorem zA {x1}(h:PA X es t):PE X (.Tuple es x1 pos) (FT t):=by
 intro pins s σ H Q I hq
 refine wpAny_Tuple_spliced (thn (h pos pins s σ H _ I hq) fun us s1 ⟨xs,H1,I1,r,z,q⟩=>⟨by rw [<- r.length];exact z,?_⟩)
 have hf:H1 s1.heap.objs.size=none:=I1.hok.fresh (aJ _)
 refine ⟨.ref s1.heap.objs.size,upd H1 s1.heap.objs.size (.tup xs),I1.laid (t':=s1.toks) (fun b u e=>ay _ e) (aJ _) ?_,rfl,q _ hf⟩
 exact ⟨z,us,r,⟨_,aQ _ rfl,rfl,⟨_,rfl⟩,rfl⟩⟩
theorem zL (h:PA X es t):PE X (.List es pos) (HL t):=by
 intro pins s σ H Q I hq
 refine wpAny_List_spliced (thn (h pos pins s σ H _ I hq) fun us s1 ⟨xs,H1,I1,r,z,q⟩=>⟨by rw [<- r.length];exact z,?_⟩)
 have hf:H1 s1.heap.objs.size=none:=I1.hok.fresh (aJ _)
 refine ⟨.ref s1.heap.objs.size,upd H1 s1.heap.objs.size (.lst xs),I1.laid (t':=s1.toks) (fun b u e=>ay _ e) (aJ _) ?_,rfl,q _ hf⟩
 exact ⟨z,us,0,r,aQ _ rfl⟩
end
abbrev Sp:=List V->Hp->VK->XK->Prop
abbrev CXT:=List Env->Hp->au->XK->aj->au->Prop
structure Qy (P:aX)(w:bB)(K:ax)(mg:Str->Option aj)(base:Heap)(A:bj)(outer:List Env)(s:au)(H:Hp):Prop where
 frames:A.frames=some outer
 mod:Mod K mg base
 bs:∀ b o,base.get? b=some o->s.heap.get? b=some o/\H b=none
 bsz:base.objs.size<=s.heap.objs.size
 funs:s.heap.FunFrames base outer
 frf:∀ b ∈ frs outer,H b=none
 hok:HOk P w H s.heap
 bare:ia s.gens
def CE (outer:List Env)(P:aX)(w:bB)(H:Hp)(s:au)(Q:VK)(u:aj)(s':au):Prop:=
 ∃ v H',s'.os=s.os/\ia s'.gens/\Un (frs outer) [] H H' s.heap s'.heap/\HOk P w H' s'.heap/\zv v u/\Q v H'
def CR (CX:CXT)(outer:List Env)(P:aX)(w:bB)(H:Hp)(s:au)(Q:VK)(E:XK)(r:nu)(s':au):Prop:=
 match r with
 | .ok (.ret u)=>CE outer P w H s Q u s'
 | .ok _=>False
 | .error e=>CX outer H s E e s'
structure js (P:aX)(w:bB)(K:ax)(mg:Str->Option aj)(base:Heap)(CX:CXT)(k:Nat)(f:aw)(fd:dE)(ps:List Str)(sp:Sp):Prop where
 len:∀ vs H Q E,sp vs H Q E->vs.length=ps.length
 run:∀ (A:bj) (outer:List Env) (s:au) (H:Hp) (args:Args) (us:List aj) (vs:List V) (Q:VK) (E:XK),qk k A->Qy P w K mg base A outer s H->lM s fd args (ps.zip us)->zw vs us->sp vs H Q E ->
  dR (aL P w) A (.call (.ref f) args) (CR CX outer P w H s Q E) s
variable {mg:Str->Option aj} {base:Heap} {CX:CXT} {fd:dE} {ps:List Str} {sp:Sp}
theorem js.mono {f:aw} (F:js P w K mg base CX j f fd ps sp)(h:j<=k) :
  js P w K mg base CX k f fd ps sp:=⟨F.len,fun A outer s H args us vs Q E hr=>F.run A outer s H args us vs Q E (hr.mono h)⟩
theorem js.imp {f:aw} {sp sp':Sp}(F:js P w K mg base CX k f fd ps sp)
  (h:∀ vs H Q E,sp' vs H Q E->sp vs H Q E):js P w K mg base CX k f fd ps sp':=
 ⟨fun vs H Q E q=>F.len vs H Q E (h _ _ _ _ q),fun A outer s H args us vs Q E hr he hb hv hs=>F.run A outer s H args us vs Q E hr he hb hv (h _ _ _ _ hs)⟩
theorem Qy.make {outer:List Env} (e:Qy P w K mg base A outer s H)(C:aw)(us:List aj)(kw:List (Str × aj)) :
  Qy P w K mg base (A.under (.builtin "type.__call__" ⟨.ref C :: us,kw⟩)) outer s H:=⟨by first | exact e.frames | (simpa [bj.under,mX.envs,mX.isFrame,pushEnvs] using e.frames),e.mod,e.bs,e.bsz,e.funs,e.frf,e.hok,e.bare⟩
section
variable {X:Cx}{pins:List (aw × Obj)}{σ:St}{H:Hp}{s s':au}
theorem Inv.env0 (I:Inv X pins σ H s):Qy X.prog X.w X.K X.mg X.base X.A X.stack s H:=
 ⟨I.ok.frames,I.ok.mod,I.bs,aZ I.ok.bsz I.sz,I.stack,I.stkFree,I.hok,I.bare⟩
theorem Inv.after {Q:VK}{u:aj}(I:Inv X pins σ H s)(h:CE X.stack X.prog X.w H s Q u s'):EP X pins σ Q u s':=by
 obtain ⟨v,H',os,bare,un,hok,r,q⟩:=h
 obtain ⟨hh,g,d,t,os'⟩:=s'
 obtain rfl:os'=s.os:=os
 exact ⟨v,H',I.call (h':=hh) (g':=g) (d':=d) (t':=t) (ch:=[]) un hok bare (fun b z=>absurd z (by simp)),r,q⟩
end
noncomputable def Ym (sp:Sp)(dvs:List V)(E:XK)(t:TA):TE:=fun σ H Q=>t σ H fun vs H1=>sp (vs ++ dvs) H1 Q E
noncomputable def Zf (C:aw)(m:Str)(sp:Sp)(dvs:List V)(E:XK)(ta:TE)(t:TA):TE:=fun σ H Q=>ta σ H fun x H1=>∃ a dx fs,x=.ref a/\H1 a=some (.ins C dx fs)/\fs.lookup m=none /\
 t σ H1 fun vs H2=>sp (x :: (vs ++ dvs)) H2 Q E
noncomputable def Xo (C:aw)(sp:Sp)(dvs:List V)(E:XK)(t:TA):TE:=fun σ H Q=>t σ H fun vs H1=>∀ x dx,H1 x=none->H1 dx=none->dx ≠ x ->
 sp (.ref x :: (vs ++ dvs)) (upd (upd H1 dx (.own x)) x (.ins C dx [])) (fun v H2=>v=.non/\Q (.ref x) H2) E
def jt (K:ax)(fd:dE)(ps:List Str)(ds:List aj):Prop:=
 ∀ (s:au) (us:List aj),K.In s.heap->(us ++ ds).length=ps.length->lM s fd ⟨us,[]⟩ (ps.zip (us ++ ds))
theorem jt.all (h:∀ us:List aj,us.length=ps.length->fA fd ⟨us,[]⟩=pure (ps.zip us)):jt K fd ps []:=fun s us _ hl=>by
 rw [cu] at hl ⊢
 exact .of_eq (h us hl)
def xr (CX:CXT)(X:Cx)(E:XK):Prop:=∀ (pins:List (aw × Obj)) (σ:St) (H:Hp) (s:au) (e:aj) (s':au),Inv X pins σ H s->CX X.stack H s E e s'->X.xe e s'
section
variable {X:Cx}{CX:CXT}{k:Nat}{f C:aw}{fd:dE}{ps:List Str}{sp:Sp}{dvs:List V}{ds:List aj}{E:XK}{x m:Str}{p pos apos:Pos}{e o:Expr}{es:List Expr}{ta:TE}{t:TA}
theorem KZ {pins:List (aw × Obj)}{σ:St}{H:Hp}{s:au}{Q:VK}{us:List aj}{vs:List V}(F:js X.prog X.w X.K X.mg X.base CX k f fd ps sp)(hr:qk k X.A)(hb:jt X.K fd ps ds)(hd:zw dvs ds)(hx:xr CX X E)
  (I:Inv X pins σ H s) (r:zw vs us) (h:sp (vs ++ dvs) H Q E):aK (aL X.prog X.w) X.A (call (.ref f) us) (EP X pins σ Q) X.xe s:=by
 have r2:zw (vs ++ dvs) (us ++ ds):=r.append hd
 have hl:(us ++ ds).length=ps.length:=by rw [<- r2.length];exact F.len _ _ _ _ h
 refine iA (fH (F.run X.A X.stack s H ⟨us,[]⟩ (us ++ ds) (vs ++ dvs) Q E hr I.env0 (hb s us I.kIn hl) r2 h) fun r s' hq=>?_)
 cases r with
 | error e=>exact hx pins σ H s e s' I hq
 | ok fl=>
  cases fl with
  | ret u=>exact I.after hq
  | next=>exact bU hq
  | brk=>exact bU hq
  | cont=>exact bU hq
theorem EY (F:js X.prog X.w X.K X.mg X.base CX k f fd ps sp)(hr:qk k X.A)(hg:Gl X x)(hm:X.mg x=some (.ref f))(hk:dh X.K (.ref f)=true)(hb:jt X.K fd ps ds)(hd:zw dvs ds)(hx:xr CX X E)
  (ha:PA X (e :: es) t) (hdb:(x == ("__debug__":Str))=false:=by decide) (he:aW (e :: es) X.env=(false,eval e X.env) :: aW es X.env:=by rfl) (hpl:(cG pos (aW es X.env)).any (·.1)=false:=by rfl) :
  PE X (.Call (.Name x p) (e :: es) [] pos) (Ym sp dvs E t):=by
 intro pins s σ H Q I h
 refine eV (jB I hg hm ?_ hdb)
 refine eW (h₀:=X.base) I.ok.mod.kin hk (thn (ha pos pins s σ H _ I h) fun us s1 ⟨vs,H1,I1,r,q⟩=>⟨I1.kIn,?_⟩) he hpl
 exact KZ F hr hb hd hx I1 r q
variable {pl:Sem Bool}
theorem GB (he:PE X o ta)(c:Cls X.K C)(hm:Kk X.K C m f)(F:js X.prog X.w X.K X.mg X.base CX k f fd ps sp)(hr:qk k X.A)(hb:jt X.K fd ps ds)(hd:zw dvs ds)(hx:xr CX X E)(ha:PA X (e :: es) t)
  (hst:aW (e :: es) X.env=(false,eval e X.env) :: aW es X.env:=by rfl) (hpl:(cG pos (aW es X.env)).any (·.1)=false:=by rfl)
  (ht:eval (.Call (.Attribute o m apos) (e :: es) [] pos) X.env=(do
   let ov <- eval o X.env
   iS apos.atName
   let (f,first) <- holding [ov] (getMethod ov m pl)
   gY pos f first (cG pos (aW (e :: es) X.env)) (fV pos (dU [] X.env))):=by rfl) :
  PE X (.Call (.Attribute o m apos) (e :: es) [] pos) (Zf C m sp dvs E ta t):=by
 intro pins s σ H Q I h
 refine ff (pl:=pl) (thn (he pins s σ H _ I h) fun u s1 ⟨x,H1,I1,rx,a,dx,fs,ex,ea,l,q⟩=>?_) ht
 subst ex
 obtain rfl:u=aj.ref a:=rx
 refine kI I1 ea c hm l ?_
 refine eW (first:=[.ref a]) (h₀:=X.base) I.ok.mod.kin hm.kp (thn (ha pos pins s1 σ H1 _ I1 q) fun us s2 ⟨vs,H2,I2,r,q2⟩=>⟨I2.kIn,?_⟩) hst hpl
 exact KZ (us:=.ref a :: us) (vs:=.ref a :: vs) F hr hb hd hx I2 (.cons rfl r) q2
theorem D8 (he:PE X o ta)(c:Cls X.K C)(hm:Kk X.K C m f)(F:js X.prog X.w X.K X.mg X.base CX k f fd ps sp)(hr:qk k X.A)(hb:jt X.K fd ps ds)(hd:zw dvs ds)(hx:xr CX X E)
  (ht:eval (.Call (.Attribute o m apos) [] [] pos) X.env=(do
   let ov <- eval o X.env
   iS apos.atName
   let (f,first) <- holding [ov] (getMethod ov m pl)
   gY pos f first (cG pos (aW [] X.env)) (fV pos (dU [] X.env))):=by rfl) :
  PE X (.Call (.Attribute o m apos) [] [] pos) (Zf C m sp dvs E ta vF):=by
 intro pins s σ H Q I h
 refine ff (pl:=pl) (thn (he pins s σ H _ I h) fun u s1 ⟨x,H1,I1,rx,a,dx,fs,ex,ea,l,q⟩=>?_) ht
 subst ex
 obtain rfl:u=aj.ref a:=rx
 refine kI I1 ea c hm l ?_
 exact PySem.W.callWith_K0 (first:=[.ref a]) I1.kIn hm.kp (KZ (us:=[.ref a]) (vs:=[.ref a]) F hr hb hd hx I1 (.cons rfl .nil) q)
structure Mk (K:ax)(C f:aw):Prop where
 makes:mj K C=true
 init:bo K (.ref C) "__init__"=some (some (.ref f))
 fn:dF K (.ref f)=true
 kp:dh K (.ref C)=true
theorem WJ {pins:List (aw × Obj)}{σ:St}{H:Hp}{s:au}{Q:VK}{us:List aj}{vs:List V}(M:Mk X.K C f)(F:js X.prog X.w X.K X.mg X.base CX k f fd ps sp)(hr:qk (k+1) X.A)(hb:jt X.K fd ps ds)(hd:zw dvs ds)
  (hx:xr CX X E) (I:Inv X pins σ H s) (r:zw vs us)
  (h:∀ x dx,H x=none->H dx=none->dx ≠ x->sp (.ref x :: (vs ++ dvs)) (upd (upd H dx (.own x)) x (.ins C dx [])) (fun v H2=>v=.non/\Q (.ref x) H2) E) :
  aK (aL X.prog X.w) X.A (call (.ref C) us) (EP X pins σ Q) X.xe s:=by
 have hq:=h (s.heap.objs.size+1) s.heap.objs.size (I.hok.fresh (gu _)) (I.hok.fresh (aJ _)) (br (og _))
 have I2:=Inv.made (C:=C) I
 have r2:zw (V.ref (s.heap.objs.size+1) :: (vs ++ dvs)) (aj.ref (s.heap.objs.size+1) :: (us ++ ds)):=.cons rfl (r.append hd)
 have hl:(aj.ref (s.heap.objs.size+1) :: us ++ ds).length=ps.length:=by
  have e:=r2.length
  rw [F.len _ _ _ _ hq] at e
  exact e.symm
 refine iA (Dz (f:=f) I.kIn M.makes M.init (beq_iff_eq.mp M.fn) (fH (F.run _ X.stack _ _ ⟨aj.ref (s.heap.objs.size+1) :: us,[]⟩ (aj.ref (s.heap.objs.size+1) :: (us ++ ds)) _ _ E (hr.make C us [])
  (I2.env0.make C us []) (hb _ (aj.ref (s.heap.objs.size+1) :: us) I2.kIn hl) r2 hq) fun r s' hq'=>?_))
 cases r with
 | error e=>exact hx pins σ _ _ e s' I2 hq'
 | ok fl=>
  cases fl with
  | ret u=>
   obtain ⟨v,H',I3,rv,ev,q3⟩:=I2.after hq'
   subst ev
   exact ⟨rv,⟨V.ref (s.heap.objs.size+1),H',I3,rfl,q3⟩⟩
  | next=>exact bU hq'
  | brk=>exact bU hq'
  | cont=>exact bU hq'
theorem F2 (M:Mk X.K C f)(F:js X.prog X.w X.K X.mg X.base CX k f fd ps sp)(hr:qk (k+1) X.A)(hg:Gl X x)(hm:X.mg x=some (.ref C))(hb:jt X.K fd ps ds)(hd:zw dvs ds)(hx:xr CX X E)
  (ha:PA X (e :: es) t) (hdb:(x == ("__debug__":Str))=false:=by decide) (he:aW (e :: es) X.env=(false,eval e X.env) :: aW es X.env:=by rfl) (hpl:(cG pos (aW es X.env)).any (·.1)=false:=by rfl) :
  PE X (.Call (.Name x p) (e :: es) [] pos) (Xo C sp dvs E t):=by
 intro pins s σ H Q I h
 refine eV (jB I hg hm ?_ hdb)
 refine eW (h₀:=X.base) I.ok.mod.kin M.kp (thn (ha pos pins s σ H _ I h) fun us s1 ⟨vs,H1,I1,r,q⟩=>⟨I1.kIn,?_⟩) he hpl
 exact WJ M F hr hb hd hx I1 r q
end
section
variable {X:Cx}{CX:CXT}{k:Nat}{f C:aw}{fd:dE}{ps ks:List Str}{sp:Sp}{E:XK}{x m:Str}{p pos apos kpos:Pos}{e o:Expr}{es:List Expr}{kws:List iX}{te ta:TE}{t tk:TA}{nm:Option Str}
structure Ng (K:ax)(fd:dE)(ps ks:List Str)(g:List aj->List aj->List aj)(gV:List V->List V->List V):Prop where
 to:∀ (s:au) (us ws:List aj),K.In s.heap->(g us ws).length=ps.length->lM s fd ⟨us,ks.zip ws⟩ (ps.zip (g us ws))
 rel:∀ {vs:List V} {us:List aj} {zs:List V} {ws:List aj},zw vs us->zw zs ws->zw (gV vs zs) (g us ws)
variable {g:List aj->List aj->List aj}{gV:List V->List V->List V}
end
structure zr (N P:List Str)(sc:Scope):Prop where
 kind:sc.kind=.function
 co:sc.isCoroutine=false
 gen:sc.isGenerator=false
 nd:N.Nodup
 pre:N.take P.length=P
 par:∀ x ∈ P,sc.names.lookup x=some .local \/ sc.names.lookup x=some .cell
 nofree:∀ y ∈ sc.names,y.2 ≠ .free
theorem wY {kindOf:Str->Option cr}{x:Str}:∀ {binds:List (Str × aj)} {m:Str->Option aj},(∀ v,(x,v) ∉ binds)->oP kindOf binds m x=m x
 | [],_,_=>rfl
 | (n,v) :: r,m,h=>by
  unfold oP
  rw [wY fun w hw=>h w (bD _ hw)]
  split
  ·have:x ≠ n:=by rintro rfl;exact h v ck
   simp [this]
  ·rfl
theorem Zk {kindOf:Str->Option cr}{x:Str}:∀ {binds:List (Str × aj)} {m:Str->Option aj},(∀ v,(x,v) ∉ binds)->oQ kindOf binds m x=m x
 | [],_,_=>rfl
 | (n,v) :: r,m,h=>by
  unfold oQ
  rw [Zk fun w hw=>h w (bD _ hw)]
  split
  ·rfl
  ·have:x ≠ n:=by rintro rfl;exact h v ck
   simp [this]
theorem Zi {kindOf:Str->Option cr}{x:Str}{v:aj}:∀ {P:List Str} {vs:List aj} {i:Nat} {m:Str->Option aj},P.Nodup->P[i]?=some x->vs[i]?=some v->kindOf x=some .local ->
  oP kindOf (P.zip vs) m x=some v
 | [],_,_,_,_,h,_,_=>by simp at h
 | _ :: _,[],_,_,_,_,h,_=>by simp at h
 | p :: P,w :: vs,0,m,nd,h1,h2,hk=>by
  simp at h1 h2;subst h1;subst h2
  show oP kindOf ((p,w) :: P.zip vs) m p=_
  unfold oP
  rw [wY fun v hv=>(dA.mp nd).1 (hU hv).1,if_pos hk]
  simp
 | p :: P,w :: vs,i+1,m,nd,h1,h2,hk=>by
  show oP kindOf ((p,w) :: P.zip vs) m x=_
  unfold oP
  exact Zi (i:=i) (dA.mp nd).2 (by simpa using h1) (by simpa using h2) hk
theorem wR {kindOf:Str->Option cr}{x:Str}{v:aj}:∀ {P:List Str} {vs:List aj} {i:Nat} {m:Str->Option aj},P.Nodup->P[i]?=some x->vs[i]?=some v->kindOf x ≠ some .local ->
  oQ kindOf (P.zip vs) m x=some v
 | [],_,_,_,_,h,_,_=>by simp at h
 | _ :: _,[],_,_,_,_,h,_=>by simp at h
 | p :: P,w :: vs,0,m,nd,h1,h2,hk=>by
  simp at h1 h2;subst h1;subst h2
  show oQ kindOf ((p,w) :: P.zip vs) m p=_
  unfold oQ
  rw [Zk fun v hv=>(dA.mp nd).1 (hU hv).1,if_neg hk]
  simp
 | p :: P,w :: vs,i+1,m,nd,h1,h2,hk=>by
  show oQ kindOf ((p,w) :: P.zip vs) m x=_
  unfold oQ
  exact wR (i:=i) (dA.mp nd).2 (by simpa using h1) (by simpa using h2) hk
noncomputable def start (N:List Str)(vs:List V):St:=vs.map some ++ aS (N.length - vs.length) none
noncomputable def jA (CX:CXT)(P:aX)(w:bB)(K:ax)(mg:Str->Option aj)(base:Heap)(N:List Str)(qual:Str)(scope:Scope)(f:aw)(cd:aj)(A:bj)(outer:List Env)(s:au)(H:Hp)(E:XK):Cx where
 prog:=P
 w:=w
 K:=K
 mg:=mg
 base:=base
 A:=A.deeper (fT qual scope s.heap.objs.size f cd)
 N:=N
 s₀:=s
 H₀:=H
 env:=fT qual scope s.heap.objs.size f cd
 outer:=outer
 stack:=fT qual scope s.heap.objs.size f cd :: outer
 ex:=[]
 calm:=true
 fn:=fun _=>true
 pn:=[]
 xe:=fun e s'=>aK (aL P w) (A.deeper (fT qual scope s.heap.objs.size f cd)) (leaving (fT qual scope s.heap.objs.size f cd) e) (fun _ s''=>CX outer H s E e s'') (fun e' s''=>CX outer H s E e' s'') s'
theorem QU {sc:Scope}{n:Nat}{x:Str}(h:sc.names.lookup x=some .cell):∃ c,(oj n sc.names []).lookup x=some c:=by
 have q:=gD sc.names n [] (.inl h)
 exact Option.isSome_iff_exists.mp q
theorem wM {CX : CXT}{P : aX}{w : bB}{K : ax}{mg : Str -> Option aj}{base : Heap}{N ps : List Str}{qual : Str}{scope : Scope}{f : aw}{cd : aj}{A : bj}{outer : List Env}{s s1 : au}{H : Hp}{E : XK}{us : List aj}{vs : List V}
    (S:zr N ps scope) (hd:A.handled=none) (e0:Qy P w K mg base A outer s H) (hl:vs.length=ps.length) (r:zw vs us)
    (x:InCallC s s.heap.objs.size (oP (fT qual scope s.heap.objs.size f cd).kindOf (ps.zip us) fun _=>none) (oj (s.heap.objs.size+1) scope.names []) (oQ (fT qual scope s.heap.objs.size f cd).kindOf (ps.zip us) fun _=>none) s1) :
    Inv (jA CX P w K mg base N qual scope f cd A outer s H E) [] (start N vs) H s1:=by
  have hpl:ps.length<=N.length:=by have:=congrArg oH S.pre;rw [cg] at this;omega
  obtain ⟨h1,tk,rfl,hk⟩:=x.done
  have noA:∀ b:aw,b ∉ (jA CX P w K mg base N qual scope f cd A outer s H E).ex:=fun b z=>absurd (show b ∈ ([]:List aw) from z) (by simp)
  refine ⟨⟨e0.mod,S.kind,rfl,rfl,aJ _,fun y z c h1 h2=>?_,fun y hy=>?_,fun y c _ h=>?_,fun _=>hd,bj.frames_deeper e0.frames,.inr ⟨rfl,rfl⟩,fun b z=>absurd z (noA b),e0.bs,e0.bsz,fun b _ _=>noA b,fun b z=>absurd z (noA b),e0.funs,e0.frf⟩,
    rfl,e0.bare,Un.kept hk,⟨_,x.toInCall.ns,fun i y v h1 h2 h3=>?_⟩,fun y c h=>⟨_,x.cell y c h⟩,e0.hok.fresh (aJ _),fun y c h=>?_,fun p hp=>absurd (show p ∈ ([]:List (aw × Obj)) from hp) (by simp),e0.hok.kept hk,?_⟩
  · exact name_of_addr x.apart (eL h1) (eL h2)
  · have hy:scope.names.lookup y=some .cell \/ scope.names.lookup y=some .free:=hy
    rcases hy with hy | hy
    · exact QU hy
    · exact absurd rfl (S.nofree _ (eL hy))
  · exact fF (x.above y c (eL h))
  · have hi : i < vs.length := by
      unfold start at h2
      by_cases hi:i<vs.length
      · exact hi
      · rw [dk (by simpa using hi)] at h2
        rw [lB] at h2
        split at h2 <;> cases h2
    have ha:vs[i]?=some v:=by
      unfold start at h2
      rw [cT (by simpa using hi),aD] at h2
      cases e:vs[i]? with
      | none=>rw [e] at h2;cases h2
      | some a=>rw [e] at h2;cases h2;rfl
    obtain ⟨u,hu,rv⟩:=r.get ha
    have hp:ps[i]?=some y:=by
      rw [<- S.pre,List.getElem?_take_of_lt (by omega)];exact h1
    have ndP:ps.Nodup:=by rw [<- S.pre];exact S.nd.sublist (List.take_sublist _ _)
    refine ⟨u,rv,?_⟩
    rcases S.par y (bJ hp) with k | k
    · exact .inl ⟨k,Zi ndP hp hu k⟩
    · obtain ⟨c,e⟩:=QU (n:=s.heap.objs.size+1) k
      refine .inr ⟨.inl k,c,e,?_⟩
      have q:=x.cell y c e
      rw [wR ndP hp hu (by show scope.names.lookup y ≠ _;rw [k];decide)] at q
      exact q
  · exact e0.hok.fresh (fF (x.above y c (eL h)))
  · unfold start
    show _=N.length
    rw [bc,az,ef]
    omega
theorem Wa {CX:CXT}{P:aX}{w:bB}{K:ax}{mg:Str->Option aj}{base:Heap}{k:Nat}{f:aw}{name qual:Str}{params:Arguments}{body:List de}{scope:Scope}{dV kV doc pm cdv ct oc:aj}{an od:Option aw}
  {osl:Array (Option aj)} {N ps:List Str} {sp:Sp} (lk:K.lookup f=some ⟨oc,od,.func (bY name qual params body scope dV kV doc pm an cdv ct),osl⟩) (hcd:fB K cdv qual=true) (S:zr N ps scope)
  (len:∀ vs H Q E,sp vs H Q E->vs.length=ps.length)
  (hbody:∀ (A:bj) (outer:List Env) (s:au) (H:Hp) (vs:List V) (Q:VK) (E:XK),qk k (A.deeper (fT qual scope s.heap.objs.size f cdv))->sp vs H Q E ->
   ∃ t,PSs (jA CX P w K mg base N qual scope f cdv A outer s H E) body t/\t { nx:=fun _ H'=>Q .non H',rt:=Q } (start N vs) H) :
  js P w K mg base CX (k+1) f (bY name qual params body scope dV kV doc pm an cdv ct) ps sp:=by
 refine ⟨len,fun A outer s H args us vs Q E hr e0 hb r hsp=>?_⟩
 have hl:=len _ _ _ _ hsp
 have KX:K.In s.heap:=e0.mod.kin.keeps fun b o e=>(e0.bs b o e).1
 have lim:s.heap.NoLimit:=e0.mod.nolimit.keeps fun b o e=>(e0.bs b o e).1
 have hkind:∀ y ∈ ps.zip us,scope.names.lookup y.1=some .local \/ (scope.names.lookup y.1=some .cell/\((oj (s.heap.objs.size+1) scope.names []).lookup y.1).isSome=true):=fun ⟨n,v⟩ hy=>by
  rcases S.par n (hU hy).1 with q | q
  ·exact .inl q
  ·exact .inr ⟨q,gD _ _ _ (.inl q)⟩
 refine codeAny_call_function hr.depth (KX _ _ lk) rfl S.co S.gen rfl (ny KX hcd) (hb _ _ _ _ ?_)
 refine wpAny_newFunctionEnv_cells S.kind hkind fun env he s1 x=>?_
 subst he
 refine ⟨lim.keeps x.toInCall.keep,codeAny_func ?_⟩
 obtain ⟨t,ht,hq⟩:=hbody A outer s H vs Q E (hr.deeper _) hsp
 have I:Inv (jA CX P w K mg base N qual scope f cdv A outer s H E) [] (start N vs) H s1:=wM S hr.hd e0 hl r x
 refine aO (ht [] s1 (start N vs) H _ I hq) (fun fl s' hs=>?_) fun e s' hs=>hs
 have fin:∀ {σ':St} {H':Hp} {v:V} {u:aj},Inv (jA CX P w K mg base N qual scope f cdv A outer s H E) [] σ' H' s'->zv v u->Q v H'->CE outer P w H s Q u s':=
  fun {σ' H' v u} J rv q=>⟨v,H',J.os,J.bare,J.base,J.hok,rv,q⟩
 cases fl with
 | ret u=>
  obtain ⟨v,σ',H',J,rv,q⟩:=hs
  exact fin J rv q
 | next=>
  obtain ⟨σ',H',J,q⟩:=hs
  exact fin (v:=V.non) (u:=aj.none) J rfl q
 | brk=>
  obtain ⟨_,_,_,q⟩:=hs
  exact bU q
 | cont=>
  obtain ⟨_,_,_,q⟩:=hs
  exact bU q
section
variable {X:Cx}{x:Str}{p pos:Pos}{e:Expr}{es:List Expr}{t:TA}{id T:String}{r:List V->Hp->VK->Prop}
noncomputable def tCB (r:List V->Hp->VK->Prop)(t:TA):TE:=fun σ H Q=>t σ H fun vs H1=>r vs H1 Q
theorem zm (hc:qG X (.builtin id) r)(hg:Gl X x)(hm:X.mg x=none)(hv:bK x=some (.builtin id))(ha:PA X (e :: es) t)(hn:x ≠ "__name__":=by decide)(hdb:(x == ("__debug__":Str))=false:=by decide)
  (he:aW (e :: es) X.env=(false,eval e X.env) :: aW es X.env:=by rfl) (hpl:(cG pos (aW es X.env)).any (·.1)=false:=by rfl):PE X (.Call (.Name x p) (e :: es) [] pos) (tCB r t):=by
 intro pins s σ H Q I h
 refine eV (xt I hg hm hv ?_ hn hdb)
 exact PyProof.Rows.callWith_builtin1 (thn (ha pos pins s σ H _ I h) fun us s1 ⟨vs,H1,I1,r1,q1⟩=>hc pins s1 σ H1 vs us Q I1 r1 q1) he hpl
theorem zU (hc:qG X (.type T) r)(hg:Gl X x)(hm:X.mg x=none)(hv:bK x=some (.type T))(ha:PA X (e :: es) t)(hn:x ≠ "__name__":=by decide)(hdb:(x == ("__debug__":Str))=false:=by decide)
  (he:aW (e :: es) X.env=(false,eval e X.env) :: aW es X.env:=by rfl) (hpl:(cG pos (aW es X.env)).any (·.1)=false:=by rfl):PE X (.Call (.Name x p) (e :: es) [] pos) (tCB r t):=by
 intro pins s σ H Q I h
 refine eV (xt I hg hm hv ?_ hn hdb)
 exact cI (thn (ha pos pins s σ H _ I h) fun us s1 ⟨vs,H1,I1,r1,q1⟩=>hc pins s1 σ H1 vs us Q I1 r1 q1) he hpl
end
end L2
namespace HT
open PySem PyProof.Rows
section
open PySem.SeqAt
open PySem.AutoSeq1 (wpAny_loadPart')
open PySem.MeetsSeq PySem.MeetsSeq2 PySem.MeetsSeq3
end
section
variable {prog:aX}{w:bB}{A:bj}{E:aj->au->Prop}{s:au}
theorem cat_tup {t b : aw}{vs ws : List aj}{Q : aj -> au -> Prop}(ht : nH s.heap t vs.toArray)(hb : nH s.heap b ws.toArray)(hv : vs ≠ [])
    (h1:ws=[]->Q (.ref t) s) (h2:ws ≠ []->Q (.ref s.heap.objs.size) { s with heap:=s.heap.push { cls:=.type "tuple",data:=.seq (vs ++ ws).toArray } })
    (hsz:vs.length+ws.length<=aM):aK (aL prog w) A (fv .Add (.ref t) (.ref b)) Q E s:=by
  obtain ⟨⟨cls,dd,data,sl⟩,ho,hc,n,hd⟩:=id ht
  obtain ⟨⟨cls2,dd2,data2,sl2⟩,ho2,hc2,n2,hd2⟩:=id hb
  simp only at hc hd hc2 hd2
  subst hc hd hc2 hd2
  have e:vs.toArray ++ ws.toArray=(vs ++ ws).toArray:=by simp
  by_cases hw:ws=[]
  · exact concat_meets ⟨_, ho, rfl⟩ ⟨_, ho2, rfl⟩ noFill_tuple_add seq_tuple_add lN lC (i6 _ _)
      (tuple_addW1 t b vs.toArray ws.toArray n n2 dd dd2 sl sl2 (by simpa using hv) (by simp [hw])) ⟨ho,ho2,h1 hw⟩
  · refine concat_meets ⟨_, ho, rfl⟩ ⟨_, ho2, rfl⟩ noFill_tuple_add seq_tuple_add lN lC (i6 _ _)
      (tuple_addW2 t b vs.toArray ws.toArray n n2 dd dd2 sl sl2 (by simpa using hv) (by simpa using hw) (by rw [aG,aG];exact hsz)) ⟨ho,ho2,?_⟩
    rw [e]
    exact h2 hw
noncomputable def sIx (n d:Nat):Option Int->Nat
 | none=>d
 | some v=>if v<0 then (v+(n:Int)).toNat else min v.toNat n
theorem sIx_none (n d:Nat):sIx n d none=d:=rfl
theorem sIx_nat (n d k:Nat):sIx n d (some (k:Int))=min k n:=by
 show (if (k:Int)<0 then ((k:Int)+(n:Int)).toNat else min (k:Int).toNat n)=min k n
 rw [if_neg (by omega),bQ]
theorem LB (n d:Nat)(hd:d<=n)(o:Option Int):sIx n d o<=n:=by
 cases o with
 | none=>exact hd
 | some v=>
  show (if v<0 then (v+(n:Int)).toNat else min v.toNat n)<=n
  by_cases hv:v<0
  ·rw [if_pos hv];omega
  ·rw [if_neg hv];exact Nat.min_le_right _ _
theorem X4 (v:Int)(n d:Nat):(if v<0 then max (v+(n:Int)) 0 else min v (n:Int))=((sIx n d (some v):Nat):Int):=by
 show (if v<0 then max (v+(n:Int)) 0 else min v (n:Int))=(((if v<0 then (v+(n:Int)).toNat else min v.toNat n):Nat):Int)
 by_cases hv:v<0
 ·simp only [if_pos hv];omega
 ·simp only [if_neg hv];omega
theorem Xc (lo hi:Option Int)(n:Nat):dC lo hi 1 (n:Int)=(((sIx n 0 lo:Nat):Int),((sIx n n hi:Nat):Int)):=by
 have h1:¬ ((1:Int)<0):=by omega
 unfold dC
 simp only [h1,if_false]
 refine Prod.ext ?_ ?_
 ·cases lo with
  | none=>rfl
  | some v=>exact X4 v n 0
 ·cases hi with
  | none=>rfl
  | some v=>exact X4 v n n
theorem JP (i j:Nat):bP (i:Int) (j:Int) 1=j - i:=by
 unfold bP
 have h1:(1:Int) > 0:=by omega
 simp only [h1,if_true,lO]
 split <;> omega
theorem slicePart_ {v:aj}{o:Option Int}{Q:Option Int->au->Prop}(p:eX v o)(h:Q o s):aK (aL prog w) A (Builtin.Slice.slicePartIndex v) Q E s:=by
 cases p with
 | none=>exact slicePart_none h
 | int i t=>exact slicePart_int h
variable {vl vu:aj} {lo hi:Option Int}
theorem yA {sl:aw} {n:Nat}{Q:Int × Int × Nat->au->Prop}(hs:s.heap.IsSliceOf sl vl vu .none)(pl:eX vl lo)(pu:eX vu hi)
  (h:Q (((sIx n 0 lo:Nat):Int),1,sIx n n hi - sIx n 0 lo) s):aK (aL prog w) A (cM (.ref sl) (pure (n:Int))) Q E s:=by
 obtain ⟨os,hos,hcs,hds⟩:=id hs
 unfold cM fO
 refine am (am (bO hos hds (x:=vl) rfl (am (bO hos hds (x:=vu) rfl (am (bO hos hds (x:=.none) rfl (aA ?_)))))))
 refine am (slicePart_none ?_)
 show aK _ _ (if ((1:Int) == 0)=true then _ else _) _ _ s
 rw [if_neg (by decide)]
 refine am (slicePart_ pl (am (slicePart_ pu (am (aA ?_)))))
 show aK _ _ (match dC lo hi 1 (n:Int) with | (lo,hi)=>pure (lo,(1:Int),bP lo hi 1)) _ _ s
 rw [Xc lo hi n]
 show aK _ _ (pure (((sIx n 0 lo:Nat):Int),(1:Int),bP ((sIx n 0 lo:Nat):Int) ((sIx n n hi:Nat):Int) 1)) _ _ s
 rw [JP]
 exact aA h
theorem Ej (xs:Array aj)(i k:Nat):((bT k).filterMap fun (m:Nat)=>xs[((i:Int)+(m:Int) * 1).toNat]?).toArray=((xs.toList.drop i).take k).toArray:=by
 have e:(fun (m:Nat)=>xs[((i:Int)+(m:Int) * 1).toNat]?)=fun m=>xs[i+m]?:=by
  funext m
  have:((i:Int)+(m:Int) * 1).toNat=i+m:=by omega
  rw [this]
 rw [e]
 have:=pick_run xs i k
 rw [nz] at this
 have e2:((fun x=>xs[x]?) ∘ fun x=>i+x)=fun m=>xs[i+m]?:=rfl
 rw [e2] at this
 rw [this]
theorem getItem_tuple_cut {t sl:aw}{items:Array aj} {Q:aj->au->Prop}(ht:nH s.heap t items)(hs:s.heap.IsSliceOf sl vl vu .none)(pl:eX vl lo)(pu:eX vu hi)
  (hw:¬ (sIx items.size 0 lo=0/\sIx items.size items.size hi=items.size))
  (h:Q (.ref s.heap.objs.size) { s with heap:=s.heap.push { cls:=.type "tuple",data:=.seq ((items.toList.drop (sIx items.size 0 lo)).take (sIx items.size items.size hi - sIx items.size 0 lo)).toArray } })
  (hsz:items.size<=aM):aK (aL prog w) A (fZ (.ref t) (.ref sl)) Q E s:=by
 have htake:sizeOk (.seq ((items.toList.drop (sIx items.size 0 lo)).take (sIx items.size items.size hi - sIx items.size 0 lo)).toArray):=by
  show ((items.toList.drop (sIx items.size 0 lo)).take (sIx items.size items.size hi - sIx items.size 0 lo)).toArray.size<=aM
  rw [aG,cg,bN,hW]
  omega
 have hj:sIx items.size items.size hi<=items.size:=LB _ _ (aJ _) hi
 obtain ⟨os,hos,hcs,hds⟩:=id hs
 have hTs:s.TypeIs (.ref sl) "slice":=⟨os,hos,hcs⟩
 unfold fZ
 try with_reducible refine cq ?_
 first | refine am (aA ?_) | skip
 refine am (iY ht.typeIs (by decide) ?_)
 refine am (cy (name:=ap "__getitem__") ht.typeIs bG
  (df bG ht.typeIs entry_tuple_getitem ?_ (args_tuple_getitem _ _)))
 show aK _ _ (fC (.ref t) >>= _) _ _ s
 refine am (tupleItemsOf_ ht ?_)
 refine am (ib hTs ?_)
 rw [if_pos (by decide)]
 refine am (yA hs pl pu ?_)
 have hno:¬ ((((sIx items.size 0 lo:Nat):Int) == 0 && (1:Int) == 1 && (sIx items.size items.size hi - sIx items.size 0 lo) == items.size)=true):=by
  intro q
  rw [b7,b7] at q
  have q1:((sIx items.size 0 lo:Nat):Int)=0:=mS q.1.1
  have q2:sIx items.size items.size hi - sIx items.size 0 lo=items.size:=mS q.2
  exact hw ⟨by omega,by omega⟩
 show aK _ _ (if (((sIx items.size 0 lo:Nat):Int) == 0 && (1:Int) == 1 && (sIx items.size items.size hi - sIx items.size 0 lo) == items.size)=true then _ else _) _ _ s
 rw [if_neg hno,Ej]
 first
  | exact am (m:=bF _) (bI (aA ⟨_,rfl,aA h⟩) htake)
  | exact am (m:=bF _) (bI (am (aA (aA ⟨_,rfl,aA h⟩))) htake)
  | exact am (am (m:=bF _) (bI (aA (aA ⟨_,rfl,aA h⟩)) htake))
  | exact am (am (m:=bF _) (bI (aA ⟨_,rfl,aA h⟩) htake))
end
end HT
namespace L2
open PySem PySem.Spec PyProof.Rows
abbrev TO:=St->Hp->(Option Int->Hp->Prop)->Prop
def PO (X:Cx)(e:Option Expr)(t:TO):Prop:=
 ∀ (pins:List (aw × Obj)) (s:au) (σ:St) (H:Hp) (Q:Option Int->Hp->Prop),Inv X pins σ H s->t σ H Q ->
  aK (aL X.prog X.w) X.A (evalPart e X.env) (fun u s'=>∃ o H',Inv X pins σ H' s'/\eX u o/\Q o H') X.xe s
noncomputable def ZL:TO:=fun _ H Q=>Q none H
noncomputable def DS (t:TE):TO:=fun σ H Q=>t σ H fun x H1=>∃ i,x=.int i/\Q (some i) H1
theorem vU {ns:List Int}:∀ {us:List aj},zw (ns.map V.int) us->lQ us ns:=by
 induction ns with
 | nil=>intro us r;rw [nO] at r;cases r;exact .nil
 | cons n ns ih=>
  intro us r
  rw [aY] at r
  cases r with
  | cons r1 r2=>
   obtain ⟨t,e⟩:=r1
   subst e
   exact .cons n t (ih r2)
section
variable {X:Cx}{e:Expr}{te:TE}{lo hi:Option Expr}{tl th:TO}{pos p2:Pos}
theorem zF:PO X none ZL:=by
 intro pins s σ H Q I h
 rw [evalPart_none]
 exact aA ⟨none,H,I,.none,h⟩
theorem zz (h:PE X e te):PO X (some e) (DS te):=by
 intro pins s σ H Q I hw
 rw [evalPart_some]
 refine thn (h pins s σ H _ I hw) fun u s1 ⟨x,H1,I1,r1,q1⟩=>?_
 obtain ⟨i,rfl,q⟩:=q1
 obtain ⟨t,rfl⟩:=r1
 exact ⟨some i,H1,I1,.int i t,q⟩
def SlR (X:Cx)(r:V->Option Int->Option Int->Hp->VK->Prop):Prop:=
 ∀ (pins:List (aw × Obj)) (s:au) (σ:St) (H:Hp) (x:V) (v vl vu:aj) (lo hi:Option Int) (sl:aw) (Q:VK),Inv X pins σ H s->zv x v->s.heap.IsSliceOf sl vl vu .none->eX vl lo->eX vu hi->r x lo hi H Q ->
  ∃ T id,typeLookup (.type T) "__getitem__"=pure (some (.builtin id))/\s.TypeIs v T/\aK (aL X.prog X.w) X.A (fZ v (.ref sl)) (EP X pins σ Q) X.xe s
noncomputable def tSl (r:V->Option Int->Option Int->Hp->VK->Prop)(te:TE)(tl th:TO):TE:=fun σ H Q=>te σ H fun x H1=>tl σ H1 fun l H2=>th σ H2 fun u H3=>r x l u H3 Q
theorem zx {r:V->Option Int->Option Int->Hp->VK->Prop}(hr:SlR X r)(he:PE X e te)(hl:PO X lo tl)(hu:PO X hi th):PE X (.Subscript e (.Slice lo hi none p2) pos) (tSl r te tl th):=by
 intro pins s σ H Q I h
 refine lR (thn (he pins s σ H _ I h) fun v s1 ⟨x,H1,I1,r1,q1⟩=>?_)
 refine wpAny_Slice (thn (hl pins s1 σ H1 _ I1 q1) fun vl s2 ⟨l,H2,I2,pl,q2⟩=>thn (hu pins s2 σ H2 _ I2 q2) fun vu s3 ⟨u,H3,I3,pu,q3⟩=>?_)
 rw [evalPart_none]
 refine aA ?_
 have I4:Inv X pins σ H3 { s3 with heap:=s3.heap.push { cls:=.type "slice",data:=.fields #[vl,vu,.none] } }:=I3.kept (t':=s3.toks) fun b ob q=>ay _ q
 obtain ⟨T,id,hT,ht,hg⟩:=hr pins { s3 with heap:=s3.heap.push { cls:=.type "slice",data:=.fields #[vl,vu,.none] } } σ H3 x v vl vu l u s3.heap.objs.size Q I4 r1 (gj ..) pl pu q3
 show aK (aL X.prog X.w) X.A (fX e (.Slice lo hi none p2) v (.ref s3.heap.objs.size)) (EP X pins σ Q) X.xe { s3 with heap:=s3.heap.push { cls:=.type "slice",data:=.fields #[vl,vu,.none] } }
 exact tail_any (ops:=[.ref s3.heap.objs.size,v]) ht hT hg (by with_unfolding_all rfl)
noncomputable def wF (xs:List V)(lo hi:Option Int):List V:=(xs.drop (HT.sIx xs.length 0 lo)).take (HT.sIx xs.length xs.length hi - HT.sIx xs.length 0 lo)
theorem yO (xs:List V)(lo hi:Option Int):(wF xs lo hi).length<=xs.length:=by
 unfold wF
 rw [cg,bN]
 omega
noncomputable def Lq (K:ax):V->Option Int->Option Int->Hp->VK->Prop:=fun x lo hi H Q=>∃ a xs,x=.ref a/\SqT K H a xs /\
 ¬ (HT.sIx xs.length 0 lo=0/\HT.sIx xs.length xs.length hi=xs.length)/\∀ p,H p=none->Q (.ref p) (upd H p (.tup (wF xs lo hi)))
theorem ji:SlR X (Lq X.K):=by
 intro pins s σ H x v vl vu lo hi sl Q I rx hs pl pu h
 obtain ⟨a,xs,rfl,hx,hw,q⟩:=h
 cases rx
 obtain ⟨its,r,ht,hz⟩:=I.tuple hx
 have hlen:its.toArray.size=xs.length:=by rw [aG];exact r.length.symm
 refine ⟨"tuple",_,bG.lookup,ht.typeIs,?_⟩
 refine HT.getItem_tuple_cut ht hs pl pu (by rw [hlen];exact hw) ?_ (by rw [hlen];exact hz)
 rw [hlen]
 refine ⟨.ref s.heap.objs.size,_,I.laid (t':=s.toks) (o:=.tup (wF xs lo hi)) (fun b ob q=>ay _ q) (aJ _) ?_,rfl,q _ (I.hok.fresh (aJ _))⟩
 exact ⟨aZ (yO xs lo hi) hz,_,(r.drop (HT.sIx xs.length 0 lo)).take (HT.sIx xs.length xs.length hi - HT.sIx xs.length 0 lo),y9.new _ _⟩
noncomputable def Xt (K:ax):R2:=fun x y H Q=>∃ a b xs ys,x=.ref a/\y=.ref b/\SqT K H a xs/\SqT K H b ys/\xs ≠ []/\xs.length+ys.length<=aM /\
 (ys=[]->Q (.ref a) H)/\(ys ≠ []->∀ p,H p=none->Q (.ref p) (upd H p (.tup (xs ++ ys))))
theorem zw.nil_iff {xs:List V}{us:List aj}(r:zw xs us):us=[] ↔ xs=[]:=by
 cases r with
 | nil=>simp
 | cons _ _=>simp
theorem jz:OpR X (fv .Add) (Xt X.K):=by
 intro pins s σ H x y v u Q I rx ry h
 obtain ⟨a,b,xs,ys,rfl,rfl,ha,hb,hx,hz,q1,q2⟩:=h
 cases rx
 cases ry
 obtain ⟨its,r1,p1,_⟩:=I.tuple ha
 obtain ⟨its2,r2,p2,_⟩:=I.tuple hb
 refine HT.cat_tup p1 p2 (fun z=>hx (r1.nil_iff.mp z)) (fun z=>⟨.ref a,H,I,rfl,q1 (r2.nil_iff.mp z)⟩) (fun z=>?_) (by rw [<- r1.length,<- r2.length];exact hz)
 refine ⟨.ref s.heap.objs.size,_,I.laid (t':=s.toks) (o:=.tup (xs ++ ys)) (fun b ob q=>ay _ q) (aJ _) ?_,rfl,q2 (fun w=>z (r2.nil_iff.mpr w)) _ (I.hok.fresh (aJ _))⟩
 exact ⟨by rw [bc];exact hz,_,r1.append r2,y9.new _ _⟩
end
noncomputable def ixN (n:Nat)(i:Int):Option Nat:=if 0<=i then (if i<n then some i.toNat else none) else if -(n:Int)<=i then some (i+n).toNat else none
noncomputable def atI {α:Type}(xs:List α)(i:Int):Option α:=(ixN xs.length i).bind fun j=>xs[j]?
variable {n j:Nat}
theorem XQ {i:Int} (h:ixN n i=some j):seqIndex? i n=some j/\j<n/\-(n:Int)<=i/\i<n:=by
 unfold ixN at h
 by_cases h0:0<=i
 ·rw [if_pos h0] at h
  by_cases h1:i<n
  ·rw [if_pos h1] at h
   have e:i.toNat=j:=bC h
   exact ⟨by rw [mI h0 h1,e],by omega,by omega,h1⟩
  ·rw [if_neg h1] at h;cases h
 ·rw [if_neg h0] at h
  by_cases h1:-(n:Int)<=i
  ·rw [if_pos h1] at h
   have e:(i+n).toNat=j:=bC h
   exact ⟨by rw [lS (by omega) h1,e],by omega,h1,by omega⟩
  ·rw [if_neg h1] at h;cases h
theorem Qt {α:Type}{xs:List α}{i:Int}{v:α}(h:atI xs i=some v):∃ j,seqIndex? i xs.length=some j/\xs[j]?=some v/\j<xs.length/\-(xs.length:Int)<=i/\i<xs.length:=by
 unfold atI at h
 cases e:ixN xs.length i with
 | none=>rw [e] at h;cases h
 | some j=>
  rw [e] at h
  obtain ⟨h1,h2,h3,h4⟩:=XQ e
  exact ⟨j,h1,h,h2,h3,h4⟩
theorem Fv {α:Type}{xs:List α} {v:α}(h:xs[j]?=some v):atI xs (j:Int)=some v:=by
 have hj:j<xs.length:=(aF.mp h).1
 have e:ixN xs.length (j:Int)=some j:=by
  unfold ixN
  rw [if_pos (by omega),if_pos (by omega)];simp
 unfold atI;rw [e];exact h
def EB (b:Expr):Prop:=∀ o i,mJ b false o i=operate [o,i] (fZ o i)
def IxR (X:Cx)(r:R2):Prop:=
 ∀ (value slice:Expr) (pins:List (aw × Obj)) (s:au) (σ:St) (H:Hp) (x y:V) (v u:aj) (Q:VK),Inv X pins σ H s->zv x v->zv y u->r x y H Q ->
  mJ slice false v u=operate [v,u] (fZ v u)->aK (aL X.prog X.w) X.A (fX value slice v u) (EP X pins σ Q) X.xe s
def MtR (X:Cx)(id:String)(r:V->List V->Hp->VK->Prop):Prop:=
 ∀ (pins:List (aw × Obj)) (s:au) (σ:St) (H:Hp) (x:V) (xs:List V) (v:aj) (us:List aj) (Q:VK),Inv X pins σ H s->zv x v->zw xs us->r x xs H Q ->
  aK (aL X.prog X.w) X.A (call (.builtin id) (v :: us)) (EP X pins σ Q) X.xe s
section
variable {X:Cx}{a b:Expr}{ta tb:TE}{pos:Pos}
theorem zB {r:R2}(hr:IxR X r)(ha:PE X a ta)(hb:PE X b tb)(hs:EB b):PE X (.Subscript a b pos) (tOp r ta tb):=by
 intro pins s σ H Q I h
 exact lR (LK ha hb I h fun v u s2 x y H2 I2 rx ry q=>hr a b pins s2 σ H2 x y v u Q I2 rx ry q (hs _ _))
noncomputable def EQ (K:ax):R2:=fun x y H Q=>∃ p xs i v,x=.ref p/\y=.int i/\SqL K H p xs/\atI xs i=some v/\Q v H
noncomputable def LX (K:ax):R2:=fun x y H Q=>∃ p xs i v,x=.ref p/\y=.int i/\SqT K H p xs/\atI xs i=some v/\Q v H
theorem qQ:IxR X (EQ X.K):=by
  intro value slice pins s σ H x y v u Q I rx ry h hs
  obtain ⟨p,xs,i,z,rfl,rfl,hq,he,q⟩:=h
  cases rx
  obtain ⟨t,rfl⟩:=ry
  obtain ⟨its,r,pl,hz⟩:=I.list hq
  obtain ⟨j,h1,h2,h3,h4,h5⟩:=Qt he
  obtain ⟨w,ew,rw'⟩:=r.get h2
  have hl:=r.length
  have hn:=vP
  have fin:EP X pins σ Q w s:=⟨z,H,I,rw',q⟩
  by_cases h0:0<=i
  · have hj : i.toNat = j := by
      rw [mI h0 h5] at h1
      exact bC h1
    exact item_listR pl.isList h0 (by omega) (by rw [hj];simpa using ew) fin hs
  · have hj : (i + (its.toArray.size : Int)).toNat = j := by
      rw [lS (by omega) h4] at h1
      rw [aG,<- hl]
      exact bC h1
    exact subscriptTail_builtinR (x:=w) pl.isList.typeIs iZ.lookup
      (lU (Q:=fun r s'=>r=w/\EP X pins σ Q r s') pl.isList (by omega) (by rw [aG] <;> omega) (by omega) (by rw [hj];simpa using ew) ⟨rfl,fin⟩) hs
theorem Lp:IxR X (LX X.K):=by
 intro value slice pins s σ H x y v u Q I rx ry h hs
 obtain ⟨p,xs,i,z,rfl,rfl,hq,he,q⟩:=h
 cases rx
 obtain ⟨t,rfl⟩:=ry
 obtain ⟨its,r,pl,hz⟩:=I.tuple hq
 obtain ⟨j,h1,h2,h3,h4,h5⟩:=Qt he
 obtain ⟨w,ew,rw'⟩:=r.get h2
 have hl:=r.length
 have hn:=vP
 have fin:EP X pins σ Q w s:=⟨z,H,I,rw',q⟩
 exact subscriptTail_builtinR (x:=w) pl.typeIs slot_tuple_getitem.lookup
  (getItem_tuple (j:=j) (Q:=fun r s'=>r=w/\EP X pins σ Q r s') pl (by omega) (by omega) (by rw [aG,<- hl];exact h1) (by simpa using ew) ⟨rfl,fin⟩) hs
theorem Kw (its:List aj)(n j:Nat)(u:aj):eF (·.setIfInBounds j u) { cls:=.type "list",data:=.seq its.toArray n }={ cls:=.type "list",data:=.seq (its.set j u).toArray n }:=by
 simp [eF]
variable {pins:List (aw × Obj)} {σ:St} {H:Hp} {s:au} {p:aw} {xs:List V}
theorem Inv.lst (I:Inv X pins σ H s)(h:H p=some (.lst xs)) :
  ∃ (its:List aj) (n:Nat),zw xs its/\s.heap.get? p=some { cls:=.type "list",data:=.seq its.toArray n }/\xs.length<=aM:=by
 obtain ⟨z,its,n,r,e⟩:=I.hok p _ h
 exact ⟨its,n,r,e,z⟩
theorem Inv.lstUpd {xs ys:List V}{its its':List aj}{n n':Nat}{f:Obj->Obj}(I:Inv X pins σ H s)(h:H p=some (.lst xs))
  (ho:s.heap.get? p=some { cls:=.type "list",data:=.seq its.toArray n }) (hf:f { cls:=.type "list",data:=.seq its.toArray n }={ cls:=.type "list",data:=.seq its'.toArray n' }) (r:zw ys its') (hz:ys.length<=aM) (t:Nat) :
  Inv X pins σ (upd H p (.lst ys)) { s with heap:=s.heap.update p f,toks:=t }:=by
 have e:(s.heap.update p f).get? p=some { cls:=.type "list",data:=.seq its'.toArray n' }:=by
  rw [cV f ho (by rw [hf] <;> rfl),hf]
 refine I.write (x:=p) (e:=p) (by rw [h];trivial) (.inl rfl) (fun b u hb q=>(dS _ _ (Ne.symm hb)).trans q) ⟨_,e⟩ ?_
 exact ⟨hz,its',n',r,e⟩
noncomputable def GG:V->V->V->Hp->(Hp->Prop)->Prop:=fun o i v H Q=>∃ p xs k j,o=.ref p/\i=.int k/\H p=some (.lst xs)/\ixN xs.length k=some j/\Q (upd H p (.lst (xs.set j v)))
theorem Wq:Fy X GG:=by
  intro pins s σ H o i v ov iv u Q I ro ri rv h
  obtain ⟨p,xs,k,j,rfl,rfl,hp,hj,q⟩:=h
  cases ro
  obtain ⟨t,rfl⟩:=ri
  obtain ⟨its,n,r,ho,hz⟩:=I.lst hp
  obtain ⟨h1,h2,h3,h4⟩:=XQ hj
  have hl:=r.length
  have hn:=vP
  have I':Inv X pins σ (upd H p (.lst (xs.set j v))) { s with heap:=s.heap.update p (eF (·.setIfInBounds j u)) }:=
    I.lstUpd hp ho (Kw its n j u) (r.set rv j) (by rw [aV];exact hz) s.toks
  by_cases h0:0<=k
  · have hk : k.toNat = j := by
      rw [mI h0 h4] at h1
      exact bC h1
    exact PySem.W.ki_setAt ho h0 (by omega) (by rw [aG,<- hl];exact h4) (by rw [hk];exact ⟨_,I',q⟩)
  · have hk : (k + (its.toArray.size : Int)).toNat = j := by
      rw [lS (by omega) h3] at h1
      rw [aG,<- hl]
      exact bC h1
    exact PySem.W.ki_setBack ho (by omega) (by rw [aG,<- hl];exact h3) (by omega) (by rw [hk];exact ⟨_,I',q⟩)
theorem Zz (lo hi:Option Int)(n:Nat):(cj lo hi none n).1=((HT.sIx n 0 lo:Nat):Int)/\(cj lo hi none n).2.1=((HT.sIx n n hi:Nat):Int)/\(cj lo hi none n).2.2=1:=by
 refine ⟨?_,?_,rfl⟩
 ·cases lo with
  | none=>simp [cj,HT.sIx]
  | some i=>
   simp only [cj,HT.sIx,om,show (1:Int) > 0 by decide,if_true]
   by_cases h:i<0
   ·simp only [h,if_true] <;> omega
   ·simp only [h,if_false] <;> omega
 ·cases hi with
  | none=>simp [cj,HT.sIx]
  | some i=>
   simp only [cj,HT.sIx,om,show (1:Int) > 0 by decide,if_true]
   by_cases h:i<0
   ·simp only [h,if_true] <;> omega
   ·simp only [h,if_false] <;> omega
theorem wK (its:List aj)(lo hi:Option Int):oo its.toArray lo hi none=((its.drop (HT.sIx its.length 0 lo)).take (HT.sIx its.length its.length hi - HT.sIx its.length 0 lo)).toArray:=by
 obtain ⟨h1,h2,h3⟩:=Zz lo hi its.toArray.size
 unfold oo
 rw [h1,h2,h3]
 simp only [sliceRange_one,pick_run,aG] <;> rfl
noncomputable def Ig (K:ax):V->Option Int->Option Int->Hp->VK->Prop:=fun x lo hi H Q=>∃ a xs,x=.ref a/\SqL K H a xs/\∀ p,H p=none->Q (.ref p) (upd H p (.lst (wF xs lo hi)))
theorem qb:SlR X (Ig X.K):=by
 intro pins s σ H x v vl vu lo hi sl Q I rx hs pl pu h
 obtain ⟨a,xs,rfl,hx,q⟩:=h
 cases rx
 obtain ⟨its,r,ht,hz⟩:=I.list hx
 have hlen:=r.length
 refine ⟨"list",_,iZ.lookup,ht.isList.typeIs,?_⟩
 refine i7 ht.isList hs pl pu .none (by simp) ?_ (by rw [aG] <;> omega)
 rw [wK,<- hlen]
 refine ⟨.ref s.heap.objs.size,_,I.laid (t':=s.toks) (o:=.lst (wF xs lo hi)) (fun b ob q=>ay _ q) (aJ _) ?_,rfl,q _ (I.hok.fresh (aJ _))⟩
 exact ⟨aZ (yO xs lo hi) hz,_,0,(r.drop (HT.sIx xs.length 0 lo)).take (HT.sIx xs.length xs.length hi - HT.sIx xs.length 0 lo),aQ _ rfl⟩
noncomputable def xO:V->Bool
 | .non=>true
 | .bl _=>true
 | .int _=>true
 | .str _=>true
 | _=>false
noncomputable def eqV:V->V->Bool
 | .non,.non=>true
 | .bl a,.bl b=>a == b
 | .bl a,.int b=>(if a then 1 else 0) == b
 | .int a,.bl b=>a == (if b then 1 else 0)
 | .int a,.int b=>a == b
 | .str a,.str b=>a == b
 | _,_=>false
theorem Ll {A:bj}{s:au}{y x:V}{u v:aj}(ry:zv y u)(rx:zv x v)(fy:xO y=true)(fx:xO x=true):bS A s u v (eqV y x):=by
 cases y with
 | non=>
  cases ry
  cases x with
  | non=>cases rx;exact bS.same _
  | bl b=>cases rx;exact bS.none_bool b
  | int b=>obtain ⟨t,rfl⟩:=rx;exact bS.none_int b t
  | str b=>obtain ⟨t,rfl⟩:=rx;exact bS.none_str b t
  | _=>exact absurd (show false=true from fx) bL
 | bl a=>
  cases ry
  cases x with
  | non=>cases rx;exact bS.bool_none a
  | bl b=>cases rx;exact bS.bool_bool a b
  | int b=>obtain ⟨t,rfl⟩:=rx;exact bS.bool_int a b t
  | str b=>obtain ⟨t,rfl⟩:=rx;exact bS.bool_str a b t
  | _=>exact absurd (show false=true from fx) bL
 | int a=>
  obtain ⟨t',rfl⟩:=ry
  cases x with
  | non=>cases rx;exact bS.int_none a t'
  | bl b=>cases rx;exact bS.int_bool a t' b
  | int b=>obtain ⟨t,rfl⟩:=rx;exact bS.int_int a t' b t
  | str b=>obtain ⟨t,rfl⟩:=rx;exact bS.int_str a t' b t
  | _=>exact absurd (show false=true from fx) bL
 | str a=>
  obtain ⟨t',rfl⟩:=ry
  cases x with
  | non=>cases rx;exact bS.str_none a t'
  | bl b=>cases rx;exact bS.str_bool a t' b
  | int b=>obtain ⟨t,rfl⟩:=rx;exact bS.str_int a t' b t
  | str b=>obtain ⟨t,rfl⟩:=rx;exact bS.str_str a t' b t
  | _=>exact absurd (show false=true from fx) bL
 | _=>exact absurd (show false=true from fy) bL
noncomputable def eqU (x:V)(u:aj):Bool:=match u with
 | .none=>eqV .non x
 | .bool b=>eqV (.bl b) x
 | .int i _=>eqV (.int i) x
 | .str z _=>eqV (.str z) x
 | _=>false
theorem DZ {x y:V}{u:aj}(r:zv y u)(f:xO y=true):eqU x u=eqV y x:=by
 cases y with
 | non=>cases r;rfl
 | bl b=>cases r;rfl
 | int i=>obtain ⟨t,rfl⟩:=r;rfl
 | str z=>obtain ⟨t,rfl⟩:=r;rfl
 | _=>exact absurd (show false=true from f) bL
theorem QT {A:bj}{s:au}{x:V}{v:aj}(rx:zv x v)(fx:xO x=true):∀ {xs:List V} {us:List aj},zw xs us->xs.all xO=true->∀ u ∈ us,bS A s u v (eqU x u)
 | _,_,.nil,_=>fun u hu=>by cases hu
 | y :: xs,u :: us,.cons r t,f=>fun u' hu=>by
  rw [eG,b7] at f
  rcases aE.mp hu with rfl | hu
  ·rw [DZ r f.1];exact Ll r rx f.1 fx
  ·exact QT rx fx t f.2 u' hu
theorem zE:qG X (.builtin "len") (fun xs H Q=>∃ p ys,xs=[.ref p]/\(SqL X.K H p ys \/ SqT X.K H p ys)/\Q (.int ys.length) H):=by
 intro pins s σ H xs us Q I r h
 obtain ⟨p,ys,rfl,hq,q⟩:=h
 obtain ⟨u,rfl,rx⟩:=jZ r
 cases rx
 have hn:=vP
 rcases hq with hq | hq
 ·obtain ⟨its,r',pl,hz⟩:=I.list hq
  have hlen:=r'.length
  exact Calls.call_len_list pl.isList (by simp only [aG] <;> omega) ⟨.int ys.length,H,I.tok _,⟨s.toks+1,by rw [aG,hlen]⟩,q⟩
 ·obtain ⟨its,r',pl,hz⟩:=I.tuple hq
  have hlen:=r'.length
  exact len_tuple pl (by simp only [aG] <;> omega) ⟨.int ys.length,H,I.tok _,⟨s.toks+1,by rw [aG,hlen]⟩,q⟩
theorem jD:qG X (.type "list") (fun xs H Q=>∃ p ys,xs=[.ref p]/\(SqL X.K H p ys \/ SqT X.K H p ys)/\∀ l,H l=none->Q (.ref l) (upd H l (.lst ys))):=by
 intro pins s σ H xs us Q I r h
 obtain ⟨p,ys,rfl,hq,q⟩:=h
 obtain ⟨u,rfl,rx⟩:=jZ r
 cases rx
 have fin:∀ (its:List aj),zw ys its->ys.length<=aM->∀ (h':Heap) (c':Nat),(∀ b o',s.heap.get? b=some o'->h'.get? b=some o') ->
   h'.get? s.heap.objs.size=some { cls:=.type "list",dict:=none,data:=.seq its.toArray c',slots:=#[] }->EP X pins σ Q (.ref s.heap.objs.size) { s with heap:=h' }:=fun its r' hz h' c' kp e=>
  ⟨.ref s.heap.objs.size,_,I.laid (t':=s.toks) kp (aJ _) (show zM X.prog X.w _ h' _ (.lst ys) from ⟨hz,its,c',r',e⟩),rfl,q _ (I.hok.fresh (aJ _))⟩
 rcases hq with hq | hq
 ·obtain ⟨its,r',pl,hz⟩:=I.list hq
  have hlen:=r'.length
  obtain ⟨o,ho,hc,n,hd⟩:=pl.isList
  exact call_list_seq p (.inl rfl) ho hc hd (fun h' c' kp e=>fin its r' hz h' c' kp e) (by simp only [aG] <;> omega)
 ·obtain ⟨its,r',pl,hz⟩:=I.tuple hq
  have hlen:=r'.length
  obtain ⟨o,ho,hc,n,hd⟩:=pl
  exact call_list_seq p (.inr rfl) ho hc hd (fun h' c' kp e=>fin its r' hz h' c' kp e) (by simp only [aG] <;> omega)
theorem qy:qG X (.type "tuple") (fun xs H Q=>∃ p ys,xs=[.ref p]/\((SqL X.K H p ys/\∀ l,H l=none->Q (.ref l) (upd H l (.tup ys))) \/ (SqT X.K H p ys/\Q (.ref p) H))):=by
 intro pins s σ H xs us Q I r h
 obtain ⟨p,ys,rfl,h⟩:=h
 obtain ⟨u,rfl,rx⟩:=jZ r
 cases rx
 rcases h with ⟨hq,q⟩ | ⟨hq,q⟩
 ·obtain ⟨its,r',pl,hz⟩:=I.list hq
  have hlen:=r'.length
  refine call_tuple_list pl.isList (fun h' kp=>?_) (by simp only [aG] <;> omega)
  have I1:Inv X pins σ H { s with heap:=h' }:=I.kept (t':=s.toks) kp
  have I2:Inv X pins σ (upd H h'.objs.size (.tup ys)) { s with heap:=h'.push { cls:=.type "tuple",data:=.seq its.toArray } }:=
   I1.laid (t':=s.toks) (fun b o e=>ay _ e) (aJ _) (show zM X.prog X.w _ _ _ (.tup ys) from ⟨hz,its,r',y9.new _ _⟩)
  exact ⟨.ref h'.objs.size,_,I2,rfl,q _ (I1.hok.fresh (aJ _))⟩
 ·obtain ⟨its,r',pl,hz⟩:=I.tuple hq
  exact call_tuple_same pl ⟨.ref p,H,I,rfl,q⟩
def tyV (K:ax)(T:String)(x:V)(H:Hp):Prop:=match x with
  | .str _=>T="str"
  | .int _=>T="int"
  | .ref p => (T = "list" /\ ∃ xs, SqL K H p xs) \/ (T = "tuple" /\ ((∃ xs, Rd H p (.tup xs)) \/ ∃ o, K.lookup p = some o /\ o.cls = .type "tuple" /\ o.dict = none)) \/
      (T="dict"/\((∃ kvs,H p=some (.dK kvs)) \/ ∃ kvs,H p=some (.dT kvs))) \/ (T="set"/\∃ S n,H p=some (.set S n))
  | _=>False
theorem Im {pins : List (aw × Obj)}{σ : St}{H : Hp}{s : au}{T : String}{x : V}{v : aj}(I : Inv X pins σ H s)(r : zv x v)(ty : tyV X.K T x H) :
    s.TypeIs v T/\∀ a,v=.ref a->∃ ob,s.heap.get? a=some ob/\ob.dict=none:=by
  cases x with
  | str z=>
    obtain ⟨t,rfl⟩:=r
    cases (show T="str" from ty)
    exact ⟨typeIs_str s z t,fun _ e=>nomatch e⟩
  | int i=>
    obtain ⟨t,rfl⟩:=r
    cases (show T="int" from ty)
    exact ⟨typeIs_int s i t,fun _ e=>nomatch e⟩
  | ref p=>
    cases r
    rcases ty with ⟨rfl,xs,hq⟩ | ⟨rfl,⟨xs,hx⟩ | ⟨o,hk,hc,hd⟩⟩ | ⟨rfl,hk⟩ | ⟨rfl,S,n,hk⟩
    · obtain ⟨its,_,pl,_⟩:=I.list hq
      refine ⟨pl.isList.typeIs,fun a e=>?_⟩
      cases e
      obtain ⟨o,n,e,c,hd,_⟩:=pl
      exact ⟨o,e,hd⟩
    · obtain ⟨_,its,_,o,e,c,_,hd⟩:=hx.ok I.hok
      refine ⟨⟨o,e,c⟩,fun a e2=>?_⟩
      cases e2
      exact ⟨o,e,hd⟩
    · refine ⟨⟨o,I.kIn p o hk,hc⟩,fun a e=>?_⟩
      cases e
      exact ⟨o,I.kIn _ o hk,hd⟩
    · have z : ∃ o, s.heap.get? p = some o /\ o.ExactDict := by
        rcases hk with ⟨kvs,hk⟩ | ⟨kvs,hk⟩
        · obtain ⟨_,_,_,_,o,_,_,e,ex,_⟩:=I.hok p _ hk
          exact ⟨o,e,ex⟩
        · obtain ⟨_,_,_,_,o,_,_,e,ex,_⟩:=I.hok p _ hk
          exact ⟨o,e,ex⟩
      obtain ⟨o,e,ex⟩:=z
      refine ⟨⟨o,e,ex.1⟩,fun a e2=>?_⟩
      cases e2
      exact ⟨o,e,ex.2.1⟩
    · obtain ⟨o,_,_,_,e,ex,_⟩:=I.hok p _ hk
      refine ⟨⟨o,e,ex.1⟩,fun a e2=>?_⟩
      cases e2
      exact ⟨o,e,ex.2.1⟩
  | _=>exact bU ty
noncomputable def tBM (K:ax)(T:String)(r:V->List V->Hp->VK->Prop)(to:TE)(t:TA):TE:=fun σ H Q=>to σ H fun x H1=>tyV K T x H1/\t σ H1 fun xs H2=>r x xs H2 Q
variable {o e:Expr}{es:List Expr}{to:TE}{t:TA}{name:Str}{apos cpos:Pos}{T id:String}{r:V->List V->Hp->VK->Prop}
theorem Yc (pa:PlainAttrs T)(slot:Slot T name id)(hty:typeOf (.builtin id)=pure (.type "method_descriptor"))(hm:MtR X id r)(ho:PE X o to)(ha:PA X (e :: es) t)
  (hbase:eE o name X.env (eval o X.env)=eval o X.env:=by rfl)
  (hfew:((cG cpos (aW (e :: es) X.env)).all (fun x=>!x.1) && (fV cpos (dU [] X.env)).all (fun x=>x.1.isSome)
   && decide ((e :: es).length+([]:List iX).length+(if ([]:List iX).isEmpty then 0 else 1)<30))=true:=by rfl)
  (hline:(apos.endLine == cpos.line)=true:=by rfl) (hs:aW (e :: es) X.env=(false,eval e X.env) :: aW es X.env:=by rfl) (hplain:(cG cpos (aW es X.env)).any (·.1)=false:=by rfl) :
  PE X (.Call (.Attribute o name apos) (e :: es) [] cpos) (tBM X.K T r to t):=by
 intro pins s σ H Q I h
 refine wpAny_Call_method_late hbase hfew hline rfl (thn (ho pins s σ H _ I h) fun v s1 ⟨x,H1,I1,r1,ty,q1⟩=>?_)
 obtain ⟨h1,h2⟩:=Im I1 r1 ty
 refine ⟨T,id,pa,slot,hty,h1,h2,?_⟩
 have hA:=ha cpos pins s1 σ H1 _ I1 q1
 rw [hs] at hA ⊢
 refine lV (by show (false || (cG cpos (aW es X.env)).any (·.1))=false;rw [hplain] <;> rfl) (fD ?_)
 exact thn hA fun us s2 ⟨vs,H2,I2,r2,q2⟩=>hm pins s2 σ H2 x vs v us Q I2 r1 r2 q2
end
def MtM (X:Cx)(id:String)(r:V->List V->Hp->VK->Prop):Prop:=
 ∀ (pins:List (aw × Obj)) (s:au) (σ:St) (H:Hp) (x:V) (xs:List V) (v:aj) (us:List aj) (Q:VK),Inv X pins σ H s->zv x v->zw xs us->r x xs H Q ->
  aK (aL X.prog X.w) X.A (call (.builtin id) (v :: us)) (EP X pins σ Q) X.xe s
theorem zw.one:∀ {x:V} {us:List aj},zw [x] us->∃ u,us=[u]/\zv x u
 | _,_,.cons r .nil=>⟨_,rfl,r⟩
theorem zw.dropLast {xs:List V}{us:List aj}(h:zw xs us):zw xs.dropLast us.dropLast:=by
 induction h with
 | nil=>exact .nil
 | cons r t ih=>
  cases t with
  | nil=>exact .nil
  | cons q t'=>exact .cons r ih
theorem zw.rep {xs:List V}{us:List aj}(h:zw xs us):∀ k:Nat,zw (aS k xs).flatten (aS k us).flatten
 | 0=>.nil
 | k+1=>by
  rw [dr,dr,eB,eB]
  exact zw.append h (zw.rep h k)
theorem Zt (its:List aj):∀ (k:Nat) (acc:List aj),
  oR (fun x1 x2=>x1 ++ x2) acc.toArray (aS k its.toArray)=(acc ++ (aS k its).flatten).toArray
 | 0,acc=>by simp
 | k+1,acc=>by
  have e:acc.toArray ++ its.toArray=(acc ++ its).toArray:=by simp
  have e2:(acc ++ its) ++ (aS k its).flatten=acc ++ (aS (k+1) its).flatten:=by
   rw [dr,eB,nQ]
  rw [<- e2,<- Zt its k (acc ++ its),<- e,dr,List.foldl_cons]
section
variable {X:Cx}{pins:List (aw × Obj)}{σ:St}{H:Hp}{s:au}{l b:aw}{xs ys zs:List V}
variable {t':Nat}
theorem Inv.lset {its its':List aj} {f:Array aj->Array aj} (I:Inv X pins σ H s)(hH:H l=some (.lst xs))
  (e:s.heap.get? l=some { cls:=.type "list",data:=.seq its.toArray n }) (hf:f its.toArray=its'.toArray) (hv:zw ys its') (hz:ys.length<=aM) :
  Inv X pins σ (upd H l (.lst ys)) { s with heap:=s.heap.update l (eF f),toks:=t' }:=by
 have q:=PySem.IsL.update e f
 rw [hf] at q
 refine I.write (x:=l) (e:=l) (by rw [hH];exact trivial) (.inl rfl) (fun b' u hb hu=>(dS s.heap (eF f) (Ne.symm hb)).trans hu) ⟨_,q⟩ ?_
 exact ⟨hz,its',_,hv,q⟩
theorem Inv.lnew {its:List aj} (I:Inv X pins σ H s)(hv:zw ys its)(hz:ys.length<=aM) :
  Inv X pins σ (upd H s.heap.objs.size (.lst ys)) { s with heap:=s.heap.push { cls:=.type "list",data:=.seq its.toArray },toks:=t' }:=
 I.laid (fun _ _ q=>ay _ q) (aJ _) ⟨hz,its,0,hv,aQ _ rfl⟩
theorem Inv.fresh (I:Inv X pins σ H s):H s.heap.objs.size=none:=I.hok.fresh (aJ _)
theorem Inv.lstM (I:Inv X pins σ H s)(hH:H l=some (.lst xs)):xs.length<=aM/\∃ (its:List aj) (n:Nat),zw xs its/\xs.length=its.length/\s.heap.get? l=some { cls:=.type "list",data:=.seq its.toArray n }:=by
 obtain ⟨z,its,n,r,e⟩:=I.hok l _ hH
 exact ⟨z,its,n,r,r.length,e⟩
theorem Jj (h:n<=aM):eI n=false:=by
 unfold eI
 exact decide_eq_false (by omega)
end
section
variable {X:Cx}
noncomputable def vn:V->List V->Hp->VK->Prop:=fun x vs H Q=>∃ l xs y,x=.ref l/\vs=[y]/\H l=some (.lst xs)/\xs.length<aM/\Q .non (upd H l (.lst (xs ++ [y])))
theorem Zc:MtM X "list.append" vn:=by
 intro pins s σ H x vs v us Q I rx rv h
 obtain ⟨l,xs,y,rfl,rfl,hH,hz,q⟩:=h
 cases rx
 obtain ⟨u,rfl,ru⟩:=rv.one
 obtain ⟨z,its,n,r,hl,e⟩:=I.lstM hH
 refine lW F.slot_list_append ⟨_,e,rfl⟩ F.entry_list_append (F.args_list_append_2 _ _) (PySem.list_append l its.toArray n u (by rw [aG];omega)) ⟨e,?_⟩
 refine ⟨.non,_,I.lset (its':=its ++ [u]) hH e (by simp) (r.append (.cons ru .nil)) ?_,rfl,q⟩
 rw [bc,List.length_singleton]
 omega
noncomputable def vh:V->List V->Hp->VK->Prop:=fun x vs H Q=>∃ l b xs zs,x=.ref l/\vs=[.ref b]/\H l=some (.lst xs)/\H b=some (.lst zs)/\xs.length+zs.length<=aM/\Q .non (upd H l (.lst (xs ++ zs)))
theorem VE:MtM X "list.extend" vh:=by
 intro pins s σ H x vs v us Q I rx rv h
 obtain ⟨l,b,xs,zs,rfl,rfl,hH,hB,hz,q⟩:=h
 cases rx
 obtain ⟨u,rfl,ru⟩:=rv.one
 cases ru
 obtain ⟨z,its,n,r,hl,e⟩:=I.lstM hH
 obtain ⟨z2,its2,n2,r2,hl2,e2⟩:=I.lstM hB
 have hsz:its.toArray.size+its2.toArray.size<=aM:=by rw [aG,aG];omega
 have hlong:¬ (!its.toArray.isEmpty && eI (its.toArray.size+its2.toArray.size))=true:=by
  rw [Jj hsz,iB]
  exact bL
 refine lW F.slot_list_extend ⟨_,e,rfl⟩ F.entry_list_extend (F.args_list_extend_2 _ _)
  (AutoSeq1.list_extend_list_list_0 l its.toArray n b its2.toArray n2 hlong (by rw [aG];omega) (by omega)) ⟨e,e2,?_⟩
 refine ⟨.non,_,I.lset (its':=its ++ its2) hH e (by simp) (r.append r2) ?_,rfl,q⟩
 rw [bc]
 omega
noncomputable def E9:R2:=fun x y H Q=>∃ l b xs zs,x=.ref l/\y=.ref b/\H l=some (.lst xs)/\H b=some (.lst zs)/\xs.length+zs.length<=aM/\∀ p,H p=none->Q (.ref p) (upd H p (.lst (xs ++ zs)))
theorem qu:OpR X (fv .Add) E9:=by
 intro pins s σ H x y v u Q I rx ry h
 obtain ⟨l,b,xs,zs,rfl,rfl,hH,hB,hz,q⟩:=h
 cases rx
 cases ry
 obtain ⟨z,its,n,r,hl,e⟩:=I.lstM hH
 obtain ⟨z2,its2,n2,r2,hl2,e2⟩:=I.lstM hB
 refine PySem.P.add_list e e2 ?_ (by rw [aG,aG];omega)
 have ea:its.toArray ++ its2.toArray=(its ++ its2).toArray:=by simp
 rw [ea]
 exact ⟨.ref _,_,I.lnew (t':=s.toks) (r.append r2) (by rw [bc];omega),rfl,q _ I.fresh⟩
noncomputable def E2:R2:=fun x y H Q=>∃ l k xs,x=.ref l/\y=.int k/\H l=some (.lst xs)/\-(2 ^ 63)<=k/\k<2 ^ 63/\xs.length * k.toNat<=aM /\
 ∀ p,H p=none->Q (.ref p) (upd H p (.lst (aS k.toNat xs).flatten))
theorem FL {α:Type}(xs:List α)(k:Nat):(aS k xs).flatten.length=k * xs.length:=by
 induction k with
 | zero=>simp
 | succ k ih=>rw [dr,eB,bc,ih,Nat.succ_mul,Nat.add_comm]
theorem KN:OpR X (fv .Mult) E2:=by
 intro pins s σ H x y v u Q I rx ry h
 obtain ⟨l,k,xs,rfl,rfl,hH,h1,h2,hz,q⟩:=h
 cases rx
 obtain ⟨t,rfl⟩:=ry
 obtain ⟨z,its,n,r,hl,e⟩:=I.lstM hH
 have hlen:its.toArray.size * k.toNat<=aM:=by rw [aG,<- hl];exact hz
 have hcap:¬ its.toArray.size * k.toNat > (2 ^ 63 - 1) / 8:=by
  have:(aM:Nat)<=(2 ^ 63 - 1) / 8:=by decide
  omega
 have hfit:¬ (!Builtin.List.listFitsIndex k)=true:=by
  rw [fitsIndex_both h1 h2]
  exact bL
 have hlong:¬ eI (its.toArray.size * k.toNat)=true:=by
  rw [Jj hlen]
  exact bL
 have hnew:oR (fun x1 x2=>x1 ++ x2) #[] (aS (if its.toArray.isEmpty=true then 0 else k.toNat) its.toArray)=(aS k.toNat its).flatten.toArray:=by
  have f0:∀ m:Nat,oR (fun x1 x2=>x1 ++ x2) #[] (aS m its.toArray)=(aS m its).flatten.toArray:=fun m=>by
   have:=Zt its m []
   rw [List.nil_append] at this
   exact this
  rw [f0]
  cases its with
  | nil=>simp
  | cons a r'=>rw [if_neg (by simp)]
 refine wpAny_binaryOp_repeat_ref (T:="list") (U:="int") (by decide) ⟨_,e,rfl⟩ (fun s'=>typeIs_int s' k t) noFill_list_mul F.fills_int_mul F.slot_int_rmul repeat_list F.slot_int_index.lookup
  (lW F.slot_int_rmul (typeIs_int s k t) F.entry_int_rmul (F.args_int_rmul_2 _ _) (int___rmul___int_list k t l its.toArray n)
   ⟨e,rfl,⟨_,e,rfl⟩,lW F.slot_list_mul ⟨_,e,rfl⟩ F.entry_list_mul (F.args_list_mul_2 _ _) (AutoListH.list___mul___list_int_3 l its.toArray n k t hfit hcap hlong) ⟨e,?_⟩⟩)
 rw [hnew]
 exact ⟨.ref _,_,I.lnew (t':=s.toks) (r.rep k.toNat) (by rw [FL,Nat.mul_comm];exact hz),rfl,q _ I.fresh⟩
end
section
variable {prog:aX}{w:bB}{A:bj}{E:aj->au->Prop}{s:au}
end
section
variable {X:Cx}
end
end L2
namespace Att
open PySem PySem.W PySem.Calls PyProof.Rows
theorem vd {P:Params}{h:Heap}:∀ (ns:List Int) (vs:List aj),WellAll P h vs (ns.map WData.int)->lQ vs ns:=by
 intro ns
 induction ns with
 | nil=>
  intro vs w
  rw [nO] at w
  cases w
  exact .nil
 | cons n ns ih=>
  intro vs w
  rw [aY] at w
  cases w with
  | cons a b=>
   cases a
   exact .cons _ _ (ih _ b)
theorem VR {l:OpenLaw}{n:Nat}(hn:l.most=some n){P:Params}{h:Heap}{args:List WData}{vals:List aj}
  (hpre:l.row.toRowW.claim.pre args=true) (hwl:WellAll P h vals args) :
  ∃ a vs ns,vals=[aj.ref a]/\args=[WData.list (ns.map WData.int)]/\h.get? a=some { cls:=.type "list",data:=.seq vs.toArray }/\lQ vs ns/\ns.length<=n:=by
 have hsh:WShape.hasAll [] args [.list .int]=true:=(pre_splitW hpre).1
 have hc:l.pre.holds [] { args:=args }=true:=(pre_splitW hpre).2
 obtain ⟨d,r,rfl,h1,h2⟩:=hasAllW_cons hsh
 obtain rfl:=hasAllW_nil h2
 obtain ⟨xs,rfl,h3⟩:=hasW_list h1
 obtain ⟨ns,rfl⟩:=items_int h3
 have hlen:ns.length<=n:=by
  unfold OpenLaw.pre at hc
  have h4:(WTm.not (.lt (.lit (.int (n:Int))) (.len (.arg 0)))).holds [] { args:=[.list (ns.map .int)] }=true:=by
   have h4:=(holds_andW hc).1
   rw [hn] at h4
   exact h4
  have h5:=condW_of h4 (w_not (w_lt w_lit (w_len_list (w_arg rfl))))
  rw [az] at h5
  refine Nat.le_of_not_lt fun q=>?_
  have q':(n:Int)<((ns.length:Nat):Int):=by omega
  first
   | (rw [decide_eq_true q'] at h5;exact absurd h5 (by decide))
   | (simp at h5;omega)
 cases hwl with
 | cons w1 w2=>
  cases w2
  cases w1 with
  | list ho hall=>exact ⟨_,_,ns,rfl,rfl,ho,vd ns _ hall,hlen⟩
theorem YZ (l:OpenLaw)(args:List WData):l.row.toRowW.claim.post args (.bool true) args=true:=
 postW_of (r:=l.row.toRowW) (X:=(true == true))
  (show WShape.has [] (.bool true) .bool=true by first | rfl | decide | simp [WShape.has,WShape.arms,WShape.armsAll])
  (show (WTm.eq .res (.lit (.bool true))).value [] { args:=args,res:=some (.bool true),after:=args }=some (.bool (true == true)) from w_eq_bool (w_res rfl) w_lit) rfl
theorem attach_call {l:OpenLaw}{n:Nat}{q:aX}{loose:List Str}{XP:(Str->Option aj)->Heap->Prop}{YP:bB->Heap->Prop}{d:DefRec}
  (hn:l.most=some n) (hdf:d.params.defaults=[])
  (call:∀ (w:bB) (s₀ s₁:au) (mg mb:Str->Option aj) (fa:aw) (o:Obj) (pm cd doc:aj) (a:aw) (vs:List aj) (ns:List Int),
   Ground q loose [] XP w s₀ mg mb s₁.heap->YP w s₁.heap ->
   s₁.heap.get? fa=some o->o.data=.func (docDef d.name d.params d.body d.scope pm cd doc)->s₁.heap.CodeRec cd d.name->mg d.name=some (.ref fa) ->
   s₁.heap.get? a=some { cls:=.type "list",data:=.seq vs.toArray }->lQ vs ns->ns.length<=n->s₁.gens=#[] ->
   dR (aL l.prog w) mT (.call (.ref fa) ⟨[.ref a],[]⟩) (fun r s'=>r=.ok (.ret (.bool true))/\OldK s₁.heap s'.heap/\s'.os=s₁.os/\ia s'.gens) s₁) :
  WalkO q loose XP YP l.row.toRowW d [] (fun f vs=>oS f vs):=by
 intro w s₀ s₁ mg mb G Y fa o pm cd doc dV kV ho hd hcd hD hmg hg args vals as hpre hlay hrd hwl hlo
 obtain rfl:dV=.none:=Dflts.none hD hdf
 obtain rfl:kV=.none:=Dflts.noKw hD
 obtain ⟨a,vs,ns,rfl,rfl,hobj,hints,hlen⟩:=VR hn hpre hwl
 refine enter_call (fH (call w s₀ s₁ mg mb fa o pm cd doc a vs ns G Y ho (fd_plain hd) hcd hmg hobj hints hlen hg) fun r s' hq=>?_)
 obtain ⟨rfl,h2,h3,h4⟩:=hq
 exact ⟨.inl ⟨.bool true,.bool true,[],rfl,fun _=>rfl,.bool true,YZ l _,fun _=>⟨i8.nil,fun _ hm=>(nomatch hm)⟩⟩,h2,h3,h4⟩
section
variable {prog:aX}{w:bB}{A:bj}{E:aj->au->Prop}{s:au}{K:Frag}
noncomputable def M9 (h:Heap)(L d:aw):List (aw × Obj):=(bT h.objs.size).filterMap fun a=>if a=L \/ a=d then none else (h.get? a).map fun o=>(a,o)
end
end Att
namespace L2
open PySem PySem.Spec PyProof.Rows
theorem xF:∀ {vs:List aj} {ns:List Int},lQ vs ns->zw (ns.map V.int) vs
 | _,_,.nil=>.nil
 | _,_,.cons n t h=>.cons ⟨t,rfl⟩ (xF h)
def Hs (H:Hp):Prop:=∀ b,H b=none \/ ∃ o xs,H b=some (.frz o (.lst xs))
theorem W7 {P:aX}{w:bB}{K:ax}{mg mb:Str->Option aj}{CX:CXT}{k:Nat}{fa a:aw}{fd:dE}{x:Str}{sp:Sp}{s₁:au}{vs:List aj}{ns:List Int}
  (KX:K.In s₁.heap) (hns:s₁.heap.Ns bq mg) (hb:s₁.heap.Ns builtinsNs mb) (hbb:∀ x:Str,x ≠ "__name__"->mb x=bK x) (hlim:s₁.heap.NoLimit) (hg:s₁.gens=#[])
  (ha:s₁.heap.get? a=some { cls:=.type "list",data:=.seq vs.toArray }) (hi:lQ vs ns) (hl:ns.length<=aM) (hr:qk k mT)
  (F:∀ base:Heap,K.In base->base.Ns bq mg->js P w K mg base CX k fa fd [x] sp) (hbind:∀ (s:au) (u:aj),lM s fd ⟨[u],[]⟩ [(x,u)])
  (hsp:∀ H:Hp,Hs H->SqL K H a (ns.map V.int)->sp [.ref a] H (fun v _=>v=.bl true) fun _ _ _=>False)
  (hCX:∀ H e s',CX [] H s₁ (fun _ _ _=>False) e s'->False) :
  dR (aL P w) mT (.call (.ref fa) ⟨[.ref a],[]⟩) (fun r s'=>r=.ok (.ret (.bool true))/\OldK s₁.heap s'.heap/\s'.os=s₁.os/\ia s'.gens) s₁:=by
 have rv:=xF hi
 have lenV:=hi.length
 have core:∀ H:Hp,Hs H->SqL K H a (ns.map V.int)->HOk P w H s₁.heap->(∀ b,H b ≠ none->b=a)->(H a ≠ none->K.lookup a=none) ->
   dR (aL P w) mT (.call (.ref fa) ⟨[.ref a],[]⟩) (fun r s'=>r=.ok (.ret (.bool true))/\OldK s₁.heap s'.heap/\s'.os=s₁.os/\ia s'.gens) s₁:=by
  intro H hO hS hok hA hK
  have base_of:∀ {b:aw} {o:Obj},s₁.heap.get? b=some o->H b=none->(ZP s₁.heap H).get? b=some o:=fun e n=>WG e n
  have noA:∀ {b:aw} {o:Obj} {es:Array DictEntry} {ep:Nat},s₁.heap.get? b=some o->o.data=.dict es ep->H b=none:=fun {b o es ep} e d=>by
   cases q:H b with
   | none=>rfl
   | some u=>
    have e':b=a:=hA b (by rw [q];simp)
    subst e'
    rw [ha] at e;cases e
    have d':lE vs.toArray _=Data.dict es ep:=d
    cases d'
  have nsK:∀ {b:aw} {m:Str->Option aj},s₁.heap.Ns b m->(ZP s₁.heap H).Ns b m:=fun {b m} ⟨o,es,ep,e,d,r⟩=>⟨o,es,ep,base_of e (noA e d),d,r⟩
  have hKb:K.In (ZP s₁.heap H):=fun b o e=>base_of (KX b o e) (by
   cases q:H b with
   | none=>rfl
   | some u=>
    have e':b=a:=hA b (by rw [q];simp)
    subst e'
    rw [hK (by rw [q];simp)] at e;cases e)
  have hM:Mod K mg (ZP s₁.heap H):=⟨hKb,nsK hns,⟨mb,nsK hb,hbb⟩,let ⟨mc,h1,h2⟩:=hlim;⟨mc,nsK h1,h2⟩⟩
  have e0:Qy P w K mg (ZP s₁.heap H) mT [] s₁ H:=⟨rfl,hM,fun b o e=>Fg e,nL (YT _ _),trivial,fun b hb=>absurd (show b ∈ ([]:List aw) from hb) (by simp),hok,.of_eq hg⟩
  refine fH ((F _ hKb (nsK hns)).run mT [] s₁ H ⟨[.ref a],[]⟩ [.ref a] [.ref a] _ _ hr e0 (hbind s₁ (.ref a)) (.cons rfl .nil) (hsp H hO hS)) fun r s' h=>?_
  cases r with
  | error e=>exact (hCX H e s' h).elim
  | ok fl=>
   cases fl with
   | next=>exact bU h
   | brk=>exact bU h
   | cont=>exact bU h
   | ret u=>
    obtain ⟨v,H',os,bare,un,hok',r',q⟩:=h
    have q':v=.bl true:=q
    subst q'
    obtain rfl:u=aj.bool true:=r'
    refine ⟨rfl,OldK.of_keep fun b o e=>?_,os,bare⟩
    cases q:H b with
    | none=>exact un.keep b o e q (by intro z;exact absurd (show b ∈ ([]:List aw) from z) (by simp)) (by simp)
    | some u=>
     rcases hO b with z | ⟨ob,xs,z⟩
     ·rw [q] at z;cases z
     ·have z2:=un.frzs b ob _ z
      obtain ⟨e1,_⟩:=hok b _ z
      obtain ⟨e2,_⟩:=hok' b _ z2
      rw [e] at e1;cases e1
      exact e2
 cases hk:K.lookup a with
 | some o=>
  have e:=KX a o hk
  rw [ha] at e
  cases e
  refine core (fun _=>none) (fun _=>.inl rfl) (.inr ⟨_,vs.toArray,_,hk,rfl,rfl,rfl,by rw [aG,lenV];exact hl,by simpa using rv⟩) (fun b u z=>by have z':(none:Option HO)=some u:=z;cases z') (fun b z=>absurd rfl z) fun z=>absurd rfl z
 | none=>
  refine core (fun b=>if b=a then some (.frz { cls:=.type "list",data:=.seq vs.toArray } (.lst (ns.map V.int))) else none) (fun b=>?_) (.inl (.inr ⟨{ cls:=.type "list",data:=.seq vs.toArray },if_pos rfl⟩)) (fun b u z=>?_) (fun b z=>?_) fun _=>hk
  ·by_cases hb:b=a
   ·exact .inr ⟨_,_,if_pos hb⟩
   ·exact .inl (if_neg hb)
  ·by_cases hb:b=a
   ·have z':=(if_pos hb).symm.trans z
    cases z'
    subst hb
    exact ⟨ha,by rw [az];exact hl,vs,_,rv,ha⟩
   ·have z':=(if_neg hb).symm.trans z
    cases z'
  ·by_cases hb:b=a
   ·exact hb
   ·exact absurd (if_neg hb) z
noncomputable abbrev KOf {K:ax}{h:Heap}(_:K.In h):ax:=K
theorem walk_of {l:PySem.W.OpenLaw}{n k:Nat}{q:aX}{loose:List Str}{XP:(Str->Option aj)->Heap->Prop}{YP:bB->Heap->Prop}{d:DefRec}{K:Params->ax}{CX:bB->CXT}{sp:bB->Sp}{x:Str}
  (hn:l.most=some n) (hn2:n<=aM) (hdf:d.params.defaults=[]) (hr:qk k mT)
  (hY:∀ (w:bB) (h:Heap),YP w h->(K w.params).In h)
  (F:∀ (w:bB) (mg:Str->Option aj) (fa:aw) (h:Heap),(K w.params).In h->h.Ns bq mg->mg d.name=some (.ref fa) ->
   ∃ fd:dE,(∀ (s:au) (u:aj),lM s fd ⟨[u],[]⟩ [(x,u)]) /\
    ∀ base:Heap,(K w.params).In base->base.Ns bq mg->js l.prog w (K w.params) mg base (CX w) k fa fd [x] (sp w))
  (hsp:∀ (w:bB) (H:Hp) (a:aw) (ns:List Int),ns.length<=n->Hs H->SqL (K w.params) H a (ns.map V.int)->sp w [.ref a] H (fun v _=>v=.bl true) fun _ _ _=>False)
  (hCX:∀ (w:bB) (H:Hp) (s:au) (e:aj) (s':au),CX w [] H s (fun _ _ _=>False) e s'->False) :
  PySem.W.WalkO q loose XP YP l.row.toRowW d [] (fun f vs=>oS f vs):=by
 refine Att.attach_call hn hdf fun w s₀ s₁ mg mb fa o pm cd doc a vs ns G Y ho hd hcd hmg hobj hints hlen hg=>?_
 have KX:=hY w _ Y
 obtain ⟨fd,hb,hF⟩:=F w mg fa _ KX G.T.g hmg
 exact W7 KX G.T.g G.T.b G.T.builtins G.T.nolimit hg hobj hints (aZ hlen hn2) hr hF hb (fun H hO hS=>hsp w H a ns hlen hO hS) fun H e s'=>hCX w H s₁ e s'
end L2
namespace L2
open PySem PySem.Spec PyProof.Rows
noncomputable def jn (s:de)(j:Nat):de:=match s with
 | .ClassDef _ _ _ body _ _ _ _ _ _ _=>body.getD j (.Pass ⟨0,0,0,0⟩)
 | _=>.Pass ⟨0,0,0,0⟩
noncomputable def qp (s:de):Arguments:=match s with
 | .FunctionDef _ a _ _ _ _ _ _ _ _=>a
 | _=>{ posonlyargs:=[],args:=[],vararg:=none,kwonlyargs:=[],kw_defaults:=[],kwarg:=none,defaults:=[] }
noncomputable def zP (s:de):List de:=match s with
 | .FunctionDef _ _ b _ _ _ _ _ _ _=>b
 | _=>[]
noncomputable def zf (s:de):Scope:=match s with
 | .FunctionDef _ _ _ _ _ _ sc _ _ _=>sc
 | _=>{ kind:=.function,names:=[],isGenerator:=false,isCoroutine:=false }
noncomputable abbrev CX0:CXT:=fun _ _ _ _ _ _=>False
noncomputable abbrev E0:XK:=fun _ _ _=>False
variable {X:Cx}
theorem Xu:xr CX0 X E0:=fun _ _ _ _ _ _ _ h=>h.elim
structure Fun (K:ax)(x qual:Str)(st:de)(f:aw)(fd:dE):Prop where
 ex:∃ (oc:aj) (od:Option aw) (kV doc pm:aj) (an:Option aw) (cdv ct:aj) (osl:Array (Option aj)),
  fd=bY x qual (qp st) (zP st) (zf st) .none kV doc pm an cdv ct/\K.lookup f=some ⟨oc,od,.func fd,osl⟩/\fB K cdv qual=true
 kp:dh K (.ref f)=true
section
variable {P:aX}{w:bB}{K:ax}{mg:Str->Option aj}{base:Heap}
variable {st:de} {f:aw} {fd:dE}
theorem Fun.ok {x qual:Str} {N ps:List Str}{k:Nat}{sp:Sp}(F:Fun K x qual st f fd)(S:zr N ps (zf st))(len:∀ vs H Q E,sp vs H Q E->vs.length=ps.length)
  (hbody:∀ (cdv:aj) (A:bj) (outer:List Env) (s:au) (H:Hp) (vs:List V) (Q:VK) (E:XK),qk k (A.deeper (fT qual (zf st) s.heap.objs.size f cdv))->sp vs H Q E ->
   ∃ t,PSs (jA CX0 P w K mg base N qual (zf st) f cdv A outer s H E).nox (zP st) t/\t { nx:=fun _ H'=>Q .non H',rt:=Q } (start N vs) H):js P w K mg base CX0 (k+1) f fd ps sp:=by
 obtain ⟨oc,od,kV,doc,pm,an,cdv,ct,osl,rfl,lk,hcd⟩:=F.ex
 refine Wa lk hcd S len fun A outer s H vs Q E hr hsp=>?_
 obtain ⟨t,h,q⟩:=hbody cdv A outer s H vs Q E hr hsp
 exact ⟨t,h.nox,q⟩
theorem Fun.binds {x qual:Str} {ps:List Str}(F:Fun K x qual st f fd)
  (h:∀ (kV doc pm:aj) (an:Option aw) (cdv ct:aj) (us:List aj),us.length=ps.length->fA (bY x qual (qp st) (zP st) (zf st) .none kV doc pm an cdv ct) ⟨us,[]⟩=pure (ps.zip us)):jt K fd ps []:=by
 obtain ⟨oc,od,kV,doc,pm,an,cdv,ct,osl,rfl,lk,hcd⟩:=F.ex
 exact .all (h kV doc pm an cdv ct)
theorem fun_mk {x qual:Str} {oc:aj}{od an:Option aw}{osl:Array (Option aj)}{kV doc pm cdv ct:aj}(l:K.lookup f=some ⟨oc,od,.func (bY x qual (qp st) (zP st) (zf st) .none kV doc pm an cdv ct),osl⟩)
  (c:fB K cdv qual=true) (k:dh K (.ref f)=true):Fun K x qual st f (bY x qual (qp st) (zP st) (zf st) .none kV doc pm an cdv ct):=⟨⟨oc,od,kV,doc,pm,an,cdv,ct,osl,rfl,l,c⟩,k⟩
end
variable {A:bj}
theorem kq {k:Nat}(hr:qk k A):A.units+1<fW:=b8 (mY (by decide:1<=64) _) hr.units
theorem wZ {n:Nat}(h:n<=1000):n<aM:=b8 h (by decide)
section
variable {X:Cx}
theorem pv (i:Nat){x:Str}{pos:Pos}(hN:X.N[i]?=some x:=by rfl)(hv:Vis X.env.scope x:=by first | exact bf rfl | exact bg (bf rfl) | exact bg (bg rfl))(hd:(x == ("__debug__":Str))=false:=by decide)
  (hcd:(x == ("__classdict__":Str))=false:=by decide):PE X (.Name x pos) (qT i):=Li hN hv hd hcd
end
theorem M8 {c A B:Prop}[Decidable c](h1:c->A)(h2:¬ c->B):if c then A else B:=by
 by_cases h:c
 ·rw [if_pos h]
  exact h1 h
 ·rw [if_neg h]
  exact h2 h
section
variable {κ:Type}[DecidableEq κ]
noncomputable def kQ (kvs:List (κ × V))(k:κ):Option V:=(kvs.find? fun kv=>decide (kv.1=k)).map (·.2)
noncomputable def xJ (kvs:List (κ × V))(k:κ)(v:V):List (κ × V):=
 if (kvs.any fun kv=>decide (kv.1=k))=true then kvs.map (fun kv=>if kv.1=k then (kv.1,v) else kv) else kvs ++ [(k,v)]
variable {p:κ × V} {r:List (κ × V)} {k:κ}
theorem yd (e:p.1=k):kQ (p :: r) k=some p.2:=by simp [kQ,dB,e]
theorem yl (e:¬ p.1=k):kQ (p :: r) k=kQ r k:=by simp [kQ,dB,e]
theorem Jz (k:κ):∀ kvs:List (κ × V),(kvs.any fun kv=>decide (kv.1=k))=(kQ kvs k).isSome
 | []=>rfl
 | p :: r=>by
  rw [gT]
  by_cases e:p.1=k
  ·simp only [yd e,decide_eq_true e,Bool.true_or,Option.isSome_some]
  ·rw [yl e,decide_eq_false e,Bool.false_or];exact Jz k r
theorem xf (kvs:List (κ × V))(k:κ)(v:V):(xJ kvs k v).length<=kvs.length+1:=by
 unfold xJ
 split
 ·rw [az];omega
 ·rw [bc,aN,bV];omega
theorem j8.isSome_eq {o:Option V}{u:Option aj}(r:j8 o u):o.isSome=u.isSome:=by
 cases o with
 | none=>cases u with
  | none=>rfl
  | some _=>exact (show False from r).elim
 | some _=>cases u with
  | none=>exact (show False from r).elim
  | some _=>rfl
theorem j8.getD {o:Option V}{u:Option aj}{d:V}{d':aj}(r:j8 o u)(rd:zv d d'):zv (o.getD d) (u.getD d'):=by
 cases o with
 | none=>cases u with
  | none=>exact rd
  | some _=>exact (show False from r).elim
 | some _=>cases u with
  | none=>exact (show False from r).elim
  | some _=>exact r
theorem KV.val {kvs:List (κ × V)}{vs:List (κ × aj)}(r:KV kvs vs)(k:κ):j8 (kQ kvs k) (mU vs k):=by
 unfold KV at r
 induction r with
 | nil=>exact True.intro
 | @cons p q ps qs h t ih=>
  obtain ⟨h1,h2⟩:=h
  by_cases e:p.1=k
  ·have e':q.1=k:=h1.symm.trans e
   have b:mU (q :: qs) k=some q.2:=by simp [mU,dB,e']
   rw [yd e,b];exact h2
  ·have e':¬ q.1=k:=fun z=>e (h1.trans z)
   have b:mU (q :: qs) k=mU qs k:=by simp [mU,dB,e']
   rw [yl e,b];exact ih
theorem KV.any {kvs:List (κ × V)}{vs:List (κ × aj)}(r:KV kvs vs)(k:κ):(kvs.any fun kv=>decide (kv.1=k))=vs.any fun kv=>decide (kv.1=k):=by
 unfold KV at r
 induction r with
 | nil=>rfl
 | cons h t ih=>rw [gT,gT,ih,h.1]
theorem KV.repl {kvs:List (κ × V)}{vs:List (κ × aj)}(r:KV kvs vs)(k:κ){y:V}{u:aj}(ry:zv y u) :
  KV (kvs.map fun kv=>if kv.1=k then (kv.1,y) else kv) (vs.map fun kv=>if kv.1=k then (kv.1,u) else kv):=by
 unfold KV at r ⊢
 induction r with
 | nil=>exact .nil
 | @cons p q ps qs h t ih=>
  rw [aY,aY]
  refine .cons ?_ ih
  obtain ⟨h1,h2⟩:=h
  by_cases e:p.1=k
  ·rw [if_pos e,if_pos (h1.symm.trans e)];exact ⟨h1,ry⟩
  ·rw [if_neg e,if_neg (fun z=>e (h1.trans z))];exact ⟨h1,h2⟩
variable {kvs:List (κ × V)} {vs:List (κ × aj)}
theorem KV.put (r:KV kvs vs)(k:κ){y:V}{u:aj}(ry:zv y u):KV (xJ kvs k y) (stored vs k u):=by
 unfold xJ stored
 rw [r.any k]
 by_cases e:(vs.any fun kv=>decide (kv.1=k))=true
 ·rw [if_pos e,if_pos e];exact r.repl k ry
 ·rw [if_neg e,if_neg e];exact gi.snoc r ⟨rfl,ry⟩
theorem KV.length (r:KV kvs vs):kvs.length=vs.length:=gi.length r
end
theorem YD {P:aX}{w:bB}{k:Key}{u:aj}(r:zv (kV k) u):(qc P w).is k u=true:=by
 cases k with
 | inl i=>obtain ⟨t,e⟩:=(show ∃ t,u=aj.int i t from r);subst e;exact Jv P w i t
 | inr x=>obtain ⟨t,e⟩:=(show ∃ t,u=aj.str x t from r);subst e;exact Jk P w x t
theorem yI {P:aX}{w:bB}:∀ {ks:List Key} {us:List aj},zw (ks.map kV) us->ItemsAre (qc P w) ks us
 | [],_,r=>by rw [nO] at r;cases r;exact .nil
 | k :: ks,_,r=>by
  rw [aY] at r
  cases r with
  | cons h t=>exact .cons (YD h) (yI t)
noncomputable abbrev KT (H:Hp):List (List Key × V)->List (List Key × aw × aj)->Prop:=gi fun p q=>p.1=q.1/\H q.2.1=some (.tup (p.1.map kV))/\zv p.2 q.2.2
theorem KT.val {H:Hp}{kvs:List (List Key × V)}{xs:List (List Key × aw × aj)}(r:KT H kvs xs)(k:List Key):j8 (kQ kvs k) ((nR xs k).map (·.2)):=by
 induction r with
 | nil=>exact True.intro
 | @cons p q ps qs h t ih=>
  obtain ⟨h1,_,h2⟩:=h
  by_cases e:p.1=k
  ·have e':q.1=k:=h1.symm.trans e
   have b:nR (q :: qs) k=some q.2:=by simp [nR,dB,e']
   rw [yd e,b];exact h2
  ·have e':¬ q.1=k:=fun z=>e (h1.trans z)
   have b:nR (q :: qs) k=nR qs k:=by simp [nR,dB,e']
   rw [yl e,b];exact ih
theorem KT.repl {H:Hp}{kvs:List (List Key × V)}{xs:List (List Key × aw × aj)}(r:KT H kvs xs)(k:List Key){y:V}{u:aj}(ry:zv y u) :
  KT H (kvs.map fun kv=>if kv.1=k then (kv.1,y) else kv) (xs.map (putAt k u)):=by
 induction r with
 | nil=>exact .nil
 | @cons p q ps qs h t ih=>
  rw [aY,aY]
  refine .cons ?_ ih
  obtain ⟨h1,h2,h3⟩:=h
  unfold putAt
  by_cases e:p.1=k
  ·rw [if_pos e,if_pos (h1.symm.trans e)];exact ⟨h1,h2,ry⟩
  ·rw [if_neg e,if_neg (fun z=>e (h1.trans z))];exact ⟨h1,h2,h3⟩
variable {H:Hp} {kvs:List (List Key × V)} {xs:List (List Key × aw × aj)} {b:aw} {y:V}
theorem KT.put (r:KT H kvs xs)(k:List Key) {u:aj}(hb:H b=some (.tup (k.map kV)))(ry:zv y u) :
  KT H (xJ kvs k y) (storedH xs k b u):=by
 have e:(kvs.any fun kv=>decide (kv.1=k))=(nR xs k).isSome:=by
  rw [Jz,(r.val k).isSome_eq,Option.isSome_map]
 unfold xJ storedH
 rw [e]
 by_cases q:(nR xs k).isSome=true
 ·rw [if_pos q,if_pos q];exact r.repl k ry
 ·rw [if_neg q,if_neg q];exact gi.snoc r ⟨rfl,hb,ry⟩
variable {H':Hp}
theorem KT.keeps (r:KT H kvs xs)(ht:∀ b ys,H b=some (.tup ys)->H' b=some (.tup ys)):KT H' kvs xs:=
 gi.mapP r fun _ _ z=>⟨z.1,ht _ _ z.2.1,z.2.2⟩
section
variable {P:aX}{w:bB}{H:Hp}{h:Heap}{a:aw}
theorem GY {u:HO}(ok:HOk P w H h)(e:Rd H a u):zM P w H h a u:=e.ok ok
theorem Bk {kvs:List (Key × V)}(ok:HOk P w H h)(e:Rd H a (.dK kvs)):kvs.length<=aM/\(a == d7)=false/\∃ vs,KV kvs vs/\h.DictOf (qc P w) a vs:=
 show zM P w H h a (.dK kvs) from GY ok e
theorem ME {kvs:List (Key × V)}(ok:HOk P w H h)(e:H a=some (.dK kvs)):kvs.length<=aM/\(a == d7)=false/\∃ vs,KV kvs vs/\h.DictOf (qc P w) a vs:=Bk ok (.inl e)
theorem ZQ {ks:List Key}(ok:HOk P w H h)(e:H a=some (.tup (ks.map kV))):(ii (qc P w)).is h ks a:=by
 obtain ⟨_,its,r,o,h1,h2,⟨n,h3⟩,_⟩:=(show zM P w H h a (.tup (ks.map kV)) from ok a _ e)
 exact ⟨o,its.toArray,n,h1,h2,h3,by simpa using yI r⟩
theorem Dw (ok:HOk P w H h)(e:Rd H a (.dT kvs)):kvs.length<=aM/\(a == d7)=false /\
  ∃ xs,KT H kvs xs/\h.DictOfH (ii (qc P w)) a xs:=by
 obtain ⟨z,y,xs,r,o,es,ep,h1,h2,h3,h4,h5⟩:=(show zM P w H h a (.dT kvs) from GY ok e)
 refine ⟨z,y,xs,r,o,es,ep,h1,h2,h3,h4,fun x hx=>?_,h5⟩
 have all:∀ {l:List (List Key × V)} {m:List (List Key × aw × aj)},KT H l m->∀ x ∈ m,(ii (qc P w)).is h x.1 x.2.1:=by
  intro l m q
  induction q with
  | nil=>intro x hx;exact nomatch hx
  | @cons p q ps qs hq t ih=>
   intro x hx
   rcases aE.mp hx with e | hx
   ·subst e
    exact ZQ ok (by rw [<- hq.1];exact hq.2.1)
   ·exact ih x hx
 exact all r x hx
theorem D1 (ok:HOk P w H h)(e:H a=some (.dT kvs)):kvs.length<=aM/\(a == d7)=false /\
  ∃ xs,KT H kvs xs/\h.DictOfH (ii (qc P w)) a xs:=Dw ok (.inl e)
end
def VA (H:Hp)(a:aw)(y:V)(r:Option V):Prop:=
 (∃ kvs k,Rd H a (.dK kvs)/\y=kV k/\r=kQ kvs k) \/ ∃ kvs k b,Rd H a (.dT kvs)/\y=.ref b/\H b=some (.tup (k.map kV))/\r=kQ kvs k
def DM (H:Hp)(a:aw)(y v:V)(H':Hp):Prop:=
 (∃ kvs k,H a=some (.dK kvs)/\y=kV k/\kvs.length<aM/\H'=upd H a (.dK (xJ kvs k v))) \/
 ∃ kvs k b,H a=some (.dT kvs)/\y=.ref b/\H b=some (.tup (k.map kV))/\kvs.length<aM/\H'=upd H a (.dT (xJ kvs k v))
variable {a:aw} {k:List Key}
theorem VA.t (e:H a=some (.dT kvs))(eb:H b=some (.tup (k.map kV))):VA H a (.ref b) (kQ kvs k):=.inr ⟨kvs,k,b,.inl e,rfl,eb,rfl⟩
theorem DM.t {v:V}(e:H a=some (.dT kvs))(eb:H b=some (.tup (k.map kV)))(hl:kvs.length<aM) :
  DM H a (.ref b) v (upd H a (.dT (xJ kvs k v))):=.inr ⟨kvs,k,b,e,rfl,eb,hl,rfl⟩
section
variable {X:Cx}{pins:List (aw × Obj)}{σ:St}{H:Hp}{s:au}{a:aw}{y v:V}{u r:aj}{o:Option V}{A:bj}{E:aj->au->Prop}
theorem Inv.big (I:Inv X pins σ H s):d7<s.heap.objs.size:=by
 have h:bq<s.heap.objs.size:=(I.mod.glob.keeps I.bk).lt
 exact Nat.lt_trans (by decide) h
theorem Vs {Q:aj->au->Prop}(hu:A.units+1<fW)(I:Inv X pins σ H s)(g:VA H a y (some v))(ry:zv y u)(h:∀ w' s',Inv X pins σ H s'->zv v w'->Q w' s') :
  aK (aL X.prog X.w) A (fZ (.ref a) u) Q E s:=by
 rcases g with ⟨kvs,k,e,ey,l⟩ | ⟨kvs,k,b,e,ey,eb,l⟩
 ·subst ey
  obtain ⟨z,hd,vs,rel,dd⟩:=Bk I.hok e
  obtain ⟨w',hw,rw'⟩:=j8.some_of (v:=v) (o:=mU vs k) (by rw [l];exact rel.val k)
  exact wpAny_getItem_of (YD ry) dd.mapOf hw (h w' _ (I.tok _) rw')
 ·subst ey
  cases (show u=aj.ref b from ry)
  obtain ⟨z,hd,xs,rel,dd⟩:=Dw I.hok e
  obtain ⟨w',hw,rw'⟩:=j8.some_of (v:=v) (o:=(nR xs k).map (·.2)) (by rw [l];exact rel.val k)
  obtain ⟨p,hp,hp2⟩:=bM.mp hw
  refine wpAny_getItem_heap (iC hu) (ZQ I.hok eb) dd hp ?_
  rw [hp2]
  exact h w' _ (I.tok _) rw'
variable {h':Heap}
theorem ZY {t':Nat}{ob:HO}(I:Inv X pins σ H s)(mu:Mut (H a))(hs:cR a s.heap h')(he:∃ q,h'.get? a=some q)(new:zM X.prog X.w (upd H a ob) h' a ob) :
  Inv X pins σ (upd H a ob) { s with heap:=h',toks:=t' }:=
 I.write (x:=a) (e:=a) mu (.inl rfl) (fun b q hb z=>(hs.2 b hb).trans z) he new
theorem Iv {P:aX}{w:bB} {kvs:List (Key × V)}{vs:List (Key × aj)}(z:kvs.length<=aM)(hd:(a == d7)=false)(rel:KV kvs vs)(dd:h'.DictOf (qc P w) a vs) :
  zM P w H' h' a (.dK kvs):=⟨z,hd,vs,rel,dd⟩
theorem Vq {Q:Unit->au->Prop}(hu:A.units+1<fW)(I:Inv X pins σ H s)(g:DM H a y v H')(ry:zv y u)(rv:zv v r)(h:∀ s',Inv X pins σ H' s'->Q () s') :
  aK (aL X.prog X.w) A (setItem (.ref a) u r) Q E s:=by
 rcases g with ⟨kvs,k,e,ey,l,eH⟩ | ⟨kvs,k,b,e,ey,eb,l,eH⟩
 ·subst ey eH
  obtain ⟨z,hd,vs,rel,dd⟩:=ME I.hok e
  have hz:vs.length<=aM:=by rw [<- rel.length];exact z
  have hl:(xJ kvs k v).length<=aM:=by have:=xf kvs k v;omega
  refine wpAny_setItem_pairs (hsz:=hz) (YD ry) dd fun h' dd' hs=>h _ ?_
  have he:∃ q,h'.get? a=some q:=let ⟨q,_,_,hq,_⟩:=dd';⟨q,hq⟩
  exact ZY I (by rw [e];exact True.intro) hs he (Iv hl hd (rel.put k rv) dd')
 ·subst ey eH
  cases (show u=aj.ref b from ry)
  obtain ⟨z,hd,xs,rel,dd⟩:=D1 I.hok e
  have hz:xs.length<=aM:=by rw [<- gi.length rel];exact z
  have hl:(xJ kvs k v).length<=aM:=by have:=xf kvs k v;omega
  refine wpAny_setItem_heap (hsz:=hz) (iC hu) (ZQ I.hok eb) dd fun h' dd' hs=>h _ ?_
  obtain ⟨q,es,ep,hq,h2,h3,h4,_,h5⟩:=dd'
  refine ZY I (by rw [e];exact True.intro) hs ⟨q,hq⟩ ⟨hl,hd,_,(rel.put k eb rv).keeps fun c ys ec=>?_,q,es,ep,hq,h2,h3,h4,h5⟩
  rw [zg (wW ec e (fun z=>nomatch z))]
  exact ec
end
section
variable {X:Cx}{pins:List (aw × Obj)}{σ:St}{H:Hp}{s:au}{a:aw}{kvs:List (Key × V)}{k:Key}{u:aj}{A:bj}{E:aj->au->Prop}
end
def Ih (i:Expr):Prop:=∀ ov iv,mJ i false ov iv=operate [ov,iv] (fZ ov iv)
variable {w:bB} {s:au}
theorem Ya {prog:aX} {E:aj->au->Prop} {env:Env}{value slice:Expr}{pos:Pos}{T id:String}{Q:aj->au->Prop}
  (hl:typeLookup (.type T) "__getitem__"=pure (some (.builtin id))) (hs:Ih slice)
  (h:aK (aL prog w) A (eval value env) (fun o s₁=>aK (aL prog w) A (eval slice env) (fun i s₂=>s₂.TypeIs o T/\aK (aL prog w) A (fZ o i) Q E s₂) E s₁) E s) :
  aK (aL prog w) A (eval (.Subscript value slice pos) env) Q E s:=by
 refine lR (aO h (fun o s₁ h₁=>aO h₁ (fun i s₂ h₂=>?_) fun _ _ x=>x) fun _ _ x=>x)
 obtain ⟨hT,h₂⟩:=h₂
 unfold fX
 refine am ?_
 rw [getitemInPython_of_ne hT.not_modules]
 refine am (wpAny_specialOf hT hl ?_)
 have fin:aK (aL prog w) A (mJ slice false o i) (fun r s₃=>aK (aL prog w) A (letTemporaryGo value o r >>= fun _=>pure r) Q E s₃) E s₂:=by
  rw [hs o i]
  exact wpAny_operating (aO h₂ (fun r s₃ h₃=>am (wpAny_letTemporaryGo (aA h₃))) fun _ _ x=>x)
 first
  | exact aA (am fin)
  | exact am (aA (am fin))
  | exact am fin
theorem QO {pins:List (aw × Obj)}{σ:St} {o:Option V}(I:Inv X pins σ H s)(g:VA H a y o):s.TypeIs (.ref a) "dict":=by
 rcases g with ⟨kvs,k,e,_,_⟩ | ⟨kvs,k,b,e,_,_,_⟩
 ·obtain ⟨_,_,vs,_,dd⟩:=Bk I.hok e
  exact dd.typeIs
 ·obtain ⟨_,_,xs,_,dd⟩:=Dw I.hok e
  exact dd.typeIs
noncomputable def Bm (td ty:TE):TE:=fun σ H Q=>td σ H fun x H1=>ty σ H1 fun y H2=>∃ a v,x=.ref a/\VA H2 a y (some v)/\Q v H2
noncomputable def AX (td ty tv:TE):TS:=fun D σ H=>tv σ H fun v H1=>td σ H1 fun x H2=>ty σ H2 fun y H3=>∃ a H4,x=.ref a/\DM H3 a y v H4/\D.nx σ H4
section
variable {X:Cx}{o i e value:Expr}{pos pos' tpos:Pos}{td ty tv:TE}
theorem kL (hu:X.A.units+1<fW)(ho:PE X o td)(hi:PE X i ty)(hs:Ih i):PE X (.Subscript o i pos) (Bm td ty):=by
 intro pins s σ H Q I h
 refine Ya iM.lookup hs (thn (ho pins s σ H _ I h) fun u s1 ⟨x,H1,I1,rx,q1⟩=>thn (hi pins s1 σ H1 _ I1 q1) fun iv s2 ⟨y,H2,I2,ry,a,v,ex,g,q2⟩=>?_)
 subst ex
 obtain rfl:u=aj.ref a:=rx
 exact ⟨QO I2 g,Vs hu I2 g ry fun w' s3 I3 rw'=>⟨v,H2,I3,rw',q2⟩⟩
theorem YQ (hu:X.A.units+1<fW)(ho:PE X o td)(hi:PE X i ty)(hv:PE X value tv)(hs:ik value (some (.Subscript o i pos')) pos.line X.env=pure false) :
  PS X (.Assign [.Subscript o i pos'] value pos) (AX td ty tv):=by
 intro pins s σ H D I h
 refine wpAny_Assign_Subscript (thn (hv pins s σ H _ I h) fun r s1 ⟨v,H1,I1,rv,q1⟩=>thn (ho pins s1 σ H1 _ I1 q1) fun u s2 ⟨x,H2,I2,rx,q2⟩=>thn (hi pins s2 σ H2 _ I2 q2) fun iv s3 ⟨y,H3,I3,ry,a,H4,ex,g,q3⟩=>?_) hs
 subst ex
 obtain rfl:u=aj.ref a:=rx
 exact Vq hu I3 g ry rv fun s4 I4=>⟨σ,H4,I4,q3⟩
end
theorem WB {P:aX} (h:Heap)(hb:d7<h.objs.size):zM P w H (h.push { cls:=.type "dict",data:=.dict #[] }) h.objs.size (.dT []):=
 ⟨ci _,beq_eq_false_iff_ne.mpr (Ne.symm (br hb)),[],.nil,_,#[],0,aQ _ rfl,⟨rfl,rfl,rfl⟩,rfl,rfl,List.nodup_nil⟩
section
variable {X:Cx}{pos:Pos}
end
structure M1 (X:Cx)(o:Expr)(m:Str)(apos:Pos)(e:Expr)(cpos:Pos):Prop where
 base:eE o m X.env (eval o X.env)=eval o X.env
 few:((cG cpos (aW [e] X.env)).all (fun x=>!x.1) && (fV cpos (dU [] X.env)).all (fun x=>x.1.isSome)
  && decide (([e]:List Expr).length+([]:List iX).length+(if ([]:List iX).isEmpty then 0 else 1)<30))=true
 line:(apos.endLine == cpos.line)=true
 trees:cG cpos (aW [e] X.env)=[(false,eval e X.env)]
structure M2 (X:Cx)(o:Expr)(m:Str)(apos:Pos)(e f:Expr)(cpos:Pos):Prop where
 base:eE o m X.env (eval o X.env)=eval o X.env
 few:((cG cpos (aW [e,f] X.env)).all (fun x=>!x.1) && (fV cpos (dU [] X.env)).all (fun x=>x.1.isSome)
  && decide (([e,f]:List Expr).length+([]:List iX).length+(if ([]:List iX).isEmpty then 0 else 1)<30))=true
 line:(apos.endLine == cpos.line)=true
 trees:cG cpos (aW [e,f] X.env)=[(false,eval e X.env),(false,eval f X.env)]
section
variable {X:Cx}{pins:List (aw × Obj)}{σ:St}{H:Hp}{s:au}{a:aw}{y d:V}{u r:aj}{o:Option V}{A:bj}{E:aj->au->Prop}
end
section
variable {X:Cx}{o e f:Expr}{apos cpos:Pos}{td ty tx:TE}
end
section
variable {X:Cx}{pins:List (aw × Obj)}{σ:St}{H:Hp}{s:au}{a:aw}{kvs:List (Key × V)}{A:bj}{E:aj->au->Prop}
end
section
variable {X:Cx}{pins:List (aw × Obj)}{σ:St}{H:Hp}{s:au}{a:aw}{y:V}{u:aj}{A:bj}{E:aj->au->Prop}
end
section
variable {κ:Type}[DecidableEq κ]
end
end L2
set_option Elab.async false
set_option linter.all false
set_option maxRecDepth 100000
set_option maxHeartbeats 4000000
namespace L2
open PySem PySem.Spec PyProof.Rows
noncomputable def Jf (N:List Str)(ts:List Nat)(sc:Scope)(kind:Str->Option cr):Bool:=
 sc.kind == .function && sc.names.all (fun y=>y.2 != .cell && (y.2 != .local || sc.names.lookup y.1 == some .local) && (y.2 != .free || kind y.1 == some .cell || kind y.1 == some .free)) &&
  N.zipIdx.all (fun p=>sc.names.lookup p.1 != some .local || ts.contains p.2)
noncomputable def qZ (cells:List (Str × aw)):List (Str × cr)->List (Str × aw)->List (Str × aw)
 | [],acc=>acc
 | (n,k) :: r,acc=>qZ cells r (if k=.free then (n,(cells.lookup n).getD 0) :: acc else acc)
theorem ZN {env:Env}:∀ (names:List (Str × cr)) (acc:List (Str × aw)),(∀ y ∈ names,y.2=.free->∃ c,env.cells.lookup y.1=some c) ->
  (forIn names acc fun (x:Str × cr) (cs:List (Str × aw))=>(match x with | (name,kind)=>if (kind == cr.free)=true then (do let c <- cellOf env name;pure (dQ ((name,c) :: cs))) else pure (dQ cs):Sem (ForInStep (List (Str × aw)))))=pure (qZ env.cells names acc)
 | [],acc,_=>rfl
 | (n,k) :: r,acc,h=>by
  rw [gg]
  by_cases hk:k=.free
  ·subst hk
   obtain ⟨c,hc⟩:=h (n,.free) ck rfl
   have e1:cellOf env n=pure c:=by unfold cellOf;rw [hc]
   simp only [beq_self_eq_true,if_true,e1,pure_bind]
   rw [ZN r _ fun y hy=>h y (bD _ hy)]
   show _=pure (qZ env.cells r (if cr.free=.free then _ else _))
   rw [if_pos rfl,hc];rfl
  ·have hb:(k == cr.free)=false:=by simpa using hk
   simp only [hb,nA,if_false,pure_bind]
   rw [ZN r _ fun y hy=>h y (bD _ hy)]
   show _=pure (qZ env.cells r (if k=.free then _ else _))
   rw [if_neg hk]
theorem yB {cells : List (Str × aw)} : ∀ (names : List (Str × cr)) (acc : List (Str × aw)), (∀ y ∈ names, y.2 = .free -> ∃ c, cells.lookup y.1 = some c) -> (∀ x c, acc.lookup x = some c -> cells.lookup x = some c) ->
    (∀ x c,(qZ cells names acc).lookup x=some c->cells.lookup x=some c)/\(∀ x c,acc.lookup x=some c->∃ c',(qZ cells names acc).lookup x=some c')/\∀ y ∈ names,y.2=.free->∃ c,(qZ cells names acc).lookup y.1=some c
  | [],acc,_,h2=>⟨h2,fun x c e=>⟨c,e⟩,fun y hy=>nomatch hy⟩
  | (n,k) :: r,acc,h1,h2=>by
    by_cases hk:k=.free
    · subst hk
      obtain ⟨c,hc⟩:=h1 (n,.free) ck rfl
      have hc:cells.lookup n=some c:=hc
      have e:qZ cells ((n,.free) :: r) acc=qZ cells r ((n,c) :: acc):=by
        show qZ cells r (if cr.free=.free then _ else _)=_
        rw [if_pos rfl,hc];rfl
      rw [e]
      obtain ⟨q1,q2,q3⟩:=yB (cells:=cells) r ((n,c) :: acc) (fun y hy=>h1 y (bD _ hy)) (fun x c' e'=>by
        rw [cS] at e'
        cases hx:x == n with
        | true => rw [hx] at e'; have : x = n := by simpa using hx
                  subst this;cases e';exact hc
        | false=>rw [hx] at e';exact h2 x c' e')
      refine ⟨q1,fun x c' e'=>?_,fun y hy hf=>?_⟩
      · cases hx:x == n with
        | true=>exact q2 x c (by rw [cS,hx])
        | false=>exact q2 x c' (by rw [cS,hx];exact e')
      · rcases aE.mp hy with rfl | hy
        · exact q2 n c (by rw [cS,beq_self_eq_true])
        · exact q3 y hy hf
    · have e : qZ cells ((n, k) :: r) acc = qZ cells r acc := by
        show qZ cells r (if k=.free then _ else _)=_
        rw [if_neg hk]
      rw [e]
      obtain ⟨q1,q2,q3⟩:=yB (cells:=cells) r acc (fun y hy=>h1 y (bD _ hy)) h2
      refine ⟨q1,q2,fun y hy hf=>?_⟩
      rcases aE.mp hy with rfl | hy
      · exact absurd hf hk
      · exact q3 y hy hf
variable {scope:Scope}
theorem vO {env:Env}(h:∀ y ∈ scope.names,y.2=.free->∃ c,env.cells.lookup y.1=some c) :
  ∃ cl,closureFor scope env=pure cl/\(∀ x c,cl.lookup x=some c->env.cells.lookup x=some c)/\∀ y ∈ scope.names,y.2=.free->∃ c,cl.lookup y.1=some c:=by
 obtain ⟨q1,_,q3⟩:=yB (cells:=env.cells) scope.names [] h (fun x c e=>nomatch e)
 refine ⟨qZ env.cells scope.names [],?_,q1,q3⟩
 unfold closureFor
 have:=ZN (env:=env) scope.names [] h
 first
  | exact this
  | (simp only [bind_pure];exact this)
  | (refine Eq.trans ?_ this;simp)
theorem yi {env:Env}:∀ {names:List (Str × cr)} {x:Str},(names.map fun (n,k)=>if (k == cr.free && env.scope.kind == .function && env.kindOf n == some .cell) then (n,cr.cell) else (n,k)).lookup x =
  (names.lookup x).map fun k=>if (k == cr.free && env.scope.kind == .function && env.kindOf x == some .cell) then cr.cell else k
 | [],_=>rfl
 | (n,k) :: r,x=>by
  have ih:=@yi env r x
  rw [aY]
  cases hx:x == n with
  | true=>
   have e:x=n:=by simpa using hx
   subst e
   rw [cS (as:=r),beq_self_eq_true]
   show dv x ((if (k == cr.free && env.scope.kind == .function && env.kindOf x == some .cell)=true then (x,cr.cell) else (x,k)) :: _)=some _
   by_cases hc:(k == cr.free && env.scope.kind == .function && env.kindOf x == some .cell)=true
   ·rw [if_pos hc,cS,beq_self_eq_true];dsimp only;rw [if_pos hc]
   ·rw [if_neg hc,cS,beq_self_eq_true];dsimp only;rw [if_neg hc]
  | false=>
   rw [cS (as:=r),hx]
   show dv x ((if (k == cr.free && env.scope.kind == .function && env.kindOf n == some .cell)=true then (n,cr.cell) else (n,k)) :: _)=_
   by_cases hc:(k == cr.free && env.scope.kind == .function && env.kindOf n == some .cell)=true
   ·rw [if_pos hc,cS,hx];exact ih
   ·rw [if_neg hc,cS,hx];exact ih
noncomputable abbrev cxC (X:Cx)(scope:Scope)(cl:List (Str × aw))(s:au)(H:Hp)(fp:List aw):Cx:=
 { X with s₀:=s,H₀:=H,env:=compEnvC scope cl s.heap.objs.size X.env,outer:=X.stack,ex:=fp,fn:=fun _=>false,pn:=[],xe:=fun _ _=>False }
noncomputable def clr:List Nat->St->St
 | [],σ=>σ
 | j :: r,σ=>clr r (σ.set j none)
theorem Xz:∀ (ts:List Nat) (σ:St),(clr ts σ).length=σ.length
 | [],_=>rfl
 | j :: r,σ=>by show (clr r (σ.set j none)).length=_;rw [Xz r];simp
theorem Ju:∀ (ts:List Nat) (σ:St) (i:Nat) (v:V),(clr ts σ)[i]?=some (some v)->i ∉ ts/\σ[i]?=some (some v)
 | [],_,_,_,h=>⟨by simp,h⟩
 | j :: r,σ,i,v,h=>by
  obtain ⟨h1,h2⟩:=Ju r (σ.set j none) i v h
  by_cases e:j=i
  ·subst e
   rw [eD] at h2
   simp at h2
  ·rw [cL e] at h2
   exact ⟨by simp [h1,Ne.symm e],h2⟩
structure ScF (X:Cx)(ts:List Nat)(scope:Scope):Prop where
 kind:scope.kind=.function
 cell:∀ y ∈ scope.names,y.2 ≠ .cell
 loc:∀ y ∈ scope.names,y.2=.local->scope.names.lookup y.1=some .local
 free:∀ y ∈ scope.names,y.2=.free->X.env.kindOf y.1=some .cell \/ X.env.kindOf y.1=some .free
 ts:∀ (i:Nat) x,X.N[i]?=some x->scope.names.lookup x=some .local->i ∈ ts
variable {X:Cx} {ts:List Nat}
theorem A7 (h:Jf X.N ts scope X.env.kindOf=true):ScF X ts scope:=by
  unfold Jf at h
  simp only [b7,fJ,bne_iff_ne,ne_eq,Bool.or_eq_true,beq_iff_eq] at h
  obtain ⟨⟨h1,h2⟩,h3⟩:=h
  refine ⟨h1,fun y hy=>(h2 y hy).1.1,fun y hy e=>?_,fun y hy e=>?_,fun i x e1 e2=>?_⟩
  · rcases (h2 y hy).1.2 with z | z
    · exact absurd e z
    · exact z
  · rcases (h2 y hy).2 with (z | z) | z
    · exact absurd e z
    · exact .inl z
    · exact .inr z
  · have hm : (x, i) ∈ X.N.zipIdx := by
      rw [List.mem_zipIdx_iff_getElem?];exact e1
    rcases h3 _ hm with z | z
    · exact absurd e2 z
    · simpa using z
section
variable {X:Cx}{ts:List Nat}{scope:Scope}{pins:List (aw × Obj)}{σ:St}{H:Hp}{s:au}{fp:List aw}
theorem wz (I:Inv X pins σ H s)(S:ScF X ts scope)(hf:∀ b ∈ fp,xK X pins H b)(hfl:∀ b ∈ fp,b<s.heap.objs.size){cl:List (Str × aw)}(c1:∀ x c,cl.lookup x=some c->X.env.cells.lookup x=some c)
  (c2:∀ y ∈ scope.names,y.2=.free->∃ c,cl.lookup y.1=some c) {h1:Heap} {t1:Nat} (hns:h1.Ns s.heap.objs.size (fun x=>([]:List (Str × aj)).reverse.lookup x))
  (hk:∀ b o,s.heap.get? b=some o->h1.get? b=some o):Inv (cxC X scope cl s H fp) [] (clr ts σ) H { s with heap:=h1,toks:=t1 }:=by
 have hlk:∀ x,(nS scope X.env).names.lookup x=(scope.names.lookup x).map fun k=>if (k == cr.free && X.env.scope.kind == .function && X.env.kindOf x == some .cell) then cr.cell else k:=fun x=>yi
 have cfree:∀ x,((nS scope X.env).names.lookup x=some .cell \/ (nS scope X.env).names.lookup x=some .free)->(x,cr.free) ∈ scope.names:=fun x hx=>by
  rw [hlk] at hx
  cases e:scope.names.lookup x with
  | none=>rw [e] at hx;rcases hx with hx | hx <;> cases hx
  | some k=>
   have hm:=mem_of_lookup_some e
   cases k with
   | free=>exact hm
   | cell=>exact absurd rfl (S.cell _ hm)
   | «local»=>rw [e] at hx;rcases hx with hx | hx <;> cases hx
   | globalExplicit=>rw [e] at hx;rcases hx with hx | hx <;> cases hx
   | globalImplicit=>rw [e] at hx;rcases hx with hx | hx <;> cases hx
 have ccell:∀ x c,cl.lookup x=some c->∃ v,s.heap.IsCell c v:=fun x c e=>I.cell x c (c1 x c e)
 have fpne:∀ b ∈ fp,b ∉ frs X.stack:=fun b hb z=>by
  obtain ⟨_,f1,f2,_⟩:=hf b hb
  rcases aE.mp (I.stkSub b z) with e | e
  ·exact f1 e
  ·exact f2 e
 refine ⟨⟨I.ok.mod,S.kind,I.ok.glob,I.ok.blt,aJ _,fun x y c e1 e2=>I.ok.inj x y c (c1 x c e1) (c1 y c e2),fun x hx=>c2 (x,.free) (cfree x hx) rfl,(fun x c hx=>nomatch hx),I.ok.hd,I.ok.frames,.inl rfl,fun b hb=>⟨br (hfl b hb),fun x c e=>(hf b hb).2.2.2.2.1 x c (c1 x c e)⟩,
  I.bs,aZ I.ok.bsz I.sz,fun b o e hb=>?_,fpne,I.stack,I.stkFree⟩,rfl,I.bare,Un.kept hk,⟨_,hns,fun i x v e1 e2 e3=>?_⟩,fun x c e=>?_,I.hok.fresh (aJ _),fun x c e=>I.freeC x c (c1 x c e),fun p hp=>absurd hp (by simp),I.hok.kept hk,by rw [Xz];exact I.len⟩
 ·rcases (hf b hb).2.2.2.1 with z | z
  ·exact I.ok.noex b o e z
  ·exact absurd (bw (aH e) (aZ I.ok.bsz z)) (cW _)
 ·obtain ⟨nt,e2⟩:=Ju ts σ i v e2
  have e3':(nS scope X.env).names.lookup x=some .local \/ (nS scope X.env).names.lookup x=some .cell \/ (nS scope X.env).names.lookup x=some .free:=e3
  rcases e3' with z | z
  ·rw [hlk] at z
   cases e:scope.names.lookup x with
   | none=>rw [e] at z;cases z
   | some k=>
    rw [e] at z
    have z':(if (k == cr.free && X.env.scope.kind == .function && X.env.kindOf x == some .cell)=true then cr.cell else k)=.local:=bC z
    split at z'
    ·cases z'
    ·subst z'
     exact absurd (S.ts i x e1 e) nt
  ·have hm:=cfree x z
   obtain ⟨c,hc⟩:=c2 _ hm rfl
   obtain ⟨m,hn,hl⟩:=I.loc
   have vis:Vis X.env.scope x:=by
    rcases S.free _ hm rfl with q | q
    ·exact .inr (.inl q)
    ·exact .inr (.inr q)
   obtain ⟨u,r,l⟩:=hl i x v e1 e2 vis
   refine ⟨u,r,.inr ⟨z,c,hc,?_⟩⟩
   rcases l with ⟨q,_⟩ | ⟨_,c',hc',hcell⟩
   ·rcases S.free _ hm rfl with q' | q'
    ·rw [q'] at q;cases q
    ·rw [q'] at q;cases q
   ·rw [c1 x c hc] at hc'
    cases hc'
    obtain ⟨o,ho,hd⟩:=hcell
    exact ⟨o,hk _ _ ho,hd⟩
 ·obtain ⟨v,o,ho,hd⟩:=ccell x c e
  exact ⟨v,o,hk _ _ ho,hd⟩
end
section
variable {prog:aX}{w:bB}{A:bj}{R:nu->au->Prop}{s:au}
theorem xL {elt target iter : Expr}{ifs : List Expr}{scope : Scope}{pos : Pos}{it acc : aj}{env : Env}(I : Nat -> au -> Prop)
    (turn:∀ n s,I n s->aK (aL prog w) A (lK it) (fun r s₁=>match r with
      | none=>R (.ok .next) s₁
      | some v => aK (aL prog w) A (f7 target it v) (fun _ s₀ => aK (aL prog w) A (iq target env v) (fun _ s₂ =>
          aK (aL prog w) A (forIn ifs true fun c r=>if r=true then do let ok <- isTrue c env (eval c env);pure (dQ ok) else pure (dQ r)) (fun ok s₃=>
            if ok=true then aK (aL prog w) A (eval elt env) (fun x s₄=>
              aK (aL prog w) A (call (.builtin "list.append") [acc,x]) (fun _ s₅=>∃ m,m<n/\I m s₅) (fun _ _=>False) s₄) (fun _ _=>False) s₃
            else ∃ m,m<n/\I m s₃) (fun _ _=>False) s₂) (fun _ _=>False) s₀) (fun _ _=>False) s₁) (fun _ _=>False) s)
    (n:Nat) (h:I n s) :
    dR (aL prog w) A (.compLoop (.ListComp elt [⟨target,iter,ifs,0⟩] scope pos) 0 it acc env) R s:=by
  refine codeAny_loop rfl I (fun n s hI=>?_) n h
  show aK _ A ((compTurn (.ListComp elt [⟨target,iter,ifs,0⟩] scope pos) 0 it acc env).onRaise (fun x=>do gL x env;theTreesLotGoes x)) _ _ s
  refine wpAny_noted ?_
  rw [compTurn_list]
  refine am (cz (am (aO (turn n s hI) (fun r s₁ h₁=>?_) fun _ _ h'=>h'.elim)))
  cases r with
  | none=>exact aA h₁
  | some v=>
    refine am (aO h₁ (fun _ s₀ h₀=>?_) fun _ _ h'=>h'.elim)
    refine am (aO h₀ (fun _ s₂ h₂=>am (aO h₂ (fun ok s₃ h₃=>?_) fun _ _ h'=>h'.elim)) fun _ _ h'=>h'.elim)
    cases ok with
    | false=>exact aA ⟨rfl,h₃⟩
    | true=>
      exact am (am (aO h₃ (fun x s₄ h₄=>am (aO h₄ (fun _ s₅ h₅=>aA (aA ⟨rfl,h₅⟩)) fun _ _ h'=>h'.elim)) fun _ _ h'=>h'.elim))
end
noncomputable def XF:TT:=fun _ H Q=>Q true H
def PIf (X:Cx)(ifs:List Expr)(t:TT):Prop:=
 ∀ (pins:List (aw × Obj)) (s:au) (σ:St) (H:Hp) (Q:Bool->Hp->Prop),Inv X pins σ H s->t σ H Q ->
  aK (aL X.prog X.w) X.A (forIn ifs true fun c r=>if r=true then do let ok <- isTrue c X.env (eval c X.env);pure (dQ ok) else pure (dQ r)) (TP X pins σ Q) X.xe s
theorem qg:PIf X [] XF:=fun _ _ _ H _ I h=>wpAny_tests_nil ⟨H,I,h⟩
noncomputable def Jx (ts:List Nat)(wi:TI)(g:TG)(tt:TT)(te:TE):TE:=fun σ H Q=>wi σ H fun J H1=>∀ D,H1 D=none->∃ W:Nat->Nat->St->Hp->Prop,(∃ m,W 0 m (clr ts σ) (upd H1 D (.lst [])))/\∀ i m τ H2,W i m τ H2 ->
 (J.stop i H2/\Q (.ref D) H2) \/ (J.go i H2/\∃ N:St->Hp->Prop,(∀ τ' H',N τ' H'->∃ m',m'<m/\W (i+1) m' τ' H')/\∀ x H',J.yld i H2 x H'->g x τ H' fun τ2 H3=>tt τ2 H3 fun b H4=>
  if b=true then te τ2 H4 fun v H5=>∃ ys,H5 D=some (.lst ys)/\ys.length<aM/\N τ2 (upd H5 D (.lst (ys ++ [v]))) else N τ2 H4)
section
variable {X:Cx}{ts:List Nat}{scope:Scope}{tg iter elt:Expr}{ifs:List Expr}{wi:TI}{g:TG}{tt:TT}{te:TE}{pos:Pos}
theorem Jh (hc:X.calm=true)(hsc:Jf X.N ts scope X.env.kindOf=true)(hi:PI X tg iter wi)(hg:∀ cl s H fp,PG (cxC X scope cl s H fp) tg g)(ht:∀ cl s H fp,PIf (cxC X scope cl s H fp) ifs tt)(he:∀ cl s H fp,PE (cxC X scope cl s H fp) elt te)
  {pins:List (aw × Obj)} {s:au} {σ:St} {H:Hp} {Q:VK} (I:Inv X pins σ H s) (h:Jx ts wi g tt te σ H Q) {use:Option (aj->Sem Unit)} {Q':aj->au->Prop}
  (fin:∀ (D C:aw) (H':Hp) (s':au),Inv X pins σ H' s'->(∃ m,s'.heap.Ns C m)->H' C=none->C ≠ X.env.locals->(∀ x c,X.env.cells.lookup x=some c->c ≠ C)->X.s₀.heap.objs.size<=C->(∀ p ∈ X.pn ++ pins,p.1 ≠ C)->C ∉ X.fs->Q (.ref D) H' ->
   compPost (aL X.prog X.w) X.A X.xe use Q' (.ref D) C (.ok .next) s')
  (hs:∀ x,cJ iter X.env x=pure x) :
  aK (aL X.prog X.w) X.A (i9 (.ListComp elt [⟨tg,iter,ifs,0⟩] scope pos) scope X.env (firstIterPos [⟨tg,iter,ifs,0⟩] pos) (newList []) false (eval iter X.env) use) Q' X.xe s:=by
 have S:=A7 hsc
 obtain ⟨cl,hcl,c1,c2⟩:=vO (scope:=scope) (env:=X.env) fun y hy e=>I.ok.has y.1 (S.free y hy e)
 refine kb (use:=use) rfl hs hcl S.kind S.loc ?_
 refine aO (hi pins s σ H _ I h) (fun v s1 h1=>aO h1 (fun itv s2 h2=>?_) fun _ _ e=>e) fun _ _ e=>e
 obtain ⟨it,fp,tn,J,H2,e,I2,T,st2,f2,q2⟩:=h2
 subst e
 have hD:H2 s2.heap.objs.size=none:=I2.hok.fresh (aJ _)
 obtain ⟨W,⟨m0,w0⟩,turn⟩:=q2 _ hD
 refine bI (wpAny_newFunctionEnv S.cell (by intro y hy;simp at hy) (fun h₁ hns₁ hsb₁=>?_) S.kind)
 dsimp only at hns₁ hsb₁ ⊢
 generalize hh3:s2.heap.push { cls:=.type "list",dict:=none,data:=.seq ([]:List aj).toArray }=g3 at hns₁ hsb₁ ⊢
 have I3:Inv X pins σ (upd H2 s2.heap.objs.size (.lst [])) { s2 with heap:=g3 }:=by
  rw [<- hh3]
  exact I2.laid (t':=s2.toks) (fun b u e=>ay _ e) (aJ _) ⟨ci _,[],_,.nil,aQ _ rfl⟩
 have st3:tn 0 g3:=T.keep _ _ _ st2 fun b _ o e=>by rw [<- hh3];exact ay _ e
 have lt2:∀ b ∈ fp,b<s2.heap.objs.size:=fun b hb=>by obtain ⟨o,e,_⟩:=T.obj _ _ st2 b hb;exact aH e
 have hsz3:g3.objs.size=s2.heap.objs.size+1:=by rw [<- hh3,dj]
 have f3:∀ b ∈ fp,xK X pins (upd H2 s2.heap.objs.size (.lst [])) b:=fun b hb=>⟨by rw [zg (br (lt2 b hb))];exact (f2 b hb).1,(f2 b hb).2⟩
 have lt3:∀ b ∈ fp,b<g3.objs.size:=fun b hb=>by rw [hsz3];exact i4 (lt2 b hb)
 have old:∀ b o,g3.get? b=some o->h₁.get? b=some o:=fun b o e=>hsb₁.extBut b o (br (aH e)) (ay _ e)
 have hns:h₁.Ns g3.objs.size (fun x=>([]:List (Str × aj)).reverse.lookup x):=hns₁
 have I4:∀ t,Inv (cxC X scope cl { s2 with heap:=g3 } (upd H2 s2.heap.objs.size (.lst [])) fp) [] (clr ts σ) (upd H2 s2.heap.objs.size (.lst [])) { s2 with heap:=h₁,toks:=t }:=fun t=>wz I3 S f3 lt3 c1 c2 hns old
 have fpne:∀ b ∈ fp,b ∉ frs X.stack:=fun b hb z=>by
  obtain ⟨_,f1,f2,_⟩:=f3 b hb
  rcases aE.mp (I3.stkSub b z) with e | e
  ·exact f1 e
  ·exact f2 e
 have stat:∀ {H':Hp},(∀ b ∈ fp,H' b=none)->∀ b ∈ fp,xK (cxC X scope cl { s2 with heap:=g3 } (upd H2 s2.heap.objs.size (.lst [])) fp) [] H' b:=fun hn b hb=>
  ⟨hn b hb,br (lt3 b hb),fpne b hb,.inl hb,fun x c e=>(f2 b hb).2.2.2.2.1 x c (c1 x c e),fun p hp=>absurd hp (by simp)⟩
 have loop:∀ t,dR (aL X.prog X.w) X.A (.compLoop (.ListComp elt [⟨tg,iter,ifs,0⟩] scope pos) 0 (.ref it) (.ref s2.heap.objs.size) (compEnvC scope cl g3.objs.size X.env))
   (compPost (aL X.prog X.w) X.A X.xe use Q' (.ref s2.heap.objs.size) g3.objs.size) { s2 with heap:=h₁,toks:=t }:=by
  intro t
  refine xL (fun n s'=>∃ i τ H',Inv (cxC X scope cl { s2 with heap:=g3 } (upd H2 s2.heap.objs.size (.lst [])) fp) [] τ H' s'/\tn i s'.heap/\(∀ b ∈ fp,H' b=none)/\W i n τ H') ?_ m0
   ⟨0,clr ts σ,_,I4 t,T.keep _ _ _ st3 fun b _ o e=>old b o e,fun b hb=>(f3 b hb).1,w0⟩
  rintro n s5 ⟨i,τ,H5,I5,st5,fr5,w5⟩
  rcases turn i n τ H5 w5 with ⟨stop,qn⟩ | ⟨go,N,hN,step⟩
  ·refine thn (T.done (cxC X scope cl { s2 with heap:=g3 } (upd H2 s2.heap.objs.size (.lst [])) fp) rfl rfl rfl hc i [] s5 τ H5 _ I5 (stat fr5) st5 stop) fun r s6 ⟨hr,I6⟩=>?_
   subst hr
   have base:Un (frs X.stack) fp (upd H2 s2.heap.objs.size (.lst [])) H5 g3 s6.heap:=I6.base
   have J6:Inv X pins σ H5 s6:=I3.call' (ch:=fp) I6.os base I6.hok I6.bare fun b hb=>⟨(f3 b hb).2.2.2.1,(f3 b hb).2.1,(f3 b hb).2.2.2.2.1,(f3 b hb).2.2.2.2.2⟩
   obtain ⟨m6,n6,_⟩:=I6.loc
   have hC:g3.get? g3.objs.size=none:=fu (aJ _)
   refine fin _ g3.objs.size H5 s6 J6 ⟨m6,n6⟩ I6.free (eA I3.lt) (fun x c e z=>?_) I3.sz (fun p hp z=>?_) (I3.nofs (aJ _)) qn
   ·obtain ⟨v,q⟩:=I3.cell x c e
    exact absurd q.lt (by rw [z];exact cW _)
   ·exact absurd (aH (I3.pin p hp).1) (by rw [z];exact cW _)
  ·refine thn (T.item (cxC X scope cl { s2 with heap:=g3 } (upd H2 s2.heap.objs.size (.lst [])) fp) rfl rfl rfl hc i [] s5 τ H5 _ I5 (stat fr5) st5 go) fun r s6 ⟨u,hr,h6⟩=>?_
   subst hr
   refine thn h6 fun _ s7 ⟨x,H7,I7,r7,y7,st7,fr7⟩=>?_
   have I7':=I7.pinned (stat fr7) (T.obj _ _ st7)
   refine thn (hg cl { s2 with heap:=g3 } _ fp _ s7 τ H7 x u _ I7' r7 (step x H7 y7)) fun _ s8 ⟨τ8,H8,I8,q8⟩=>?_
   refine thn (ht cl { s2 with heap:=g3 } _ fp _ s8 τ8 H8 _ I8 q8) fun b s9 ⟨H9,I9,q9⟩=>?_
   have again:∀ {τ9:St} {H9:Hp} {s9:au},Inv (cxC X scope cl { s2 with heap:=g3 } (upd H2 s2.heap.objs.size (.lst [])) fp) ([] ++ yJ fp s7.heap) τ9 H9 s9->N τ9 H9 ->
     ∃ m,m<n/\∃ i τ H',Inv (cxC X scope cl { s2 with heap:=g3 } (upd H2 s2.heap.objs.size (.lst [])) fp) [] τ H' s9/\tn i s9.heap/\(∀ b ∈ fp,H' b=none)/\W i m τ H':=fun {τ9 H9 s9} I9 n9=>by
    obtain ⟨m',hm,w9⟩:=hN _ _ n9
    refine ⟨m',hm,i+1,τ9,H9,I9.unpinned,T.keep _ _ _ st7 fun b hb o e=>(I9.pin (b,o) (bE _ (bE _ (jf hb e)))).1,fun b hb=>?_,w9⟩
    obtain ⟨o,e,d⟩:=T.obj _ _ st7 b hb
    exact (I9.pin (b,o) (bE _ (bE _ (jf hb e)))).2.1
   cases b with
   | false=>
    rw [if_neg bL] at q9 ⊢
    exact again I9 q9
   | true=>
    rw [if_pos rfl] at q9 ⊢
    refine thn (he cl { s2 with heap:=g3 } _ fp _ s9 τ8 H9 _ I9 q9) fun y s10 ⟨v,H10,I10,r10,ys,hys,hlen,n10⟩=>?_
    exact thn (Zc (X:=cxC X scope cl { s2 with heap:=g3 } (upd H2 s2.heap.objs.size (.lst [])) fp) _ s10 τ8 H10 (.ref s2.heap.objs.size) [v] (.ref s2.heap.objs.size) [y] (fun _ H11=>N τ8 H11) I10 rfl (.cons r10 .nil) ⟨_,ys,v,rfl,rfl,hys,hlen,n10⟩) fun _ s11 ⟨_,H11,I11,_,n11⟩=>again I11 n11
 have LW:=loop (s2.toks+([]:List (Str × aj)).length)
 exact codeAny_compStart_list LW (T.self _ 0 _ _ _ (T.keep _ _ _ st3 fun b _ o e=>old b o e) LW)
end
section
variable {X:Cx}{ts:List Nat}{scope:Scope}{tg iter elt:Expr}{ifs:List Expr}{wi:TI}{g:TG}{tt:TT}{te:TE}{pos:Pos}
theorem qR (hc:X.calm=true)(hsc:Jf X.N ts scope X.env.kindOf=true)(hi:PI X tg iter wi)(hg:∀ cl s H fp,PG (cxC X scope cl s H fp) tg g)(ht:∀ cl s H fp,PIf (cxC X scope cl s H fp) ifs tt)(he:∀ cl s H fp,PE (cxC X scope cl s H fp) elt te)
  (hs:∀ x,cJ iter X.env x=pure x:=by intro _;rfl):PE X (.ListComp elt [⟨tg,iter,ifs,0⟩] scope pos) (Jx ts wi g tt te):=by
 intro pins s σ H Q I h
 rw [eval_ListComp]
 refine Jh hc hsc hi hg ht he I h (use:=none) (fun D C H' s' I' ⟨m,hn⟩ hC hL hce hsz hp hfs q=>⟨m,hn,fun h' hs'=>?_⟩) hs
 exact ⟨.ref D,H',I'.turned (t':=s'.toks) (it:=C) (fun b o hb e=>(hs'.2 b hb).trans e) hC hL (.inr hsz) hce hp,rfl,q⟩
theorem vt {j:Nat}{y:Str}{py spos:Pos}(hc:X.calm=true)(hN:X.N.Nodup)(hj:X.N[j]?=some y)(hy:Loc X.env.scope y)(hsc:Jf X.N ts scope X.env.kindOf=true)(hi:PI X tg iter wi)(hg:∀ cl s H fp,PG (cxC X scope cl s H fp) tg g)(ht:∀ cl s H fp,PIf (cxC X scope cl s H fp) ifs tt)(he:∀ cl s H fp,PE (cxC X scope cl s H fp) elt te)
  (hsw:ik (.ListComp elt [⟨tg,iter,ifs,0⟩] scope pos) (some (.Name y py)) spos.line X.env=pure true:=by rfl)
  (hs:∀ x,cJ iter X.env x=pure x:=by intro _;rfl) (hf:X.fn y=true \/ X.env.scope.names.lookup y=some .local:=by first | exact .inl rfl | exact .inr rfl | assumption) :
  PS X (.Assign [.Name y py] (.ListComp elt [⟨tg,iter,ifs,0⟩] scope pos) spos) (ZE (Jx ts wi g tt te) (wj j)):=by
 intro pins s σ H D I h
 rw [exec_Assign_Name_used _ _ _ _ hsw]
 refine am (cz (am ?_))
 show aK _ _ (do let _ <- i9 (.ListComp elt [⟨tg,iter,ifs,0⟩] scope pos) scope X.env _ (newList []) false (eval iter X.env) (some (iq (.Name y py) X.env))) _ _ s
 refine am (aO (Jh hc hsc hi hg ht he I h (use:=some (iq (.Name y py) X.env)) (Q':=fun _ s'=>SP X pins D .next s') (fun D' C H' s' I' ⟨m,hn⟩ hC hL hce hsz hp hfs q=>?_) hs) (fun _ s' hq=>aA (aA hq)) fun _ _ e=>e)
 show aK _ _ (iq (.Name y py) X.env (.ref D')) _ _ _
 refine iT (yD (v:=.ref D') I' hN hj hy rfl (fun s2 I2 ⟨a,hsb,ha⟩=>?_) hf)
 have hCa:C ≠ a:=by
  rcases ha with rfl | ha
  ·exact hL
  ·exact Ne.symm (hce y a ha)
 refine ⟨m,hn.sameBut hsb hCa,fun h' hs'=>?_⟩
 exact ⟨_,H',I2.turned (t':=s2.toks) (it:=C) (fun b o hb e=>(hs'.2 b hb).trans e) hC hL (.inr hsz) hce hp,q⟩
end
noncomputable def Ite (K:ax)(a:aw):It:=
 ⟨fun i H=>∃ xs x,SqL K H a xs/\xs[i]?=some x,fun i H y H'=>∃ p x,H p=none/\y=.ref p/\(∀ xs,SqL K H a xs->xs[i]?=some x)/\H'=upd H p (.tup [.int i,x]),fun i H=>∃ xs,SqL K H a xs/\xs.length<=i⟩
variable {P:aX} {w:bB} {K:ax} {es:List Expr} {kt:Nat} {tp:Pos}
theorem Zn (a e it:aw)(hei:e ≠ it):Qv P w K (.Tuple es kt tp) (Ite K a) [e,it] e (fun i h=>(∃ old,IsEnum h e it (i:Nat) old)/\h.IsListIter it a i) where
 mem:=by simp
 obj:=fun i h st b hb=>by
  obtain ⟨⟨old,he⟩,⟨o,e1,c,d⟩⟩:=st
  rcases aE.mp hb with rfl | hb
  ·exact ⟨_,he,fun v z=>by have z':iU _=gq v:=z;cases z'⟩
  ·have e2:b=it:=by simpa using hb
   subst e2
   exact ⟨o,e1,fun v z=>by rw [d] at z;cases z⟩
 keep:=fun i h h' st k=>by
  obtain ⟨⟨old,he⟩,st⟩:=st
  exact ⟨⟨old,k e (by simp) _ he⟩,st.at fun o e=>k it (by simp) o e⟩
 item:=by
  intro X hP hw hK hc i pins s σ H E I hf st hg
  subst hP hw hK
  obtain ⟨⟨old,he⟩,st⟩:=st
  obtain ⟨xs,x,hq,hx⟩:=hg
  obtain ⟨its,rv,p,hz⟩:=I.list hq
  obtain ⟨u,hu,ru⟩:=rv.get hx
  have fe:=hf e (by simp)
  have fi:=hf it (by simp)
  refine wpAny_pyNext_enum_item he st p.isList (x:=u) (by simpa using hu) hei fun h1 heo hit1 ht1 hz1 hk1=>?_
  refine ⟨.ref s.heap.objs.size,rfl,iD heo fun h2 he2 hs2=>?_⟩
  replace hs2:cR e h1 h2:=hs2
  have elt:e<s.heap.objs.size:=aH he
  have hfr:H s.heap.objs.size=none:=I.hok.fresh (aJ _)
  have ht2:h2.get? s.heap.objs.size=some { cls:=.type "tuple",data:=.seq #[.int i s.toks,u] }:=(hs2.2 _ (eA elt)).trans ht1
  have kk:∀ b o,b ∉ [e,it]->s.heap.get? b=some o->h2.get? b=some o:=fun b o hc q=>by
   have n1:b ≠ e:=fun z=>hc (by simp [z])
   have n2:b ≠ it:=fun z=>hc (by simp [z])
   exact (hs2.2 b n1).trans (hk1 b o n1 n2 q)
  have nb:∀ c v,H c=some v->c ∉ [e,it]:=fun c v z hm=>by
   rcases aE.mp hm with z' | z'
   ·rw [z',fe.1] at z;cases z
   ·have e2:c=it:=by simpa using z'
    rw [e2,fi.1] at z;cases z
  have I2:Inv X pins σ (upd H s.heap.objs.size (.tup [.int i,x])) { s with heap:=h2,toks:=s.toks+1 }:=by
   refine I.step (g':=s.gens) (d':=s.drawn) (ch:=[e,it]) (fun b hb=>?_) (fun b o _ _ hc q _=>kk b o hc q) (fun b o _ _ hc q _=>⟨o.slots,kk b o hc q⟩) (fun b o _ q n=>by rw [zg (br (aH q))];exact n) (fun b o hc q=>⟨o,kk b o hc q⟩)
    (fun b xs q=>by rw [zg (zo q hfr)];exact q) (fun b o u q=>by rw [zg (zo q hfr)];exact q) (fun b ps q=>⟨#[],by rw [zg (zo q hfr),q];simp⟩) (fun m hm=>?_) (fun b v q=>?_) I.bare
   ·rcases aE.mp hb with z | hb
    ·rw [z];exact ⟨fe.2.2.2.1,fe.2.1,fe.2.2.2.2.1,fe.2.2.2.2.2⟩
    ·have e2:b=it:=by simpa using hb
     rw [e2];exact ⟨fi.2.2.2.1,fi.2.1,fi.2.2.2.2.1,fi.2.2.2.2.2⟩
   ·obtain ⟨o,es,ep,ho,r⟩:=hm
    exact ⟨o,es,ep,kk _ o (by simp [Ne.symm fe.2.1,Ne.symm fi.2.1]) ho,r⟩
   ·by_cases hb:b=s.heap.objs.size
    ·subst hb
     rw [zj] at q
     cases q
     exact ⟨by show 2<=aM;decide,[.int i s.toks,u],.cons ⟨_,rfl⟩ (.cons ru .nil),_,ht2,rfl,⟨_,rfl⟩,rfl⟩
    ·rw [zg hb] at q
     refine (I.hok b v q).stay (fun c o hc q'=>kk c o ?_ q') (fun c z=>by rw [zg (zo z hfr)];exact z) fun c xs z=>by rw [zg (zo z hfr)];exact z
     rcases hc with z | z
     ·rw [z];exact nb b v q
     ·exact nb c _ z
  refine ⟨.ref s.heap.objs.size,_,I2,rfl,⟨s.heap.objs.size,x,hfr,rfl,fun ys hy=>by rw [I.list_inj hy hq];exact hx,rfl⟩,⟨⟨_,by simpa using he2⟩,hit1.extBut hs2.extBut (Ne.symm hei)⟩,fun b hb=>?_⟩
  have hlt:b<s.heap.objs.size:=by
   rcases aE.mp hb with rfl | hb
   ·exact elt
   ·have e2:b=it:=by simpa using hb
    subst e2
    obtain ⟨o,e1,_⟩:=st
    exact aH e1
  rw [zg (br hlt)]
  exact (hf b hb).1
 done:=by
  intro X hP hw hK hc i pins s σ H E I hf st hg
  subst hP hw hK
  obtain ⟨⟨old,he⟩,st⟩:=st
  obtain ⟨xs,hq,hx⟩:=hg
  obtain ⟨its,rv,p,hz⟩:=I.list hq
  obtain ⟨f0,f1,f2,f3,f4,f5⟩:=hf it (by simp)
  have hl:=rv.length
  exact wpAny_pyNext_enum_end (I.ok.hd hc) he st p.isList (by simp;omega) fun h' eb=>⟨rfl,I.turned (t':=s.toks) (fun b o hb e=>eb b o hb e) f0 f1 f3 f4 f5⟩
 self:=fun _ _ _ _ _ st h=>by
  obtain ⟨⟨old,he⟩,_⟩:=st
  exact fk he h
section
variable {X:Cx}{pins:List (aw × Obj)}{σ:St}{H:Hp}{s:au}
variable {ch:List aw} {h2:Heap} {tk:Nat}
theorem Inv.yieldTup {T:aw}{xs:List V}{us:List aj}(I:Inv X pins σ H s)(hf:∀ b ∈ ch,xK X pins H b)(kk:∀ b o,b ∉ ch->s.heap.get? b=some o->h2.get? b=some o)(hT:s.heap.objs.size<=T)
  (ht2:h2.get? T=some { cls:=.type "tuple",data:=.seq us.toArray }) (rv:zw xs us) (hz:xs.length<=aM):Inv X pins σ (upd H T (.tup xs)) { s with heap:=h2,toks:=tk }:=by
 have hfr:H T=none:=I.hok.fresh hT
 have nb:∀ c v,H c=some v->c ∉ ch:=fun c v z hm=>by rw [(hf c hm).1] at z;cases z
 refine I.step (g':=s.gens) (d':=s.drawn) (ch:=ch) (fun b hb=>⟨(hf b hb).2.2.2.1,(hf b hb).2.1,(hf b hb).2.2.2.2.1,(hf b hb).2.2.2.2.2⟩) (fun b o _ _ hc q _=>kk b o hc q) (fun b o _ _ hc q _=>⟨o.slots,kk b o hc q⟩)
  (fun b o _ q n=>by rw [zg (br (bw (aH q) hT))];exact n) (fun b o hc q=>⟨o,kk b o hc q⟩)
  (fun b xs q=>by rw [zg (zo q hfr)];exact q) (fun b o u q=>by rw [zg (zo q hfr)];exact q) (fun b ps q=>⟨#[],by rw [zg (zo q hfr),q];simp⟩) (fun m hm=>?_) (fun b v q=>?_) I.bare
 ·obtain ⟨o,es,ep,ho,r⟩:=hm
  exact ⟨o,es,ep,kk _ o (fun z=>(hf _ z).2.1 rfl) ho,r⟩
 ·by_cases hb:b=T
  ·subst hb
   rw [zj] at q
   cases q
   exact ⟨hz,us,rv,_,ht2,rfl,⟨_,rfl⟩,rfl⟩
  ·rw [zg hb] at q
   refine (I.hok b v q).stay (fun c o hc q'=>kk c o ?_ q') (fun c z=>by rw [zg (zo z hfr)];exact z) fun c xs z=>by rw [zg (zo z hfr)];exact z
   rcases hc with z | z
   ·rw [z];exact nb b v q
   ·exact nb c _ z
theorem Inv.turnedL (I:Inv X pins σ H s)(hf:∀ b ∈ ch,xK X pins H b)(kk:∀ b o,b ∉ ch->s.heap.get? b=some o->h2.get? b=some o):Inv X pins σ H { s with heap:=h2,toks:=tk }:=by
 have nb:∀ c v,H c=some v->c ∉ ch:=fun c v z hm=>by rw [(hf c hm).1] at z;cases z
 refine I.step (g':=s.gens) (d':=s.drawn) (ch:=ch) (fun b hb=>⟨(hf b hb).2.2.2.1,(hf b hb).2.1,(hf b hb).2.2.2.2.1,(hf b hb).2.2.2.2.2⟩) (fun b o _ _ hc q _=>kk b o hc q) (fun b o _ _ hc q _=>⟨o.slots,kk b o hc q⟩)
  (fun b o _ q n=>n) (fun b o hc q=>⟨o,kk b o hc q⟩) (fun b xs q=>q) (fun b o u q=>q) (fun b ps q=>⟨#[],by rw [q];simp⟩) (fun m hm=>?_) (fun b v q=>?_) I.bare
 ·obtain ⟨o,es,ep,ho,r⟩:=hm
  exact ⟨o,es,ep,kk _ o (fun z=>(hf _ z).2.1 rfl) ho,r⟩
 ·refine (I.hok b v q).stay (fun c o hc q'=>kk c o ?_ q') (fun c z=>z) fun c xs z=>z
  rcases hc with z | z
  ·rw [z];exact nb b v q
  ·exact nb c _ z
end
noncomputable def Itz (K:ax)(a b:aw):It:=
 ⟨fun i H=>∃ xs ys x y,SqL K H a xs/\SqL K H b ys/\xs[i]?=some x/\ys[i]?=some y,fun i H z H'=>∃ p x y,H p=none/\z=.ref p/\(∀ xs,SqL K H a xs->xs[i]?=some x)/\(∀ ys,SqL K H b ys->ys[i]?=some y)/\H'=upd H p (.tup [x,y]),
  fun i H=>∃ xs ys,SqL K H a xs/\SqL K H b ys/\(xs.length<=i \/ ys.length<=i)⟩
theorem Wy (l1 l2 z TI TO i1 i2:aw)(D:ZipApart z TI TO i1 i2 l1 l2) :
  Qv P w K (.Tuple es kt tp) (Itz K l1 l2) [z,TI,TO,i1,i2] z (fun i h=>mr h z TI TO .none/\IsPair h TI (.ref i1) (.ref i2)/\(∃ a b,IsPair h TO a b)/\h.IsListIter i1 l1 i/\h.IsListIter i2 l2 i) where
 mem:=by simp
 obj:=fun i h st b hb=>by
  obtain ⟨hz,hTI,⟨a,c,hTO⟩,⟨o1,e1,c1,d1⟩,⟨o2,e2,c2,d2⟩⟩:=st
  simp only [aE,aT,or_false] at hb
  rcases hb with rfl | rfl | rfl | rfl | rfl
  ·exact ⟨_,hz,fun v q=>by have q':iU _=gq v:=q;cases q'⟩
  ·exact ⟨_,hTI,fun v q=>by have q':lE _ _=gq v:=q;cases q'⟩
  ·exact ⟨_,hTO,fun v q=>by have q':lE _ _=gq v:=q;cases q'⟩
  ·exact ⟨o1,e1,fun v q=>by rw [d1] at q;cases q⟩
  ·exact ⟨o2,e2,fun v q=>by rw [d2] at q;cases q⟩
 keep:=fun i h h' st k=>by
  obtain ⟨hz,hTI,⟨a,c,hTO⟩,h1,h2⟩:=st
  exact ⟨k _ (by simp) _ hz,k _ (by simp) _ hTI,⟨a,c,k _ (by simp) _ hTO⟩,h1.at fun o e=>k _ (by simp) o e,h2.at fun o e=>k _ (by simp) o e⟩
 item:=by
  intro X hP hw hK hc i pins s σ H E I hf st hg
  subst hP hw hK
  obtain ⟨hz,hTI,⟨a,c,hTO⟩,h1,h2⟩:=st
  obtain ⟨xs,ys,x,y,hq1,hq2,hx,hy⟩:=hg
  obtain ⟨its1,rv1,p1,hz1⟩:=I.list hq1
  obtain ⟨its2,rv2,p2,hz2⟩:=I.list hq2
  obtain ⟨u,hu,ru⟩:=rv1.get hx
  obtain ⟨v,hv,rvv⟩:=rv2.get hy
  refine wpAny_pyNext_zip_item D hz hTI hTO h1 h2 p1.isList p2.isList (x:=u) (y:=v) (by simpa using hu) (by simpa using hv) fun g1 b1 b2 b3 b4 b5 b6 hk=>?_
  refine ⟨.ref s.heap.objs.size,rfl,iO b1 fun g2 hz2' hs2=>?_⟩
  replace hs2:cR z g1 g2:=hs2
  have zlt:z<s.heap.objs.size:=aH hz
  have I2:Inv X pins σ (upd H s.heap.objs.size (.tup [x,y])) { s with heap:=g2,toks:=s.toks }:=by
   refine I.yieldTup (us:=[u,v]) hf (fun b o hb e=>?_) (aJ _) ((hs2.2 _ (eA zlt)).trans b5) (.cons ru (.cons rvv .nil)) (by show 2<=aM;decide)
   simp only [aE,aT,or_false,not_or] at hb
   exact (hs2.2 b hb.1).trans (hk b o hb.1 hb.2.2.1 hb.2.2.2.1 hb.2.2.2.2 e)
  refine ⟨.ref s.heap.objs.size,_,I2,rfl,⟨s.heap.objs.size,x,y,I.hok.fresh (aJ _),rfl,fun xs' h'=>by rw [I.list_inj h' hq1];exact hx,fun ys' h'=>by rw [I.list_inj h' hq2];exact hy,rfl⟩,
   ⟨hz2',(hs2.2 _ D.TIz).trans (hk _ _ D.TIz D.TITO D.TIi1 D.TIi2 hTI),⟨_,_,(hs2.2 _ D.TOz).trans b2⟩,b3.extBut hs2.extBut D.i1z,b4.extBut hs2.extBut D.i2z⟩,fun b hb=>?_⟩
  have hlt:b<s.heap.objs.size:=by
   simp only [aE,aT,or_false] at hb
   rcases hb with rfl | rfl | rfl | rfl | rfl
   ·exact zlt
   ·exact aH hTI
   ·exact aH hTO
   ·obtain ⟨o,e,_⟩:=h1;exact aH e
   ·obtain ⟨o,e,_⟩:=h2;exact aH e
  rw [zg (br hlt)]
  exact (hf b hb).1
 done:=by
  intro X hP hw hK hc i pins s σ H E I hf st hg
  subst hP hw hK
  obtain ⟨hz,hTI,⟨a,c,hTO⟩,h1,h2⟩:=st
  obtain ⟨xs,ys,hq1,hq2,hend⟩:=hg
  obtain ⟨its1,rv1,p1,hz1⟩:=I.list hq1
  obtain ⟨its2,rv2,p2,hz2⟩:=I.list hq2
  have l1:=rv1.length
  have l2:=rv2.length
  refine wpAny_pyNext_zip_end (I.ok.hd hc) D hz hTI hTO h1 h2 p1.isList p2.isList (by simp;omega) fun h' hk=>⟨rfl,I.turnedL (tk:=s.toks) hf fun b o hb e=>?_⟩
  simp only [aE,aT,or_false,not_or] at hb
  exact hk b o hb.1 hb.2.2.1 hb.2.2.2.1 hb.2.2.2.2 e
 self:=fun _ _ _ _ _ st h=>gM st.1 h
theorem ww:bK "enumerate"=some (.type "enumerate"):=by decide +kernel
theorem Zo:bK "zip"=some (.type "zip"):=by decide +kernel
section
variable {X:Cx}{es:List Expr}{kt:Nat}{tp:Pos}
noncomputable def GV (K:ax)(ta:TA):TI:=fun σ H R=>ta σ H fun vs H1=>∃ a,vs=[.ref a]/\(∃ xs,SqL K H1 a xs)/\R (Ite K a) H1
variable {ta:TA} {p pos:Pos}
theorem EJ {e:Expr} (hg:Gl X "enumerate")(hm:X.mg "enumerate"=none)(ha:PA X [e] ta)(hs:aW [e] X.env=[(false,eval e X.env)]:=by rfl) :
  PI X (.Tuple es kt tp) (.Call (.Name "enumerate" p) [e] [] pos) (GV X.K ta):=by
 intro pins s σ H R I h
 refine Call_ (xt I hg hm (ww) (cI (thn (ha pos pins s σ H _ I h) fun us s1 ⟨vs,H1,I1,r1,q1⟩=>?_) hs rfl))
 obtain ⟨a,e,⟨xs,hq⟩,q⟩:=q1
 subst e
 obtain ⟨u,rfl,ru⟩:=jZ r1
 cases ru
 obtain ⟨its,rv,pl,hz⟩:=I1.list hq
 refine call_enumerate_list pl.isList fun h' he hit hsz hk=>fk he ?_
 have I2:Inv X pins σ H1 { s1 with heap:=h' }:=I1.kept (t':=s1.toks) hk
 refine ⟨s1.heap.objs.size+1,[s1.heap.objs.size+1,s1.heap.objs.size],_,_,H1,rfl,I2,Zn a _ _ (lF _),⟨⟨_,he⟩,hit⟩,fun b hb=>?_,q⟩
 have hb':s1.heap.objs.size<=b:=by
  simp only [aE,aT,or_false] at hb
  rcases hb with rfl | rfl
  ·exact gu _
  ·exact aJ _
 exact I1.fpOk hb' (I1.hok.fresh hb')
noncomputable def IB (K:ax)(ta:TA):TI:=fun σ H R=>ta σ H fun vs H1=>∃ a b,vs=[.ref a,.ref b]/\(∃ xs,SqL K H1 a xs)/\(∃ ys,SqL K H1 b ys)/\R (Itz K a b) H1
theorem DU {e1 e2:Expr} (hg:Gl X "zip")(hm:X.mg "zip"=none)(ha:PA X [e1,e2] ta)(hs:aW [e1,e2] X.env=[(false,eval e1 X.env),(false,eval e2 X.env)]:=by rfl)(hs2:aW [e2] X.env=[(false,eval e2 X.env)]:=by rfl) :
  PI X (.Tuple es kt tp) (.Call (.Name "zip" p) [e1,e2] [] pos) (IB X.K ta):=by
 intro pins s σ H R I h
 refine Call_ (xt I hg hm Zo (cI (thn (ha pos pins s σ H _ I h) fun us s1 ⟨vs,H1,I1,r1,q1⟩=>?_) (by rw [hs,hs2]) (by rw [hs2];rfl)))
 obtain ⟨a,b,e,⟨xs,hq1⟩,⟨ys,hq2⟩,q⟩:=q1
 subst e
 obtain ⟨u,v,rfl,ru,rv⟩:=Zr r1
 cases ru
 cases rv
 obtain ⟨its1,rv1,p1,hz1⟩:=I1.list hq1
 obtain ⟨its2,rv2,p2,hz2⟩:=I1.list hq2
 have la:a<s1.heap.objs.size:=by obtain ⟨o,e,_⟩:=p1.isList;exact aH e
 have lb:b<s1.heap.objs.size:=by obtain ⟨o,e,_⟩:=p2.isList;exact aH e
 refine call_zip_2 p1.isList p2.isList fun h' b1 b2 b3 b4 b5 hsz hk=>gM b1 ?_
 have I2:Inv X pins σ H1 { s1 with heap:=h' }:=I1.kept (t':=s1.toks) hk
 refine ⟨s1.heap.objs.size+4,[s1.heap.objs.size+4,s1.heap.objs.size+2,s1.heap.objs.size+3,s1.heap.objs.size,s1.heap.objs.size+1],_,_,H1,rfl,I2,Wy a b _ _ _ _ _ (zipApart_new la lb),⟨b1,b2,⟨_,_,b3⟩,b4,b5⟩,fun c hb=>?_,q⟩
 have hb':s1.heap.objs.size<=c:=by
  simp only [aE,aT,or_false] at hb
  rcases hb with rfl | rfl | rfl | rfl | rfl <;> first | exact aJ _ | exact oq _ _
 exact I1.fpOk hb' (I1.hok.fresh hb')
end
variable {a:aw} {xs:List V} {g:TG} {tb:TS} {D:kl} {σ:St} {H:Hp}
theorem Wj (Pv:Nat->St->Hp->Prop)(h0:Pv 0 σ H)(hl:∀ i σ H,i<=xs.length->Pv i σ H->SqL K H a xs)
  (hs:∀ i x p σ H,xs[i]?=some x->H p=none->Pv i σ H->g (.ref p) σ (upd H p (.tup [.int i,x])) fun σ2 H2=>tb { D with nx:=Pv (i+1),ct:=Pv (i+1),bk:=D.nx } σ2 H2) (hd:∀ σ H,Pv xs.length σ H->D.nx σ H) :
  ∃ W:Nat->Nat->St->Hp->Prop,(∃ m,W 0 m σ H)/\∀ i m σ H,W i m σ H ->
   ((Ite K a).stop i H/\D.nx σ H) \/ ((Ite K a).go i H/\∃ N:St->Hp->Prop,(∀ σ' H',N σ' H'->∃ m',m'<m/\W (i+1) m' σ' H')/\∀ x H',(Ite K a).yld i H x H'->g x σ H' fun σ2 H2=>tb { D with nx:=N,ct:=N,bk:=D.nx } σ2 H2):=by
 refine ⟨fun i m σ H=>m=xs.length - i/\i<=xs.length/\Pv i σ H,⟨xs.length,by simp,ci _,h0⟩,?_⟩
 rintro i m σ H ⟨rfl,hi,p⟩
 have q:=hl i σ H hi p
 by_cases hlt:i<xs.length
 ·refine .inr ⟨⟨xs,xs[i],q,by simp [hlt]⟩,Pv (i+1),fun σ' H' p'=>⟨xs.length - (i+1),by omega,rfl,hlt,p'⟩,fun x H' y=>?_⟩
  obtain ⟨pp,x',hp,rfl,y,rfl⟩:=y
  exact hs i x' pp σ _ (y xs q) hp p
 ·have e:i=xs.length:=by omega
  subst e
  exact .inl ⟨⟨xs,q,aJ _⟩,hd σ H p⟩
noncomputable def JY (p:aw)(a b c:Int):HO:=.ext fun h=>∃ t u v,h.get? p=some { cls:=.type "range",data:=.fields #[.int a t,.int b u,.int c v] }
variable {p:aw}
theorem IJ {h:Heap} {a b c:Int}{t u v:Tok}(e:h.get? p=some { cls:=.type "range",data:=.fields #[.int a t,.int b u,.int c v] }):zM P w H h p (JY p a b c):=
 ⟨⟨t,u,v,e⟩,⟨_,e⟩,fun h1 h2 ⟨t,u,v,q⟩ k=>⟨t,u,v,k _ q⟩⟩
noncomputable def jj (a c:Int)(n:Nat):List Int:=(bT n).map fun (i:Nat)=>a+(i:Int) * c
theorem jX (a c:Int)(n:Nat):(jj a c n).length=n:=by simp [jj]
theorem KG {a c:Int}:∀ {n:Nat} {acc:Array aj},ItemsOf (fun (i:Nat) (v:aj)=>∃ t,v=aj.int (a+(i:Int) * c) t) acc n->zw ((jj a c n).map V.int) acc.toList:=by
 intro n acc ⟨hs,hi⟩
 have key:∀ (k:Nat) (l:List aj),l.length=k->(∀ (j:Nat) v,l[j]?=some v->∃ t,v=aj.int (a+(j:Int) * c) t)->zw ((jj a c k).map V.int) l:=by
  intro k
  induction k with
  | zero=>intro l hl _;cases l with
   | nil=>exact .nil
   | cons=>simp at hl
  | succ k ih=>
   intro l hl hv
   obtain ⟨l',x,rfl⟩:∃ l' x,l=l' ++ [x]:=⟨l.dropLast,l.getLast (by intro e;rw [e] at hl;simp at hl),(List.dropLast_concat_getLast _).symm⟩
   have hl':l'.length=k:=by simpa using hl
   have e:(jj a c (k+1)).map V.int=(jj a c k).map V.int ++ [.int (a+(k:Int) * c)]:=by simp [jj,mw]
   rw [e]
   refine (ih l' hl' fun j v hj=>hv j v ?_).append (.cons ?_ .nil)
   ·rw [cT (aF.mp hj).1];exact hj
   ·obtain ⟨t,rfl⟩:=hv k x (by rw [dk (by omega),hl'];simp)
    exact ⟨t,rfl⟩
 exact key n acc.toList (by simpa using hs) fun j v hj=>hi j v (by simpa using hj)
section
variable {X:Cx}
theorem Jc:qG X (.type "range") (fun xs H Q=>∃ b:Int,xs=[.int b]/\∀ p,H p=none->Q (.ref p) (upd H p (JY p 0 b 1))):=by
 intro pins s σ H xs us Q I r h
 obtain ⟨b,rfl,q⟩:=h
 obtain ⟨u,rfl,t,rfl⟩:=jZ r
 refine call_range_1 ⟨.ref s.heap.objs.size,_,I.laid (fun b o e=>ay _ e) (aJ _) ?_,rfl,q _ (I.hok.fresh (aJ _))⟩
 exact IJ (aQ _ rfl)
theorem wJ (hc:X.calm=true):qG X (.type "list") (fun xs H Q=>∃ p a b c n,xs=[.ref p]/\H p=some (JY p a b c)/\hZ a b c=true/\eN a b c=((n:Nat):Int)/\n<=100000/\∀ l,H l=none->Q (.ref l) (upd H l (.lst ((jj a c n).map V.int)))):=by
 intro pins s σ H xs us Q I r h
 obtain ⟨p,a,b,c,n,rfl,hp,hs,hn,hz,q⟩:=h
 obtain ⟨u,rfl,rx⟩:=jZ r
 cases rx
 obtain ⟨⟨t,u,v,e⟩,_⟩:=(show zM X.prog X.w H s.heap p (JY p a b c) from I.hok _ _ hp)
 refine call_list_range (I.ok.hd hc) e hs hn (aZ hz (by decide)) fun h' tk acc c' hk he hi=>?_
 refine ⟨.ref s.heap.objs.size,_,I.laid hk (aJ _) (show zM X.prog X.w _ h' _ (.lst ((jj a c n).map V.int)) from ⟨?_,acc.toList,c',KG hi,by simpa using he⟩),rfl,q _ (I.hok.fresh (aJ _))⟩
 rw [az,jX]
 exact aZ hz (by decide)
theorem Qd:qG X (.builtin "sorted") (fun xs H Q=>∃ p ns,xs=[.ref p]/\SqL X.K H p (bp V.int ns)/\ns.length<64/\∀ l ns',H l=none->ns'.Perm ns->ns'.Pairwise (·<=·)->Q (.ref l) (upd H l (.lst (bp V.int ns')))):=by
 intro pins s σ H xs us Q I r h
 obtain ⟨p,ns,rfl,hq,h64,q⟩:=h
 obtain ⟨u,rfl,rx⟩:=jZ r
 cases rx
 obtain ⟨its,rv,pl,hz⟩:=I.list hq
 have hlen:=rv.length
 rw [az] at hlen
 refine sorted_ints pl.isList (vU rv) (by omega) fun out ns' a1 a2 a3=>?_
 obtain ⟨k,he⟩:=sortedAll_at s.heap its out
 refine ⟨.ref (s.heap.objs.size+1),_,I.laid (t':=s.toks) (fun _ _=>sortedAll_old) (gu _) (show zM X.prog X.w _ _ _ (.lst (bp V.int ns')) from ⟨?_,out.toList,k,xF a1,by simpa [iE] using he⟩),rfl,q _ _ (I.hok.fresh (gu _)) a2 a3⟩
 rw [az,a2.length_eq]
 exact fF (wZ (by omega))
end
section
variable {X:Cx}
noncomputable def isT (t c:String):Option Bool:=if (aj.type t == aj.type c)=true then some true else if PySem.W.kitMeta c=true then (fastBuiltinMro t).map (·.contains (aj.type c)) else none
theorem X9 (K:ax)(t c:String):mH K (.type t) (.type c)=isT t c:=rfl
noncomputable def y8 (t:String):List String->Option Bool
 | []=>some false
 | c :: r=>match isT t c with
  | some true=>some true
  | some false=>y8 t r
  | none=>none
theorem QS (K:ax)(t:String):∀ cs:List String,mK K (.type t) (cs.map aj.type)=y8 t cs
 | []=>rfl
 | c :: r=>by
  show (match mH K (.type t) (.type c) with | some true=>some true | some false=>mK K (.type t) (r.map aj.type) | none=>none)=_
  rw [X9,QS K t r];rfl
theorem jp:qG X (.builtin "isinstance") (fun xs H Q=>∃ x t c b,xs=[x,.ty c]/\kR X.K H x (.type t)/\isT t c=some b/\Q (.bl b) H):=by
 intro pins s σ H xs us Q I r h
 obtain ⟨x,t,c,b,rfl,ty,e,q⟩:=h
 obtain ⟨u,v,rfl,ru,rv⟩:=Zr r
 cases rv
 exact VH I ru ty (by rw [X9];exact e) fun tk=>⟨.bl b,H,I.tok _,rfl,q⟩
theorem QX:∀ {cs:List String} {us:List aj},zw (cs.map V.ty) us->us=cs.map aj.type
 | [],_,.nil=>rfl
 | c :: cs,_,.cons r t=>by rw [QX t];cases r;rfl
theorem yC:qG X (.builtin "isinstance") (fun xs H Q=>∃ x t p cs b,xs=[x,.ref p]/\H p=some (.tup (bp V.ty cs))/\kR X.K H x (.type t)/\y8 t cs=some b/\Q (.bl b) H):=by
 intro pins s σ H xs us Q I r h
 obtain ⟨x,t,p,cs,b,rfl,hp,ty,e,q⟩:=h
 obtain ⟨u,v,rfl,rx,rv⟩:=Zr r
 cases rv
 obtain ⟨_,its,rt,o,ho,hc,⟨n,hd⟩,_⟩:=(show zM X.prog X.w H s.heap p (.tup (bp V.ty cs)) from I.hok _ _ hp)
 obtain ⟨oc,od,odt,osl⟩:=o
 simp only at hc hd
 subst hc hd
 have e':mK X.K (.type t) its=some b:=by rw [QX rt,QS];exact e
 have fin:∀ tk,EP X pins σ Q (.bool b) { s with toks:=tk }:=fun tk=>⟨.bl b,H,I.tok _,rfl,q⟩
 cases ty with
 | non=>cases (show u=aj.none from rx);exact cZ nM I.kIn True.intro ho e' (fun z=>nomatch z) fin
 | bl y=>cases (show u=aj.bool y from rx);exact cZ nN I.kIn True.intro ho e' (fun z=>nomatch z) fin
 | int i=>obtain ⟨t,q⟩:=(show ∃ t,u=aj.int i t from rx);cases q;exact cZ oh I.kIn True.intro ho e' (fun z=>nomatch z) fin
 | str y=>obtain ⟨t,q⟩:=(show ∃ t,u=aj.str y t from rx);cases q;exact cZ oi I.kIn True.intro ho e' (fun z=>nomatch z) fin
 | flt y=>obtain ⟨t,q⟩:=(show ∃ t,u=aj.float y t from rx);cases q;exact cZ nv I.kIn True.intro ho e' (fun z=>nomatch z) fin
 | @lst a xs ea=>
  cases (show u=aj.ref a from rx)
  obtain ⟨_,_,n,_,h1⟩:=(show zM X.prog X.w H s.heap a (.lst xs) from I.hok a _ ea)
  exact cZ gA I.kIn ⟨_,h1,rfl⟩ ho e' (fun z=>nomatch z) fin
 | @frz a ob xs ea=>
  cases (show u=aj.ref a from rx)
  obtain ⟨_,_,_,n,_,h1⟩:=(show zM X.prog X.w H s.heap a (.frz ob (.lst xs)) from I.hok a _ ea)
  exact cZ gA I.kIn ⟨_,h1,rfl⟩ ho e' (fun z=>nomatch z) fin
 | @tup a xs ea=>
  cases (show u=aj.ref a from rx)
  obtain ⟨_,_,_,p⟩:=(show zM X.prog X.w H s.heap a (.tup xs) from I.hok a _ ea)
  obtain ⟨o,h1,h2,_⟩:=p
  exact cZ nw I.kIn ⟨o,h1,h2⟩ ho e' (fun z=>nomatch z) fin
 | @dK a kvs ea=>
  cases (show u=aj.ref a from rx)
  obtain ⟨_,_,vs,_,p⟩:=(show zM X.prog X.w H s.heap a (.dK kvs) from I.hok a _ ea)
  obtain ⟨o,es,ep,h1,h2,_⟩:=p
  exact cZ gB I.kIn ⟨o,h1,h2.1⟩ ho e' (fun z=>nomatch z) fin
 | @dT a kvs ea=>
  cases (show u=aj.ref a from rx)
  obtain ⟨_,_,xs,_,o,es,ep,h1,h2,_⟩:=(show zM X.prog X.w H s.heap a (.dT kvs) from I.hok a _ ea)
  exact cZ gB I.kIn ⟨o,h1,h2.1⟩ ho e' (fun z=>nomatch z) fin
end
def At (K:ax)(mg:Str->Option aj)(x:Str)(st:de):Prop:=∃ f fd,Fun K x x st f fd/\mg x=some (.ref f)
def Df (P:aX)(w:bB)(K:ax)(mg:Str->Option aj)(base:Heap)(x:Str)(ps:List Str)(k:Nat)(sp:Sp):Prop:=
 ∃ f fd,js P w K mg base CX0 k f fd ps sp/\jt K fd ps []/\dh K (.ref f)=true/\mg x=some (.ref f)/\∃ oc od osl,K.lookup f=some ⟨oc,od,.func fd,osl⟩
variable {mg:Str->Option aj} {base:Heap} {ps:List Str} {j k:Nat} {sp:Sp}
theorem Df.mono {x:Str} (D:Df P w K mg base x ps j sp)(h:j<=k):Df P w K mg base x ps k sp:=
 let ⟨f,fd,F,r⟩:=D
 ⟨f,fd,F.mono h,r⟩
section
variable {X:Cx}{k:Nat}{x:Str}{ps:List Str}{sp:Sp}{p pos:Pos}{e:Expr}{es:List Expr}{t:TA}
theorem zT (D:Df X.prog X.w X.K X.mg X.base x ps k sp)(hr:qk k X.A)(hg:Gl X x)(ha:PA X (e :: es) t)(hdb:(x == ("__debug__":Str))=false:=by decide)
  (he:aW (e :: es) X.env=(false,eval e X.env) :: aW es X.env:=by rfl) (hpl:(cG pos (aW es X.env)).any (·.1)=false:=by rfl):PE X (.Call (.Name x p) (e :: es) [] pos) (Ym sp [] E0 t):=by
 obtain ⟨f,fd,F,b,kp,m,_⟩:=D
 exact EY F hr hg m kp b .nil Xu ha hdb he hpl
end
variable {st:de} {N:List Str}
theorem Xs {x:Str} (a:At K mg x st)(S:zr N ps (zf st))
  (hb:∀ (kV doc pm:aj) (an:Option aw) (cdv ct:aj) (us:List aj),us.length=ps.length->fA (bY x x (qp st) (zP st) (zf st) .none kV doc pm an cdv ct) ⟨us,[]⟩=pure (ps.zip us))
  (len:∀ vs H Q E,sp vs H Q E->vs.length=ps.length)
  (hbody:∀ (f:aw) (cdv:aj) (A:bj) (outer:List Env) (s:au) (H:Hp) (vs:List V) (Q:VK) (E:XK),qk k (A.deeper (fT x (zf st) s.heap.objs.size f cdv))->sp vs H Q E ->
   ∃ t,PSs (jA CX0 P w K mg base N x (zf st) f cdv A outer s H E).nox (zP st) t/\t { nx:=fun _ H'=>Q .non H',rt:=Q } (start N vs) H):Df P w K mg base x ps (k+1) sp:=by
 obtain ⟨f,fd,F,m⟩:=a
 obtain ⟨oc,od,kV,doc,pm,an,cdv,ct,osl,_,lk,_⟩:=id F.ex
 exact ⟨f,fd,F.ok S len fun cdv A outer s H vs Q E=>hbody f cdv A outer s H vs Q E,F.binds hb,F.kp,m,oc,od,osl,lk⟩
variable {f:aw} {oc:aj} {od an:Option aw} {osl:Array (Option aj)}
theorem at_mk {h:Heap}{x:Str} {kV doc pm cdv ct:aj}(X:K.In h)(G:h.Ns bq mg)(a:bH K bq x=some (some (.ref f)))
  (l:K.lookup f=some ⟨oc,od,.func (bY x x (qp st) (zP st) (zf st) .none kV doc pm an cdv ct),osl⟩) (c:fB K cdv x=true) (k:dh K (.ref f)=true):At K mg x st:=⟨f,_,fun_mk l c k,fb X G a⟩
theorem Df.fn {x:Str} {fd:dE} (D:Df P w K mg base x ps k sp)(m:mg x=some (.ref f))(l:K.lookup f=some ⟨oc,od,.func fd,osl⟩):js P w K mg base CX0 k f fd ps sp:=by
 obtain ⟨f',fd',F,_,_,m',oc',od',osl',l'⟩:=D
 rw [m] at m'
 cases m'
 rw [l] at l'
 cases l'
 exact F
structure Blt (mg:Str->Option aj):Prop where
 len:mg "len"=none
 range:mg "range"=none
 list:mg "list"=none
 tuple:mg "tuple"=none
 int:mg "int"=none
 bool:mg "bool"=none
 str:mg "str"=none
 abs:mg "abs"=none
 divmod:mg "divmod"=none
 enumerate:mg "enumerate"=none
 zip:mg "zip"=none
 sorted:mg "sorted"=none
 max:mg "max"=none
 min:mg "min"=none
 isinstance:mg "isinstance"=none
 all:mg "all"=none
theorem blt_mk {h:Heap}(X:K.In h)(G:h.Ns bq mg)(z1:bH K bq "len"=some none)(z2:bH K bq "range"=some none)(z3:bH K bq "list"=some none)(z4:bH K bq "tuple"=some none)(z5:bH K bq "int"=some none)(z6:bH K bq "bool"=some none)(z7:bH K bq "str"=some none)(z8:bH K bq "abs"=some none)
  (z9:bH K bq "divmod"=some none) (z10:bH K bq "enumerate"=some none) (z11:bH K bq "zip"=some none) (z12:bH K bq "sorted"=some none) (z13:bH K bq "max"=some none) (z14:bH K bq "min"=some none) (z15:bH K bq "isinstance"=some none) (z16:bH K bq "all"=some none):Blt mg:=
 ⟨bz X G z1,bz X G z2,bz X G z3,bz X G z4,bz X G z5,bz X G z6,bz X G z7,bz X G z8,bz X G z9,bz X G z10,bz X G z11,bz X G z12,bz X G z13,bz X G z14,bz X G z15,bz X G z16⟩
theorem zN:bK "isinstance"=some (.builtin "isinstance"):=by decide +kernel
theorem jF:bK "sorted"=some (.builtin "sorted"):=by decide +kernel
theorem J8:bK "abs"=some (.builtin "abs"):=by decide +kernel
theorem Vo:bK "divmod"=some (.builtin "divmod"):=by decide +kernel
theorem Lg:bK "max"=some (.builtin "max"):=by decide +kernel
theorem K8:bK "min"=some (.builtin "min"):=by decide +kernel
theorem qB:bK "len"=some (.builtin "len"):=by decide +kernel
theorem jV:bK "list"=some (.type "list"):=by decide +kernel
theorem qJ:bK "tuple"=some (.type "tuple"):=by decide +kernel
theorem xT:bK "int"=some (.type "int"):=by decide +kernel
theorem ZW:bK "bool"=some (.type "bool"):=by decide +kernel
theorem A8:bK "str"=some (.type "str"):=by decide +kernel
theorem Dj:bK "range"=some (.type "range"):=by decide +kernel
def Kp (bs:List aw)(H H':Hp):Prop:=∀ c o,c ∉ bs->H c=some o->H' c=some o
theorem Kp.refl {bs:List aw}:Kp bs H H:=fun _ _ _ h=>h
variable {H1 H2:Hp}
theorem Kp.trans {bs:List aw} (a:Kp bs H H1)(b:Kp bs H1 H2):Kp bs H H2:=fun c o n h=>b c o n (a c o n h)
theorem Kp.new {bs:List aw} (o:HO)(h:H p=none):Kp bs H (upd H p o):=fun c u _ q=>by rw [zg (zo q h)];exact q
theorem Kp.set {bs:List aw} (o:HO)(h:p ∈ bs):Kp bs H (upd H p o):=fun c u n q=>by have hne:c ≠ p:=(fun e=>n (by rw [e];exact h));rw [zg hne];exact q
theorem Kp.free {H H':Hp}(e:Kp [] H H'){l:aw}(h:H' l=Option.none):H l=Option.none:=by
 cases q:H l with
 | none=>rfl
 | some o=>rw [e l o (by simp) q] at h;cases h
def Bx (H:Hp)(b:aw)(N:Nat):Prop:=∃ x y z:Int,H b=some (.lst [.int x,.int y,.int z])/\0<=x/\0<=y/\y<2147483648/\0<=z/\z<=N
noncomputable abbrev il (ns:List Int):HO:=.lst (ns.map V.int)
variable {qual:Str} {A:bj} {outer:List Env} {s:au} {E:XK}
theorem cxK {CX:CXT} {cd:aj}:
  (jA CX P w K mg base N qual scope f cd A outer s H E).K=K:=rfl
def MV (J:It)(g:TG)(tb:TS)(D:kl)(σ:St)(H:Hp):Prop:=∃ W:Nat->Nat->St->Hp->Prop,(∃ m,W 0 m σ H)/\∀ i m σ H,W i m σ H ->
 (J.stop i H/\D.nx σ H) \/ (J.go i H/\∃ N:St->Hp->Prop,(∀ σ' H',N σ' H'->∃ m',m'<m/\W (i+1) m' σ' H')/\∀ x H',J.yld i H x H'->g x σ H' fun σ2 H2=>tb { D with nx:=N,ct:=N,bk:=D.nx } σ2 H2)
variable {wi:TI}
theorem Z8:Z4 wi g tb D σ H=wi σ H (fun J H1=>MV J g tb D σ H1):=rfl
def Mh (J:It)(g:TG)(tt:TT)(te:TE)(D:aw)(Q:VK)(τ:St)(H:Hp):Prop:=∃ W:Nat->Nat->St->Hp->Prop,(∃ m,W 0 m τ H)/\∀ i m τ H2,W i m τ H2 ->
 (J.stop i H2/\Q (.ref D) H2) \/ (J.go i H2/\∃ N:St->Hp->Prop,(∀ τ' H',N τ' H'->∃ m',m'<m/\W (i+1) m' τ' H')/\∀ x H',J.yld i H2 x H'->g x τ H' fun τ2 H3=>tt τ2 H3 fun b H4=>
  if b=true then te τ2 H4 fun v H5=>∃ ys,H5 D=some (.lst ys)/\ys.length<aM/\N τ2 (upd H5 D (.lst (ys ++ [v]))) else N τ2 H4)
variable {tt:TT} {te:TE} {Q:VK}
theorem Bc:
  Jx ts wi g tt te σ H Q=wi σ H (fun J H1=>∀ D,H1 D=none->Mh J g tt te D Q (clr ts σ) (upd H1 D (.lst []))):=rfl
theorem EL (Pv:Nat->St->Hp->Prop)(h0:Pv 0 σ H)(hl:∀ i σ H,i<=xs.length->Pv i σ H->SqL K H a xs)
  (hs:∀ i x p σ H,xs[i]?=some x->H p=none->Pv i σ H->g (.ref p) σ (upd H p (.tup [.int i,x])) fun σ2 H2=>tb { D with nx:=Pv (i+1),ct:=Pv (i+1),bk:=D.nx } σ2 H2) (hd:∀ σ H,Pv xs.length σ H->D.nx σ H):MV (Ite K a) g tb D σ H:=Wj Pv h0 hl hs hd
theorem ky:qG X (.type "int") (fun xs H Q=>∃ k,xs=[.bl k]/\Q (.int (if k then 1 else 0)) H):=by
 intro pins s σ H xs us Q I r h
 exact VJ pins s σ H xs us Q I r (.inr h)
variable {ns:List Int} {i:Nat}
theorem XU (h:i<ns.length):ns.getD i 0=ns[i]:=by rw [aq,af h];rfl
noncomputable def KM:V->V->V->Hp->(Hp->Prop)->Prop:=fun o i v H Q=>∃ k,i=.int k/\∃ p,o=.ref p/\∃ xs,H p=some (.lst xs)/\∃ j,ixN xs.length k=some j/\Q (upd H p (.lst (xs.set j v)))
section
variable {X:Cx}
theorem YX:MtR X "list.append" vn:=Zc
theorem jo {t:TGs}{pos:Pos} (n:Nat)(h:X.K=K)(hc:X.calm=true)(hs:PGs X es t)(hn:(eR es X.env).length=n:=by rfl)(hst:(eR es X.env).findIdx? (·.1)=none:=by rfl):PG X (.Tuple es k pos) (Kr K n t):=h ▸ B5 hc hs hn hst
theorem zW:Fy X KM:=by
 intro pins s σ H o i v ov iv u Q I ro ri rv h
 obtain ⟨k,e1,p,e2,xs,h1,j,h2,q⟩:=h
 exact Wq pins s σ H o i v ov iv u Q I ro ri rv ⟨p,xs,k,j,e2,e1,h1,h2,q⟩
theorem j4 (h:X.K=K):qG X (.builtin "len") (fun xs H Q=>∃ p ys,xs=[.ref p]/\(SqL K H p ys \/ SqT K H p ys)/\Q (.int ys.length) H):=h ▸ zE
end
section
variable {X:Cx}
noncomputable def XZ (K:ax):R2:=fun x y H Q=>∃ p xs i v,x=.ref p/\y=.int i/\(SqL K H p xs \/ SqT K H p xs)/\atI xs i=some v/\Q v H
theorem zV:IxR X (XZ X.K):=by
 intro value slice pins s σ H x y v u Q I rx ry h hs
 obtain ⟨p,xs,i,z,e1,e2,hq | hq,he,q⟩:=h
 ·exact qQ value slice pins s σ H x y v u Q I rx ry ⟨p,xs,i,z,e1,e2,hq,he,q⟩ hs
 ·exact Lp value slice pins s σ H x y v u Q I rx ry ⟨p,xs,i,z,e1,e2,hq,he,q⟩ hs
theorem jK (h:X.K=K):IxR X (XZ K):=h ▸ zV
theorem K0:bK "all"=some (.builtin "all"):=by decide +kernel
theorem vQ:∀ {bs:List Bool} {us:List aj},zw (bs.map V.bl) us->us=bs.map aj.bool
 | [],_,h=>by cases h;rfl
 | b :: bs,_,h=>by
  cases h with
  | cons r rs=>cases r;rw [vQ rs];rfl
theorem KH (bs:List Bool):((bT bs.length).all fun i=>(bs[i]?).getD true)=bs.all id:=by
 rw [Bool.eq_iff_iff,fJ,fJ]
 constructor
 ·intro h x hx
  obtain ⟨i,hi,rfl⟩:=List.getElem_of_mem hx
  have:=h i (by simpa using hi)
  simpa [af hi] using this
 ·intro h i hi
  have hi':i<bs.length:=by simpa using hi
  simpa [af hi'] using h bs[i] (bh hi')
theorem yH (hc:X.calm=true):qG X (.builtin "all") (fun xs H Q=>∃ p bs,xs=[.ref p]/\SqL X.K H p (bp V.bl bs)/\Q (.bl (bs.all id)) H):=by
  intro pins s σ H xs us Q I r h
  obtain ⟨p,bs,rfl,hq,q⟩:=h
  obtain ⟨u,rfl,rx⟩:=jZ r
  cases rx
  obtain ⟨its,rv,pl,hz⟩:=I.list hq
  have hu:=vQ rv
  subst hu
  have hlt:p<s.heap.objs.size:=by obtain ⟨_,e,_⟩:=pl.isList;exact aH e
  refine call_all_walk (fq pl.isList ?_)
  refine ⟨s.heap.objs.size,[s.heap.objs.size,p],[s.heap.objs.size],(bs.map aj.bool).toArray.size,_,_,fun i=>(bs[i]?).getD true,rfl,Walks.list (A:=X.A.in1) (I.ok.hd hc) _ p (br hlt) (bs.map aj.bool).toArray,
    ⟨⟨_,aQ _ rfl,rfl,rfl⟩,pl.isList.push _⟩,fun i v s' Q' E' hP hQ=>?_,fun h' tk hk=>?_⟩
  · have hP':(bs.map aj.bool)[i]?=some v:=by simpa using hP
    rw [aD] at hP'
    cases e:bs[i]? with
    | none=>rw [e] at hP';cases hP'
    | some b=>
      rw [e] at hP'
      cases hP'
      simp only [e,Option.getD_some] at hQ
      exact dJ hQ
  · have e : ((bT (bs.map aj.bool).toArray.size).all fun i => (bs[i]?).getD true) = bs.all id := by
      rw [aG,az];exact KH bs
    rw [e]
    refine ⟨.bl (bs.all id),H,I.turnedL (ch:=[]) (tk:=tk) (fun b hb=>nomatch hb) (fun b o _ eb=>?_),rfl,q⟩
    exact hk b o (fun hm=>by rw [bW.mp hm] at eb;exact cW _ (aH eb)) (ay _ eb)
end
section
variable {P:aX}{w:bB}{A:bj}{E:aj->au->Prop}{s:au}{j t:aw}{i:Nat}{its:Array aj}{Q:aj->au->Prop}
theorem Qk {x:aj}(hj:s.heap.IsTupleIter j t i)(ht:s.heap.IsTuple t its)(hx:its[i]?=some x)(hQ:∀ h',h'.IsTupleIter j t (i+1)->cR j s.heap h'->Q x { s with heap:=h' }):aK (aL P w) A (ca (.ref j)) Q E s:=by
 obtain ⟨o,ho,hc,hd⟩:=id hj
 obtain ⟨ot,hot,_,nt,hdt⟩:=ht
 unfold ca
 refine am (cy (name:=ap "__next__") hj.typeIs F.slot_tuple_iterator_next (df F.slot_tuple_iterator_next hj.typeIs F.entry_tuple_iterator_next ?_ (F.args_tuple_iterator_next_1 _)))
 refine am (m:=mL (.ref j) 0) (bO ho hd (x:=.ref t) rfl ?_);show aK _ _ (if (aj.ref t == aj.none)=true then _ else _) _ _ s;rw [if_neg (show ¬ ((aj.ref t == aj.none)=true) from bL)]
 refine am (m:=mL (.ref j) 1) (bO ho hd (x:=.int i 0) rfl ?_);refine am (m:=ou (.ref t)) (d8 hot hdt ?_);simp only [bQ,hx]
 refine am (mM ho hd (by simp) (aA ⟨x,rfl,aA (hQ _ ⟨_,cV _ ho (Obj.isFreed_of_fields (gk hd _)),(Obj.cls_mapFields ..).trans hc,by rw [gk hd];simp [iu]⟩ (cR.update ..))⟩))
theorem yS (hh:A.handled=none)(hj:s.heap.IsTupleIter j t i)(ht:s.heap.IsTuple t its)(hx:its[i]?=none)(hE:∀ h' e,Heap.ExtBut j s.heap h'->(∃ o,h'.get? e=some o/\o.cls=.type "StopIteration")->E (.ref e) { s with heap:=h' }):aK (aL P w) A (ca (.ref j)) Q E s:=by
 obtain ⟨o,ho,hc,hd⟩:=id hj
 obtain ⟨ot,hot,_,nt,hdt⟩:=ht
 unfold ca
 refine am (cy (name:=ap "__next__") hj.typeIs F.slot_tuple_iterator_next (df F.slot_tuple_iterator_next hj.typeIs F.entry_tuple_iterator_next ?_ (F.args_tuple_iterator_next_1 _)))
 refine am (m:=mL (.ref j) 0) (bO ho hd (x:=.ref t) rfl ?_);show aK _ _ (if (aj.ref t == aj.none)=true then _ else _) _ _ s;rw [if_neg (show ¬ ((aj.ref t == aj.none)=true) from bL)]
 refine am (m:=mL (.ref j) 1) (bO ho hd (x:=.int i 0) rfl ?_);refine am (m:=ou (.ref t)) (d8 hot hdt ?_);simp only [bQ,hx]
 refine am (lJ (am (mM ho hd (by simp) ?_)));refine am (m:=newExc (.type "StopIteration") []) ?_;simp only [newExc,newTuple];refine am (bI ?_ (by size_fits));refine am (m:=firstArgMember _ _) (wpAny_of_eq (a:=aj.none) (by first | rfl | (simp only [firstArgMember];rfl)) ?_);refine bI ?_ (by size_fits);simp only [raiseNew];refine am (wpAny_handled ?_)
 (first | rw [show A.in1.handled=none from hh] | rw [hh]);refine am (aA (wpAny_throw ?_));exact hE _ _ (((cR.update ..).extBut.push _).push _) ⟨_,aQ _ rfl,rfl⟩
end
theorem Vy (hh:A.handled=none)(j t:aw)(hne:t ≠ j)(its:Array aj) :
  Draws P w A j [j,t] its.size (fun i v=>its[i]?=some v) (fun i h=>h.IsTupleIter j t i/\h.IsTuple t its) where
 live:=fun _ _ st=>let ⟨o,ho,_⟩:=st.1;⟨o,ho⟩
 frame:=fun _ _ _ st hk=>⟨st.1.at fun o e=>hk j (by simp) o e,let ⟨o,ho,r⟩:=st.2;⟨o,hk t (by simp) o ho,r⟩⟩
 item:=fun i s Q E hi st hQ=>by
  refine Qk st.1 st.2 (x:=its[i]) (by simp [hi]) fun h' hit' hs'=>?_
  exact hQ _ h' s.toks (by simp [hi]) ⟨hit',let ⟨o,ho,r⟩:=st.2;⟨o,(hs'.2 t hne).trans ho,r⟩⟩ hs'
 done:=fun s Q E st hE=>yS hh st.1 st.2 (by simp) hE
open AutoSeq1 (wpAny_loadPart') in
theorem VL (l:aw)(its:Array aj)(n:Nat)(dct:Option aw)(sl:Array (Option aj)) :
  Meets (Builtin.«enumerate.__new__» ⟨[.type "enumerate",.ref l],[]⟩) (fun _ R s=>s.heap.get? l=some { cls:=.type "tuple",dict:=dct,data:=.seq its n,slots:=sl }/\R (.ok (.ret (.ref (s.heap.push { cls:=.type "tuple_iterator",data:=.fields #[.ref l,.int 0 0] }).objs.size))) { s with heap:=(s.heap.push { cls:=.type "tuple_iterator",data:=.fields #[.ref l,.int 0 0] }).push { cls:=.type "enumerate",data:=.fields #[.none,.bool false,.ref s.heap.objs.size,iu 0,.none,.none] } }):=
 .of_wp fun prog w A R s h=>by
  obtain ⟨hp,g,d,tk,os⟩:=s
  obtain ⟨hl,h⟩:=h
  have hsub:=sub_enumerate
  have hT:Heap.IsTuple (au.heap ⟨hp,g,d,tk,os⟩) l its:=⟨_,hl,rfl,n,rfl⟩
  wp_walk using dP hl
  refine wpAny_stack_any fun st=>aA ?_
  split
  ·rename_i c _ _ _ _ _
   cases (c == aj.type "enumerate")
   ·wp_walk using dP hl,eT hT;exact ⟨_,rfl,h⟩
   ·wp_walk using dP hl,eT hT;exact ⟨_,rfl,h⟩
  ·wp_walk using dP hl,eT hT;exact ⟨_,rfl,h⟩
variable {l:aw} {its:Array aj}
theorem KI {E:aj->au->Prop} {Q:aj->au->Prop}(hT:s.heap.IsTuple l its)
  (h:∀ h',IsEnum h' (s.heap.objs.size+1) s.heap.objs.size 0 .none->h'.IsTupleIter s.heap.objs.size l 0->(∀ b o,s.heap.get? b=some o->h'.get? b=some o)->Q (.ref (s.heap.objs.size+1)) { s with heap:=h' }) :
  aK (aL P w) A (call (.type "enumerate") [.ref l]) Q E s:=by
 obtain ⟨⟨c,dct,dt,sl⟩,hl,hc,n,hd⟩:=hT
 replace hc:c=.type "tuple":=hc
 replace hd:dt=.seq its n:=hd
 subst hc hd
 refine callType_new F.called_enumerate (by decide) (F.typeCall_enumerate_1 _) (F.newCall_enumerate_1 _) (fun obj=>F.args_object_init_2 obj _) F.entry_enumerate_new (VL l its n dct sl) ⟨hl,?_⟩
 have hz:(s.heap.push { cls:=.type "tuple_iterator",data:=.fields #[.ref l,.int 0 0] }).objs.size=s.heap.objs.size+1:=dj ..
 show _/\_
 rw [hz]
 have he:IsEnum ((s.heap.push { cls:=.type "tuple_iterator",data:=.fields #[.ref l,.int 0 0] }).push { cls:=.type "enumerate",data:=.fields #[.none,.bool false,.ref s.heap.objs.size,iu 0,.none,.none] }) (s.heap.objs.size+1) s.heap.objs.size 0 .none:=by
  have hg:=aQ (s.heap.push { cls:=.type "tuple_iterator",data:=.fields #[.ref l,.int 0 0] }) (o:={ cls:=.type "enumerate",data:=.fields #[.none,.bool false,.ref s.heap.objs.size,iu 0,.none,.none] }) rfl
  rw [hz] at hg;exact hg
 exact ⟨⟨_,he,rfl⟩,h _ he ⟨_,ay _ (aQ _ rfl),rfl,rfl⟩ fun b o x=>ay _ (ay _ x)⟩
theorem YR {E:aj->au->Prop} {e j t:aw} {old:aj}{Q:Option aj->au->Prop}(hh:A.handled=none)
  (he:IsEnum s.heap e j i old) (hj:s.heap.IsTupleIter j t i) (ht:s.heap.IsTuple t its) (hx:its[i]?=none) (hQ:∀ h',Heap.ExtBut j s.heap h'->Q none { s with heap:=h' }):aK (aL P w) A (lK (.ref e)) Q E s:=by
 have hT:s.TypeIs (.ref e) "enumerate":=⟨_,he,rfl⟩
 unfold lK
 refine am (m8 (cy (name:=ap "__next__") hT F.slot_enumerate_next (df F.slot_enumerate_next hT F.entry_enumerate_next ?_ (F.args_enumerate_next_1 _))))
 refine am (m:=mL (.ref e) 2) (bO he rfl (x:=.ref j) rfl ?_);refine am (yS hh hj ht hx fun h' x he' hx'=>?_)
 obtain ⟨o,ho,hc⟩:=hx'
 refine am (wpAny_isInstance (T:="StopIteration") (b:=true) ⟨o,ho,hc⟩ isSubtype_stop ?_);exact aA (hQ _ he')
noncomputable def IQ (K:ax)(a:aw):It:=
 ⟨fun i H=>∃ xs x,SqT K H a xs/\xs[i]?=some x,fun i H y H'=>∃ p x,H p=none/\y=.ref p/\(∀ xs,SqT K H a xs->xs[i]?=some x)/\H'=upd H p (.tup [.int i,x]),fun i H=>∃ xs,SqT K H a xs/\xs.length<=i⟩
theorem JV (a e it:aw)(hei:e ≠ it)(hea:e ≠ a)(hai:a ≠ it):Qv P w K (.Tuple es kt tp) (IQ K a) [e,it] e (fun i h=>(∃ old,IsEnum h e it (i:Nat) old)/\h.IsTupleIter it a i) where
 mem:=by simp
 obj:=fun i h st b hb=>by
  obtain ⟨⟨old,he⟩,⟨o,e1,c,d⟩⟩:=st
  rcases aE.mp hb with rfl | hb
  ·exact ⟨_,he,fun v z=>by have z':iU _=gq v:=z;cases z'⟩
  ·have e2:b=it:=by simpa using hb
   subst e2
   exact ⟨o,e1,fun v z=>by rw [d] at z;cases z⟩
 keep:=fun i h h' st k=>by
  obtain ⟨⟨old,he⟩,st⟩:=st
  exact ⟨⟨old,k e (by simp) _ he⟩,st.at fun o e=>k it (by simp) o e⟩
 item:=by
  intro X hP hw hK hc i pins s σ H E I hf st hg
  subst hP hw hK
  obtain ⟨⟨old,he⟩,st⟩:=st
  obtain ⟨xs,x,hq,hx⟩:=hg
  obtain ⟨its,rv,p,hz⟩:=I.tuple hq
  obtain ⟨u,hu,ru⟩:=rv.get hx
  have hlt:i<its.toArray.size:=by
   have:=(aF.mp hu).1
   simpa using this
  refine wpAny_pyNext_enum_itemD (Vy (A:=X.A.in1) (I.ok.hd hc) it a hai its.toArray) he ⟨st,p⟩ hlt hei (by simp [hei,hea]) fun x' h1 tk hP heo hit1 ht1 hz1 hk1=>?_
  have hxu:x'=u:=by
   have h1':its[i]?=some x':=by simpa using hP
   rw [hu] at h1';cases h1';rfl
  subst hxu
  refine ⟨.ref s.heap.objs.size,rfl,iD heo fun h2 he2 hs2=>?_⟩
  replace hs2:cR e h1 h2:=hs2
  have elt:e<s.heap.objs.size:=aH he
  have ht2:=(hs2.2 _ (eA elt)).trans ht1
  have I2:Inv X pins σ (upd H s.heap.objs.size (.tup [.int i,x])) { s with heap:=h2,toks:=tk+1 }:=by
   refine I.yieldTup (us:=[.int i tk,x']) hf (fun b o hb q=>?_) (aJ _) ht2 (.cons ⟨_,rfl⟩ (.cons ru .nil)) (by show 2<=aM;decide)
   have n1:b ≠ e:=fun z=>hb (by simp [z])
   have n2:b ≠ it:=fun z=>hb (by simp [z])
   exact (hs2.2 b n1).trans (hk1 b o n1 n2 q)
  refine ⟨.ref s.heap.objs.size,_,I2,rfl,⟨s.heap.objs.size,x,I.hok.fresh (aJ _),rfl,fun ys hy=>by rw [I.tuple_inj hy hq];exact hx,rfl⟩,⟨⟨_,by simpa using he2⟩,hit1.1.extBut hs2.extBut (Ne.symm hei)⟩,fun b hb=>?_⟩
  have hlt:b<s.heap.objs.size:=by
   rcases aE.mp hb with rfl | hb
   ·exact elt
   ·have e2:b=it:=by simpa using hb
    subst e2
    obtain ⟨o,e1,_⟩:=st
    exact aH e1
  rw [zg (br hlt)]
  exact (hf b hb).1
 done:=by
  intro X hP hw hK hc i pins s σ H E I hf st hg
  subst hP hw hK
  obtain ⟨⟨old,he⟩,st⟩:=st
  obtain ⟨xs,hq,hx⟩:=hg
  obtain ⟨its,rv,p,hz⟩:=I.tuple hq
  obtain ⟨f0,f1,f2,f3,f4,f5⟩:=hf it (by simp)
  have hl:=rv.length
  exact YR (I.ok.hd hc) he st p (by simp;omega) fun h' eb=>⟨rfl,I.turned (t':=s.toks) (fun b o hb e=>eb b o hb e) f0 f1 f3 f4 f5⟩
 self:=fun _ _ _ _ _ st h=>by
  obtain ⟨⟨old,he⟩,_⟩:=st
  exact fk he h
section
variable {X:Cx}{es:List Expr}{kt:Nat}{tp:Pos}
noncomputable def Qf (K:ax)(ta:TA):TI:=fun σ H R=>ta σ H fun vs H1=>∃ a,vs=[.ref a]/\(((∃ xs,SqL K H1 a xs)/\R (Ite K a) H1) \/ ((∃ xs,SqT K H1 a xs)/\R (IQ K a) H1))
theorem wQ {e:Expr}{ta:TA}{p pos:Pos}(hg:Gl X "enumerate")(hm:X.mg "enumerate"=none)(ha:PA X [e] ta)(hs:aW [e] X.env=[(false,eval e X.env)]:=by rfl) :
  PI X (.Tuple es kt tp) (.Call (.Name "enumerate" p) [e] [] pos) (Qf X.K ta):=by
 intro pins s σ H R I h
 refine Call_ (xt I hg hm (ww) (cI (thn (ha pos pins s σ H _ I h) fun us s1 ⟨vs,H1,I1,r1,q1⟩=>?_) hs rfl))
 obtain ⟨a,e,q⟩:=q1
 subst e
 obtain ⟨u,rfl,ru⟩:=jZ r1
 cases ru
 have hb':∀ b ∈ [s1.heap.objs.size+1,s1.heap.objs.size],s1.heap.objs.size<=b:=by
  intro b hb
  simp only [aE,aT,or_false] at hb
  omega
 rcases q with ⟨⟨xs,hq⟩,q⟩ | ⟨⟨xs,hq⟩,q⟩
 ·obtain ⟨its,rv,pl,hz⟩:=I1.list hq
  refine call_enumerate_list pl.isList fun h' he hit hsz hk=>fk he ?_
  have I2:Inv X pins σ H1 { s1 with heap:=h' }:=I1.kept (t':=s1.toks) hk
  exact ⟨s1.heap.objs.size+1,[s1.heap.objs.size+1,s1.heap.objs.size],_,_,H1,rfl,I2,Zn a _ _ (lF _),⟨⟨_,he⟩,hit⟩,fun b hb=>I1.fpOk (hb' b hb) (I1.hok.fresh (hb' b hb)),q⟩
 ·obtain ⟨its,rv,pl,hz⟩:=I1.tuple hq
  have alt:a<s1.heap.objs.size:=by obtain ⟨o,e,_⟩:=pl;exact aH e
  refine KI pl fun h' he hit hk=>fk he ?_
  have I2:Inv X pins σ H1 { s1 with heap:=h' }:=I1.kept (t':=s1.toks) hk
  exact ⟨s1.heap.objs.size+1,[s1.heap.objs.size+1,s1.heap.objs.size],_,_,H1,rfl,I2,JV a (s1.heap.objs.size+1) s1.heap.objs.size (lF _) (eA (i4 alt)) (br alt),⟨⟨_,he⟩,hit⟩,fun b hb=>I1.fpOk (hb' b hb) (I1.hok.fresh (hb' b hb)),q⟩
end
def MR (r:R2):Prop:=∀ x y H Q Q',(∀ z H1,Q z H1->Q' z H1)->r x y H Q->r x y H Q'
noncomputable def iLT (K:ax)(tl:TE):TI:=fun σ H R=>tl σ H fun x H1=>∃ a,x=.ref a/\(((∃ xs,SqL K H1 a xs)/\R (Itl K a) H1) \/ ((∃ xs,SqT K H1 a xs)/\R (Itt K a) H1))
theorem xu {tg:Expr}{l:Expr}{tl:TE}(hl:PE X l tl):PI X tg l (iLT X.K tl):=by
 intro pins s σ H R I h
 refine thn (hl pins s σ H _ I h) fun v s1 ⟨x,H1,I1,r1,q1⟩=>?_
 obtain ⟨a,e,q⟩:=q1
 subst e
 cases r1
 have fo:∀ b ∈ [s1.heap.objs.size],xK X pins H1 b:=fun b hb=>by
  have e:b=s1.heap.objs.size:=by simpa using hb
  subst e
  exact I1.fpOk (aJ _) (I1.hok.fresh (aJ _))
 rcases q with ⟨⟨xs,hq⟩,q⟩ | ⟨⟨xs,hq⟩,q⟩
 ·obtain ⟨its,rv,p,hz⟩:=I1.list hq
  refine fq p.isList ?_
  exact ⟨s1.heap.objs.size,[s1.heap.objs.size],_,_,H1,rfl,I1.kept (t':=s1.toks) fun b o e=>ay _ e,VB a _,⟨_,aQ _ rfl,rfl,rfl⟩,fo,q⟩
 ·obtain ⟨its,rv,p,hz⟩:=I1.tuple hq
  refine eT (show s1.heap.IsTuple a its.toArray from p) ?_
  exact ⟨s1.heap.objs.size,[s1.heap.objs.size],_,_,H1,rfl,I1.kept (t':=s1.toks) fun b o e=>ay _ e,vA a _,⟨_,aQ _ rfl,rfl,rfl⟩,fo,q⟩
section
variable {X:Cx}
theorem Ka:bK "sum"=some (.builtin "sum"):=by decide +kernel
theorem wq:∀ {ns:List Int} {us:List aj},zw (ns.map V.int) us->∃ ps:List (Int × Tok),us=ps.map (fun p=>aj.int p.1 p.2)/\ps.map (·.1)=ns
 | [],_,h=>by cases h;exact ⟨[],rfl,rfl⟩
 | n :: ns,_,h=>by
  cases h with
  | cons r rs=>
   obtain ⟨ps,e1,e2⟩:=wq rs
   obtain ⟨t,rfl⟩:=r
   exact ⟨(n,t) :: ps,by rw [e1];rfl,by rw [<- e2];rfl⟩
theorem B6 {ps:List (Int × Tok)} (h:i<ps.length):numAt ps.toArray i=(ps.map (·.1)).getD i 0:=by
 unfold numAt
 rw [aq,aD,fg]
theorem ZJ {ps:List (Int × Tok)}:∀ k,k<=ps.length->preSum (numAt ps.toArray) k=((ps.map (·.1)).take k).sum
 | 0,_=>rfl
 | k+1,h=>by
  show preSum (numAt ps.toArray) k+numAt ps.toArray k=_
  rw [ZJ k (by omega),B6 (by omega)]
  have hk:k<(ps.map (·.1)).length:=by rw [az];omega
  rw [XU hk,<- List.take_append_getElem hk,List.sum_append]
  simp
theorem AC:∀ {ns:List Int},(∀ x ∈ ns,0<=x/\x<=(1000000:Int))->0<=ns.sum/\ns.sum<=1000000 * (ns.length:Int)
 | [],_=>by simp
 | n :: ns,h=>by
  have h1:=h n (by simp)
  have h2:=AC (ns:=ns) fun x hx=>h x (by simp [hx])
  rw [gU,aN]
  omega
theorem yx (hc:X.calm=true):qG X (.builtin "sum") (fun xs H Q=>∃ p ns,xs=[.ref p]/\SqL X.K H p (bp V.int ns)/\(∀ x ∈ ns,0<=x/\x<=(1000000:Int))/\ns.length<=100000/\Q (.int ns.sum) H):=by
  intro pins s σ H xs us Q I r h
  obtain ⟨p,ns,rfl,hq,hb,hl,q⟩:=h
  obtain ⟨u,rfl,rx⟩:=jZ r
  cases rx
  obtain ⟨its,rv,pl,hz⟩:=I.list hq
  obtain ⟨ps,rfl,rfl⟩:=wq rv
  rw [az] at hl
  have hL:s.heap.IsList p (intItems ps.toArray):=by
    have:=pl.isList
    unfold intItems
    simpa using this
  refine sum_intList (I.ok.hd hc) hL (fun j hj=>?_) fun h' tk t' hk=>?_
  · have hj':j<ps.length:=by simpa using hj
    rw [B6 hj',ZJ (j+1) (by omega)]
    have hjm:j<(ps.map (·.1)).length:=by rw [az];exact hj'
    have b1:=hb ((ps.map (·.1)).getD j 0) (by rw [XU hjm];exact bh hjm)
    have b2:=AC (ns:=(ps.map (·.1)).take (j+1)) fun x hx=>hb x (mO hx)
    rw [cg,az] at b2
    constructor
    · constructor <;> omega
    · constructor <;> omega
  · have es : preSum (numAt ps.toArray) ps.toArray.size = (ps.map (·.1)).sum := by
      rw [aG,ZJ _ (aJ _),lX (by rw [az];exact aJ _)]
    rw [es]
    exact ⟨.int (ps.map (·.1)).sum,H,I.turnedL (ch:=[]) (tk:=tk) (fun b hb=>nomatch hb) (fun b o _ eb=>hk b o eb),⟨t',rfl⟩,q⟩
end
section
variable {X:Cx}
end
theorem wO:MtR X "list.extend" vh:=VE
section
variable {prog:aX}{w:bB}{A:bj}{R:nu->au->Prop}{s:au}
end
def CL (J:It)(g:TG)(tt:TT)(tr:St->Hp->(St->Hp->Prop)->Prop)(N:St->Hp->Prop)(σ:St)(H:Hp):Prop:=∃ W:Nat->Nat->St->Hp->Prop,(∃ m,W 0 m σ H)/\∀ i m τ H2,W i m τ H2 ->
 (J.stop i H2/\N τ H2) \/ (J.go i H2/\∃ N1:St->Hp->Prop,(∀ τ' H',N1 τ' H'->∃ m',m'<m/\W (i+1) m' τ' H')/\∀ x H',J.yld i H2 x H'->g x τ H' fun τ2 H3=>tt τ2 H3 fun b H4=>
  if b=true then tr τ2 H4 N1 else N1 τ2 H4)
abbrev TR:=St->Hp->(St->Hp->Prop)->Prop
noncomputable def Ko (te:TE)(D:aw):TR:=fun σ H N=>te σ H fun v H5=>∃ ys,H5 D=some (.lst ys)/\ys.length<aM/\N σ (upd H5 D (.lst (ys ++ [v])))
noncomputable def Hy (wi:TI)(g:TG)(tt:TT)(tr:aw->TR)(D:aw):TR:=fun σ H N=>wi σ H fun J H1=>CL J g tt (tr D) N σ H1
section
variable {C:Cx}{elt tg iter:Expr}{ifs:List Expr}{gens:List dG}{scope:Scope}{pos:Pos}{d:Nat}{D:aw}{g:TG}{tt:TT}{te:TE}{tr:TR}
end
noncomputable def W1 (ts:List Nat)(wi:TI)(g:TG)(tt:TT)(tr:aw->TR):TE:=fun σ H Q=>wi σ H fun J H1=>∀ D,H1 D=none->CL J g tt (tr D) (fun _ H2=>Q (.ref D) H2) (clr ts σ) (upd H1 D (.lst []))
section
variable {X:Cx}{ts:List Nat}{scope:Scope}{tg iter elt:Expr}{ifs:List Expr}{qi:List dG}{wi:TI}{g:TG}{tt:TT}{tr:aw->TR}{pos:Pos}
end
theorem Y5 {tr:aw->TR}:
  W1 ts wi g tt tr σ H Q=wi σ H (fun J H1=>∀ D,H1 D=none->CL J g tt (tr D) (fun _ H2=>Q (.ref D) H2) (clr ts σ) (upd H1 D (.lst []))):=rfl
theorem Y7 {tr:aw->TR}{D:aw} {N:St->Hp->Prop}:Hy wi g tt tr D σ H N=wi σ H (fun J H1=>CL J g tt (tr D) N σ H1):=rfl
theorem VV {D:aw} {N:St->Hp->Prop}:Ko te D σ H N=te σ H (fun v H5=>∃ ys,H5 D=some (.lst ys)/\ys.length<aM/\N σ (upd H5 D (.lst (ys ++ [v])))):=rfl
section
variable {P:aX}{w:bB}{A:bj}{E:aj->au->Prop}{it l:aw}{items:Array aj}
end
section
variable {X:Cx}{pos:Pos}
end
noncomputable def rep (o:Nat)(G:List Int):List Int:=(bT (o * G.length)).map fun (i:Nat)=>((i / G.length * G.length:Nat):Int)+G.getD (i % G.length) 0
section
variable {P:aX}{w:bB}{A:bj}{E:aj->au->Prop}{s:au}{z TI TO i1 i2 l1 l2:aw}{k:Nat}{xs ys:Array aj}{x y a b:aj}{Q:Option aj->au->Prop}
end
open AutoSeq1 (wpAny_loadPart') in
section
variable {X:Cx}{es:List Expr}{kt:Nat}{tp:Pos}
end
noncomputable def slV (xs:List V)(lo hi st:Option Int):List V:=(gN (cj lo hi st xs.length).1 (cj lo hi st xs.length).2.1 (cj lo hi st xs.length).2.2).filterMap fun k=>xs[k]?
theorem Zb {xs:List V}{us:List aj}(r:zw xs us):∀ ks:List Nat,zw (ks.filterMap fun k=>xs[k]?) (ks.filterMap fun k=>us[k]?)
 | []=>.nil
 | k :: ks=>by
  have ih:=Zb r ks
  have hl:=r.length
  by_cases h:k<xs.length
  ·have e1:xs[k]?=some xs[k]:=af h
   obtain ⟨u,hu,ru⟩:=r.get e1
   rw [dH e1,dH hu]
   exact .cons ru ih
  ·have e1:xs[k]?=none:=bA (by omega)
   have e2:us[k]?=none:=bA (by omega)
   rw [lf e1,lf e2]
   exact ih
section
variable {X:Cx}{e st:Expr}{te:TE}{lo hi:Option Expr}{tl th ts:TO}{p2 pos:Pos}
end
theorem wU (h:X.K=K):qG X (.builtin "isinstance") (fun xs H Q=>∃ x t c b,xs=[x,.ty c]/\kR K H x (.type t)/\isT t c=some b/\Q (.bl b) H):=h ▸ jp
section
variable {X:Cx}
variable {o e:Expr}{es:List Expr}{to:TE}{t:TA}{name:Str}{apos cpos:Pos}{T id:String}{r:V->List V->Hp->VK->Prop}{K:ax}
theorem LO (hK:X.K=K)(pa:PlainAttrs T)(slot:Slot T name id)(hty:typeOf (.builtin id)=pure (.type "method_descriptor"))(hm:MtR X id r)(ho:PE X o to)(ha:PA X (e :: es) t)
  (h1:eE o name X.env (eval o X.env)=eval o X.env:=by rfl)
  (h2:((cG cpos (aW (e :: es) X.env)).all (fun x=>!x.1) && (fV cpos (dU [] X.env)).all (fun x=>x.1.isSome) && decide ((e :: es).length+([]:List iX).length+(if ([]:List iX).isEmpty then 0 else 1)<30))=true:=by rfl)
  (h3:(apos.endLine == cpos.line)=true:=by rfl) (h4:aW (e :: es) X.env=(false,eval e X.env) :: aW es X.env:=by rfl) (h5:(cG cpos (aW es X.env)).any (·.1)=false:=by rfl) :
  PE X (.Call (.Attribute o name apos) (e :: es) [] cpos) (tBM K T r to t):=by
 subst hK
 exact Yc pa slot hty hm ho ha h1 h2 h3 h4 h5
end
section
variable {X:Cx}{tg:Expr}
end
inductive Dd where
 | take (p:Nat) | move (p g:Nat) | lay (g:Nat)
abbrev RS:=List (Option Int) × Option Int × List Int
noncomputable def inc (mv:List Int)(x:Int):List Int:=mv.set x.toNat (mv.getD x.toNat 0+1)
inductive Do:Dd->RS->RS->Prop
 | take {p:Nat} {row:List (Option Int)} {mv:List Int} {x:Int}:row[p]?=some (some x)->Do (.take p) (row,none,mv) (row.set p none,some x,inc mv x)
 | move {p g:Nat} {row:List (Option Int)} {h:Option Int} {mv:List Int} {x:Int}:row[p]?=some (some x)->row[g]?=some none->Do (.move p g) (row,h,mv) ((row.set p none).set g (some x),h,inc mv x)
 | lay {g:Nat} {row:List (Option Int)} {mv:List Int} {x:Int}:row[g]?=some none->Do (.lay g) (row,some x,mv) (row.set g (some x),none,inc mv x)
inductive Dos:List Dd->RS->RS->Prop
 | nil {s:RS}:Dos [] s s
 | cons {d:Dd} {l:List Dd} {s t u:RS}:Do d s t->Dos l t u->Dos (d :: l) s u
section
variable {X:Cx}{K:ax}
end
section
variable {X:Cx}
end
section
variable {X:Cx}
end
variable {prog:aX} {vl vu vs:aj} {n:Nat}
theorem yy {E:aj->au->Prop} {sl:aw} {Q:Int × Int × Nat->au->Prop}(hs:s.heap.IsSliceOf sl vl vu vs)(pl:eX vl none)(pu:eX vu none)(ps:eX vs (some (-1)))
  (h:Q ((n:Int) - 1,-1,n) s):aK (aL prog w) A (cM (.ref sl) (pure (n:Int))) Q E s:=by
 obtain ⟨os,hos,hcs,hds⟩:=id hs
 unfold cM fO
 refine am (am (bO hos hds (x:=vl) rfl (am (bO hos hds (x:=vu) rfl (am (bO hos hds (x:=vs) rfl (aA ?_)))))))
 refine am (HT.slicePart_ ps ?_)
 show aK _ _ (if ((-1:Int) == 0)=true then _ else _) _ _ s
 rw [if_neg (by decide)]
 refine am (HT.slicePart_ pl (am (HT.slicePart_ pu (am (aA ?_)))))
 show aK _ _ (pure ((n:Int) - 1,(-1:Int),bP ((n:Int) - 1) (-1) (-1))) _ _ s
 have e:bP ((n:Int) - 1) (-1) (-1)=n:=by
  unfold bP
  rw [if_neg (by decide)]
  split
  ·rw [show - -(1:Int)=1 from rfl,lO];omega
  ·omega
 rw [e]
 exact aA h
theorem DB (xs:List aj):((bT xs.length).filterMap fun (m:Nat)=>xs.toArray[(((xs.length:Int) - 1)+(m:Int) * -1).toNat]?)=xs.reverse:=by
 have go:∀ (ks:List Nat),(∀ k ∈ ks,k<xs.length)->(ks.filterMap fun (m:Nat)=>xs.toArray[(((xs.length:Int) - 1)+(m:Int) * -1).toNat]?)=ks.map fun k=>xs.reverse.getD k .none:=by
  intro ks
  induction ks with
  | nil=>intro _;rfl
  | cons k ks ih=>
   intro hk
   have h0:=hk k (by simp)
   have e1:(((xs.length:Int) - 1)+(k:Int) * -1).toNat=xs.length - 1 - k:=by omega
   have e2:xs.toArray[(((xs.length:Int) - 1)+(k:Int) * -1).toNat]?=some (xs.reverse.getD k .none):=by
    rw [e1,fg,aq,ei h0,af (by omega)];rfl
   rw [dH (f:=fun (m:Nat)=>xs.toArray[(((xs.length:Int) - 1)+(m:Int) * -1).toNat]?) e2,ih fun j hj=>hk j (by simp [hj])];rfl
 rw [go _ fun k hk=>by simpa using hk]
 refine dM fun i=>?_
 rw [aD]
 by_cases h:i<xs.length
 ·rw [cF h,af (by rw [bn];exact h)]
  show some (xs.reverse.getD i .none)=_
  rw [aq,af (by rw [bn];exact h)];rfl
 ·rw [bA (by rw [cK];omega),bA (by rw [bn];omega)];rfl
theorem yk {E:aj->au->Prop} {t sl:aw}{xs:List aj} {Q:aj->au->Prop}(ht:nH s.heap t xs.toArray)(hs:s.heap.IsSliceOf sl vl vu vs)(pl:eX vl none)(pu:eX vu none)(ps:eX vs (some (-1)))
  (h:Q (.ref s.heap.objs.size) { s with heap:=s.heap.push { cls:=.type "tuple",data:=.seq xs.reverse.toArray } })
  (hsz:xs.length<=aM):aK (aL prog w) A (fZ (.ref t) (.ref sl)) Q E s:=by
 have htake:sizeOk (.seq xs.reverse.toArray):=by
  show xs.reverse.toArray.size<=aM
  rw [aG,bn];exact hsz
 obtain ⟨os,hos,hcs,hds⟩:=id hs
 have hTs:s.TypeIs (.ref sl) "slice":=⟨os,hos,hcs⟩
 unfold fZ
 try with_reducible refine cq ?_
 first | refine am (aA ?_) | skip
 refine am (iY ht.typeIs (by decide) ?_)
 refine am (cy (name:=ap "__getitem__") ht.typeIs bG
  (df bG ht.typeIs gE ?_ (gI _ _)))
 show aK _ _ (fC (.ref t) >>= _) _ _ s
 refine am (tupleItemsOf_ ht ?_)
 refine am (ib hTs ?_)
 rw [if_pos (by decide)]
 refine am (yy hs pl pu ps ?_)
 have hno:¬ ((((xs.toArray.size:Int) - 1) == 0 && (-1:Int) == 1 && xs.toArray.size == xs.toArray.size)=true):=by
  intro q
  rw [b7,b7] at q
  exact absurd q.1.2 (by decide)
 show aK _ _ (if (((xs.toArray.size:Int) - 1) == 0 && (-1:Int) == 1 && xs.toArray.size == xs.toArray.size)=true then _ else _) _ _ s
 have ep:=DB xs
 rw [if_neg hno]
 rw [aG]
 rw [ep]
 first
  | exact am (m:=bF _) (bI (aA ⟨_,rfl,aA h⟩) htake)
  | exact am (m:=bF _) (bI (am (aA (aA ⟨_,rfl,aA h⟩))) htake)
  | exact am (am (m:=bF _) (bI (aA (aA ⟨_,rfl,aA h⟩)) htake))
  | exact am (am (m:=bF _) (bI (aA ⟨_,rfl,aA h⟩) htake))
theorem E8 (xs:List V):slV xs none none (some (-1))=xs.reverse:=by
 have hb:cj none none (some (-1)) xs.length=((xs.length:Int) - 1,-1,-1):=rfl
 unfold slV
 rw [hb]
 have key:gN ((xs.length:Int) - 1) (-1) (-1)=(bT xs.length).map fun k=>xs.length - 1 - k:=by
  unfold gN
  dsimp only
  rw [if_neg (by decide)]
  have hc:((if (xs.length:Int) - 1 > -1 then ((xs.length:Int) - 1 - -1 - -1 - 1) / - -1 else 0).toNat)=xs.length:=by
   split
   ·rw [show - -(1:Int)=1 from rfl,lO];omega
   ·omega
  rw [hc]
  refine eM fun k hk=>?_
  have:k<xs.length:=by simpa using hk
  omega
 show iF (fun k=>xs[k]?) (gN ((xs.length:Int) - 1) (-1) (-1))=_
 rw [key,nz]
 have go:∀ (ks:List Nat),(∀ k ∈ ks,k<xs.length)->iF ((fun k=>xs[k]?) ∘ fun k=>xs.length - 1 - k) ks=ks.map fun k=>xs.reverse.getD k .non:=by
  intro ks
  induction ks with
  | nil=>intro _;rfl
  | cons k ks ih=>
   intro hk
   have h0:=hk k (by simp)
   have e2:((fun k=>xs[k]?) ∘ fun k=>xs.length - 1 - k) k=some (xs.reverse.getD k .non):=by
    show xs[xs.length - 1 - k]?=_
    rw [aq,ei h0,af (by omega)];rfl
   rw [dH e2,ih fun j hj=>hk j (by simp [hj])];rfl
 rw [go _ fun k hk=>by simpa using hk]
 refine dM fun i=>?_
 rw [aD]
 by_cases h:i<xs.length
 ·rw [cF h,af (by rw [bn];exact h)]
  show some (xs.reverse.getD i .non)=_
  rw [aq,af (by rw [bn];exact h)];rfl
 ·rw [bA (by rw [cK];omega),bA (by rw [bn];omega)];rfl
theorem zw.rev {xs:List V}{us:List aj}(r:zw xs us):zw xs.reverse us.reverse:=by
 induction r with
 | nil=>exact .nil
 | cons h _ ih=>rw [nT,nT];exact ih.append (.cons h .nil)
noncomputable def En (K:ax):V->Hp->VK->Prop:=fun x H Q=>∃ a xs,x=.ref a/\((SqL K H a xs/\∀ p,H p=none->Q (.ref p) (upd H p (.lst xs.reverse))) \/ (SqT K H a xs/\∀ p,H p=none->Q (.ref p) (upd H p (.tup xs.reverse))))
noncomputable def LM (K:ax)(te:TE)(ts:TO):TE:=fun σ H Q=>te σ H fun x H1=>ts σ H1 fun z H2=>z=some (-1)/\En K x H2 Q
section
variable {X:Cx}{e st:Expr}{te:TE}{ts:TO}{p2 pos:Pos}
theorem Zl (he:PE X e te)(hst:PO X (some st) ts):PE X (.Subscript e (.Slice none none (some st) p2) pos) (LM X.K te ts):=by
 intro pins s σ H Q I h
 refine lR (thn (he pins s σ H _ I h) fun v s1 ⟨x,H1,I1,r1,q1⟩=>?_)
 refine wpAny_Slice (thn (zF pins s1 σ H1 (fun z H2=>z=none/\ts σ H2 fun z H2=>z=some (-1)/\En X.K x H2 Q) I1 ⟨rfl,q1⟩) fun vl s2 ⟨l,H2,I2,pl,e1,q2⟩=>thn (zF pins s2 σ H2 (fun z H3=>z=none/\ts σ H3 fun z H2=>z=some (-1)/\En X.K x H2 Q) I2 ⟨rfl,q2⟩) fun vu s3 ⟨u,H3,I3,pu,e2,q3⟩=>thn (hst pins s3 σ H3 _ I3 q3) fun vs s4 ⟨z,H4,I4,pz,e3,q4⟩=>?_)
 subst e1 e2 e3
 have I5:Inv X pins σ H4 { s4 with heap:=s4.heap.push { cls:=.type "slice",data:=.fields #[vl,vu,vs] } }:=I4.kept (t':=s4.toks) fun b ob q=>ay _ q
 obtain ⟨a,xs,rfl,q⟩:=q4
 cases r1
 rcases q with ⟨hx,q⟩ | ⟨hx,q⟩
 ·obtain ⟨its,r,ht,hz⟩:=I5.list hx
  have hlen:=r.length
  show aK (aL X.prog X.w) X.A (fX e (.Slice none none (some st) p2) (.ref a) (.ref s4.heap.objs.size)) (EP X pins σ Q) X.xe { s4 with heap:=s4.heap.push { cls:=.type "slice",data:=.fields #[vl,vu,vs] } }
  refine tail_any (ops:=[.ref a,.ref s4.heap.objs.size]) ht.isList.typeIs iZ.lookup ?_ rfl
  refine i7 ht.isList (gj ..) pl pu pz (by decide) ?_ (by rw [aG];omega)
  have e1:oo its.toArray none none (some (-1))=(iF (fun x=>its[x]?) (gN (cj none none (some (-1)) xs.length).1 (cj none none (some (-1)) xs.length).2.1 (cj none none (some (-1)) xs.length).2.2)).toArray:=by
   unfold oo
   rw [aG,<- hlen]
   simp only [fg]
  rw [e1]
  have rr:=Zb r (gN (cj none none (some (-1)) xs.length).1 (cj none none (some (-1)) xs.length).2.1 (cj none none (some (-1)) xs.length).2.2)
  have er:(iF (fun k=>xs[k]?) (gN (cj none none (some (-1)) xs.length).1 (cj none none (some (-1)) xs.length).2.1 (cj none none (some (-1)) xs.length).2.2))=xs.reverse:=E8 xs
  rw [er] at rr
  refine ⟨.ref _,_,I5.laid (t':=s4.toks) (o:=.lst xs.reverse) (fun b ob q=>ay _ q) (aJ _) ?_,rfl,q _ (I5.hok.fresh (aJ _))⟩
  refine ⟨?_,_,0,rr,aQ _ rfl⟩
  rw [bn];exact hz
 ·obtain ⟨its,r,ht,hz⟩:=I5.tuple hx
  show aK (aL X.prog X.w) X.A (fX e (.Slice none none (some st) p2) (.ref a) (.ref s4.heap.objs.size)) (EP X pins σ Q) X.xe { s4 with heap:=s4.heap.push { cls:=.type "slice",data:=.fields #[vl,vu,vs] } }
  refine tail_any (ops:=[.ref a,.ref s4.heap.objs.size]) ht.typeIs bG.lookup ?_ rfl
  refine yk ht (gj ..) pl pu pz ?_ (by rw [<- r.length];exact hz)
  refine ⟨.ref _,_,I5.laid (t':=s4.toks) (o:=.tup xs.reverse) (fun b ob q=>ay _ q) (aJ _) ?_,rfl,q _ (I5.hok.fresh (aJ _))⟩
  exact ⟨by rw [bn];exact hz,_,zw.rev r,y9.new _ _⟩
end
section
variable {X:Cx}
end
def AtM (K:ax)(C:aw)(m qual:Str)(st:de):Prop:=∃ f fd,Fun K m qual st f fd/\Kk K C m f
def Dm (P:aX)(w:bB)(K:ax)(mg:Str->Option aj)(base:Heap)(C:aw)(m:Str)(ps:List Str)(k:Nat)(sp:Sp):Prop:=
 ∃ f fd,js P w K mg base CX0 k f fd ps sp/\jt K fd ps []/\Kk K C m f
variable {C:aw} {m:Str}
theorem Dm.mono (D:Dm P w K mg base C m ps j sp)(h:j<=k):Dm P w K mg base C m ps k sp:=
 let ⟨f,fd,F,r⟩:=D
 ⟨f,fd,F.mono h,r⟩
theorem Hx (a:AtM K C m qual st)(S:zr N ps (zf st))
  (hb:∀ (kV doc pm:aj) (an:Option aw) (cdv ct:aj) (us:List aj),us.length=ps.length->fA (bY m qual (qp st) (zP st) (zf st) .none kV doc pm an cdv ct) ⟨us,[]⟩=pure (ps.zip us))
  (len:∀ vs H Q E,sp vs H Q E->vs.length=ps.length)
  (hbody:∀ (f:aw) (cdv:aj) (A:bj) (outer:List Env) (s:au) (H:Hp) (vs:List V) (Q:VK) (E:XK),qk k (A.deeper (fT qual (zf st) s.heap.objs.size f cdv))->sp vs H Q E ->
   ∃ t,PSs (jA CX0 P w K mg base N qual (zf st) f cdv A outer s H E).nox (zP st) t/\t { nx:=fun _ H'=>Q .non H',rt:=Q } (start N vs) H):Dm P w K mg base C m ps (k+1) sp:=by
 obtain ⟨f,fd,F,mt⟩:=a
 exact ⟨f,fd,F.ok S len fun cdv A outer s H vs Q E=>hbody f cdv A outer s H vs Q E,F.binds hb,mt⟩
section
variable {X:Cx}{k:Nat}{C:aw}{m x:Str}{ps:List Str}{sp:Sp}{p pos apos:Pos}{o e:Expr}{es:List Expr}{t:TA}{to:TE}
variable {pl:Sem Bool}
theorem Nl (c:Cls X.K C)(D:Dm X.prog X.w X.K X.mg X.base C m ps k sp)(hr:qk k X.A)(ho:PE X o to)(ha:PA X (e :: es) t)
  (hst:aW (e :: es) X.env=(false,eval e X.env) :: aW es X.env:=by rfl) (hpl:(cG pos (aW es X.env)).any (·.1)=false:=by rfl)
  (ht:eval (.Call (.Attribute o m apos) (e :: es) [] pos) X.env=(do
   let ov <- eval o X.env
   iS apos.atName
   let (f,first) <- holding [ov] (getMethod ov m pl)
   gY pos f first (cG pos (aW (e :: es) X.env)) (fV pos (dU [] X.env))):=by rfl) :
  PE X (.Call (.Attribute o m apos) (e :: es) [] pos) (Zf C m sp [] E0 to t):=by
 obtain ⟨f,fd,F,b,mt⟩:=D
 exact GB ho c mt F hr b .nil Xu ha hst hpl ht
theorem LG (c:Cls X.K C)(D:Dm X.prog X.w X.K X.mg X.base C m ps k sp)(hr:qk k X.A)(ho:PE X o to)
  (ht:eval (.Call (.Attribute o m apos) [] [] pos) X.env=(do
   let ov <- eval o X.env
   iS apos.atName
   let (f,first) <- holding [ov] (getMethod ov m pl)
   gY pos f first (cG pos (aW [] X.env)) (fV pos (dU [] X.env))):=by rfl) :
  PE X (.Call (.Attribute o m apos) [] [] pos) (Zf C m sp [] E0 to vF):=by
 obtain ⟨f,fd,F,b,mt⟩:=D
 exact D8 ho c mt F hr b .nil Xu ht
def Mkr (P:aX)(w:bB)(K:ax)(mg:Str->Option aj)(base:Heap)(x:Str)(C:aw)(ps:List Str)(k:Nat)(sp:Sp):Prop:=
 ∃ f fd,js P w K mg base CX0 k f fd ps sp/\jt K fd ps []/\Mk K C f/\mg x=some (.ref C)
theorem MT (D:Mkr X.prog X.w X.K X.mg X.base x C ps k sp)(hr:qk (k+1) X.A)(hg:Gl X x)(ha:PA X (e :: es) t)(hdb:(x == ("__debug__":Str))=false:=by decide)
  (he:aW (e :: es) X.env=(false,eval e X.env) :: aW es X.env:=by rfl) (hpl:(cG pos (aW es X.env)).any (·.1)=false:=by rfl):PE X (.Call (.Name x p) (e :: es) [] pos) (Xo C sp [] E0 t):=by
 obtain ⟨f,fd,F,b,M,hm⟩:=D
 exact F2 M F hr hg hm b .nil Xu ha hdb he hpl
end
structure KD (K:ax)(w:bB)(a:aw)(kvs:List (Key × V)):Prop where
 ex:∃ es ep,K.lookup a=some ⟨.type "dict",none,.dict es ep,#[]⟩/\∀ P:aX,PySem.KeysOf (qc P w) es/\∃ vs,KV kvs vs/\Pairs (qc P w) es.toList vs/\(vs.map (·.1)).Nodup
 ns:(a == d7)=false
variable {pins:List (aw × Obj)}
theorem KD.at {kvs:List (Key × V)}(d:KD X.K X.w a kvs)(I:Inv X pins σ H s):∃ vs,KV kvs vs/\s.heap.DictOf (qc X.prog X.w) a vs:=by
 obtain ⟨es,ep,hl,h⟩:=d.ex
 obtain ⟨h1,vs,r,h2,h3⟩:=h X.prog
 exact ⟨vs,r,_,es,ep,I.kIn a _ hl,⟨rfl,rfl,rfl⟩,rfl,h1,h2,h3⟩
noncomputable def BZ (kvs:List (Key × V))(ty:TE):TE:=fun σ H Q=>ty σ H fun y H2=>∃ k,y=kV k/\Q ((kQ kvs k).getD .non) H2
section
variable {X:Cx}{e:Expr}{ty:TE}{p apos cpos:Pos}{x:Str}{a:aw}{kvs:List (Key × V)}
theorem EC (d:KD X.K X.w a kvs)(hg:Gl X x)(hm:X.mg x=some (.ref a))(he:PE X e ty)(m:M1 X (.Name x p) "get" apos e cpos)(hdb:(x == ("__debug__":Str))=false:=by decide):PE X (.Call (.Attribute (.Name x p) "get" apos) [e] [] cpos) (BZ kvs ty):=by
 intro pins s σ H Q I h
 refine wpAny_Call_method m.base m.few m.line PySem.F.plainAttrs_dict mD PySem.F.type_dict_get (jB I hg hm ?_ hdb)
 obtain ⟨vs0,_,dd0⟩:=d.at I
 refine ⟨dd0.typeIs,fun b q=>?_,?_⟩
 ·cases q
  obtain ⟨ob,_,_,h1,h2,_⟩:=dd0
  exact ⟨ob,h1,h2.2.1⟩
 rw [m.trees]
 refine lV rfl (fD (Calls.spliced_cons (thn (he pins s σ H _ I h) fun iv s2 ⟨y,H2,I2,ry,k,ey,q2⟩=>Calls.spliced_nil ?_)))
 subst ey
 obtain ⟨vs,rel,dd⟩:=d.at I2
 refine call_meetsIn mD dd.typeIs PySem.F.entry_dict_get (PySem.F.args_dict_get_2 _ _) (meets_dict_get (qc X.prog X.w) a (YD ry) d.ns) ⟨_,dd.mapOf,?_⟩
 refine ⟨(kQ kvs k).getD .non,H2,I2.tok _,?_,q2⟩
 exact (rel.val k).getD rfl
end
section
variable {X:Cx}
theorem xG:MD X (EQ X.K):=by
  intro pins s σ H x y v u Q I rx ry h
  obtain ⟨p,xs,i,z,rfl,rfl,hq,he,q⟩:=h
  cases rx
  obtain ⟨t,rfl⟩:=ry
  obtain ⟨its,r,pl,hz⟩:=I.list hq
  obtain ⟨j,h1,h2,h3,h4,h5⟩:=Qt he
  obtain ⟨w,ew,rw'⟩:=r.get h2
  have hl:=r.length
  have hn:=vP
  have fin:EP X pins σ Q w s:=⟨z,H,I,rw',q⟩
  by_cases h0:0<=i
  · have hj : i.toNat = j := by
      rw [mI h0 h5] at h1
      exact bC h1
    exact wpAny_getItem_list pl.isList h0 (by omega) (by rw [hj];simpa using ew) fin
  · have hj : (i + (its.toArray.size : Int)).toNat = j := by
      rw [lS (by omega) h4] at h1
      rw [aG,<- hl]
      exact bC h1
    exact lU pl.isList (by omega) (by rw [aG] <;> omega) (by omega) (by rw [hj];simpa using ew) fin
end
theorem atm_mk {oc kV dc pm cd ct:aj} {sl:Array (Option aj)}(a1:bo K (.ref C) m=some (some (.ref f)))(i1:dF K (.ref f)=true)
  (l1:K.lookup f=some ⟨oc,od,.func (bY m qual (qp st) (zP st) (zf st) .none kV dc pm an cd ct),sl⟩) (c1:fB K cd qual=true) (k1:dh K (.ref f)=true):AtM K C m qual st:=⟨f,_,fun_mk l1 c1 k1,⟨a1,i1,k1⟩⟩
section
variable {X:Cx}
noncomputable def Ky:V->List V->Hp->VK->Prop:=fun x vs H Q=>∃ l xs v,x=.ref l/\vs=[v]/\H l=some (.lst xs)/\xs.all xO=true/\xO v=true/\Q (.int ((xs.countP fun y=>eqV y v:Nat))) H
theorem Zg {x:V}:∀ {xs:List V} {us:List aj},zw xs us->xs.all xO=true->us.countP (eqU x)=xs.countP fun y=>eqV y x
 | _,_,.nil,_=>rfl
 | y :: xs,u :: us,.cons r t,f=>by
  rw [eG,b7] at f
  rw [ow,ow,Zg t f.2,DZ r f.1]
theorem DH:MtR X "list.count" Ky:=by
 intro pins s σ H x vs v us Q I rx rv h
 obtain ⟨l,xs,i,rfl,rfl,hH,hf,hi,q⟩:=h
 cases rx
 obtain ⟨u,rfl,ru⟩:=rv.one
 obtain ⟨z,its,n,r,hl,e⟩:=I.lstM hH
 refine lW F.slot_list_count ⟨_,e,rfl⟩ F.entry_list_count (F.args_list_count_2 _ _) (SeqAt.list_countAt l its.toArray n none _ u (eqU i)) ⟨e,?_,?_⟩
 ·intro y hy
  exact QT ru hi r hf y (by simpa using hy)
 ·refine ⟨.int ((xs.countP fun y=>eqV y i:Nat)),H,I.kept (t':=s.toks+1) fun b o e=>e,⟨s.toks,?_⟩,q⟩
  show aj.int ((its.countP (eqU i):Nat):Int) s.toks=_
  rw [Zg r hf]
end
structure ScG (X:Cx)(ts:List Nat)(scope:Scope):Prop where
 kind:scope.kind=.function
 cell:∀ y ∈ scope.names,y.2=.cell->scope.names.lookup y.1=some .cell
 loc:∀ y ∈ scope.names,y.2=.local->scope.names.lookup y.1=some .local
 free:∀ y ∈ scope.names,y.2=.free->X.env.kindOf y.1=some .cell \/ X.env.kindOf y.1=some .free
 ts:∀ (i:Nat) x,X.N[i]?=some x->scope.names.lookup x=some .local \/ scope.names.lookup x=some .cell->i ∈ ts
section
variable {X:Cx}{ts:List Nat}{scope:Scope}{pins:List (aw × Obj)}{σ:St}{H:Hp}{s:au}{fp:List aw}
end
section
variable {X:Cx}{ts:List Nat}{scope:Scope}{tg iter elt:Expr}{ifs:List Expr}{wi:TI}{g:TG}{tt:TT}{te:TE}{pos:Pos}
end
section
variable {X:Cx}
noncomputable def Lw (f:Bool->Bool->Bool):R2:=fun x y H Q=>∃ a b,x=.bl a/\y=.bl b/\Q (.bl (f a b)) H
theorem X1:OpR X (dY .IsNot) (Lw fun a b=>a != b):=by
 intro pins s σ H x y v u Q I rx ry h
 obtain ⟨a,b,rfl,rfl,q⟩:=h
 cases rx
 cases ry
 exact isnot_bool (Kb I q rfl)
end
inductive Dat where
 | non | bl (b:Bool) | int (i:Int) | str (x:Str) | ty (n:String) | lst (l:List Dat) | tup (l:List Dat) | rng (lo hi c:Int) | scr (K:ax) (l:List Int)
inductive AV where
 | d (x:Dat) | ref (a:aw)
inductive MO where
 | lst (l:List AV) | dK (kvs:List (Key × AV)) | ins (C:aw) (fs:List (Str × AV)) | exc (C:aw) (fs:List (Str × V)) | tb (R:Array aj->aw->Obj->Prop) | dT (kvs:List (List Key × AV))
noncomputable def Xa (a C:aw)(d:Option aw):HO:=.ext fun h=>∃ o,h.get? a=some o/\o.cls=.ref C/\o.dict=d/\∃ vs,o.data=.fields vs
abbrev MH:=aw->Option MO
abbrev ASt:=List (Option AV)
noncomputable def mup (M:MH)(a:aw)(o:MO):MH:=fun b=>if b=a then some o else M b
variable {M:MH} {o:MO}
theorem zk:mup M a o a=some o:=if_pos rfl
variable {b:aw}
theorem zn (h:b ≠ a):mup M a o b=M b:=if_neg h
theorem ZU {o u:MO}:mup (mup M a o) a u=mup M a u:=by
 funext b;unfold mup;split <;> rfl
abbrev Own:=aw->Prop
inductive Rep (H:Hp) (O:Own):V->Dat->Prop
 | non:Rep H O .non .non
 | bl {b:Bool}:Rep H O (.bl b) (.bl b)
 | int {i:Int}:Rep H O (.int i) (.int i)
 | str {x:Str}:Rep H O (.str x) (.str x)
 | ty {n:String}:Rep H O (.ty n) (.ty n)
 | lst {a:aw} {xs:List V} {l:List Dat}:¬ O a->H a=some (.lst xs)->xs.length=l.length->(∀ (i:Nat) x d,xs[i]?=some x->l[i]?=some d->Rep H O x d)->Rep H O (.ref a) (.lst l)
 | tup {a:aw} {xs:List V} {l:List Dat}:¬ O a->H a=some (.tup xs)->xs.length=l.length->(∀ (i:Nat) x d,xs[i]?=some x->l[i]?=some d->Rep H O x d)->Rep H O (.ref a) (.tup l)
 | rng {a:aw} {lo hi c:Int}:¬ O a->H a=some (JY a lo hi c)->Rep H O (.ref a) (.rng lo hi c)
 | scr {a:aw} {K:ax} {l:List Int}:¬ O a->Rd H a (.lst (l.map V.int))->Rep H O (.ref a) (.scr K l)
 | scrK {a:aw} {K:ax} {l:List Int}:SqL K (fun _=>none) a (l.map V.int)->Rep H O (.ref a) (.scr K l)
def Y9 (H:Hp)(O:Own)(xs:List V)(l:List Dat):Prop:=xs.length=l.length/\∀ (i:Nat) x d,xs[i]?=some x->l[i]?=some d->Rep H O x d
noncomputable def zq (H:Hp)(O:Own)(M:MH)(v:V):AV->Prop
 | .d x=>Rep H O v x
 | .ref a=>v=.ref a/\M a ≠ none
def zi (H:Hp)(O:Own)(M:MH)(xs:List V)(l:List AV):Prop:=xs.length=l.length/\∀ (i:Nat) x d,xs[i]?=some x->l[i]?=some d->zq H O M x d
def jr {κ:Type}(H:Hp)(O:Own)(M:MH)(xs:List (κ × V))(l:List (κ × AV)):Prop:=xs.map (·.1)=l.map (·.1)/\zi H O M (xs.map (·.2)) (l.map (·.2))
noncomputable def qX (H:Hp)(O:Own)(M:MH)(a:aw):MO->Prop
 | .lst l=>∃ xs,H a=some (.lst xs)/\zi H O M xs l
 | .dK kvs=>∃ xs,H a=some (.dK xs)/\jr H O M xs kvs
 | .dT kvs=>∃ xs,H a=some (.dT xs)/\jr H O M xs kvs
 | .ins C fs=>∃ dx xs,H a=some (.ins C dx xs)/\jr H O M xs fs/\O dx/\M dx=none/\H dx=some (.own a)
 | .exc C fs=>∃ d,H a=some (Xa a C d)/\(d=none/\fs=[] \/ ∃ dx,d=some dx/\H dx=some (.xd fs)/\O dx/\M dx=none)
 | .tb R=>∃ ps,H a=some (.tbl ps)/\(ps=#[] \/ ∃ c oc u,R ps c oc/\¬ O c/\H c=some (.frz oc u))
structure Wf (H:Hp)(O:Own)(M:MH):Prop where
 mo:∀ a o,M a=some o->qX H O M a o
 own:∀ a,M a ≠ none->O a
 al:∀ a,O a->∃ o,H a=some o/\∀ xs,o ≠ .tup xs
variable {O:Own}
theorem Wf.ne (w:Wf H O M)(a:aw)(h:O a):H a ≠ none:=by obtain ⟨o,e,_⟩:=w.al a h;rw [e];exact fun z=>nomatch z
structure Ext (H:Hp)(O:Own)(M:MH)(H':Hp)(O':Own)(M':MH):Prop where
 fix:∀ a o,¬ O a->H a=some o->H' a=some o/\¬ O' a
 prv:∀ a,O a->M a=none->H' a=H a/\O' a/\M' a=none
 mst:∀ a,M a ≠ none->M' a ≠ none
theorem Ext.refl:Ext H O M H O M:=⟨fun _ _ h e=>⟨e,h⟩,fun _ h e=>⟨rfl,h,e⟩,fun _ h=>h⟩
variable {O1 O2:Own}
theorem Ext.trans {M M1 M2:MH}(a:Ext H O M H1 O1 M1)(b:Ext H1 O1 M1 H2 O2 M2):Ext H O M H2 O2 M2:=
 ⟨fun x o h e=>let ⟨e1,h1⟩:=a.fix x o h e;b.fix x o h1 e1,fun x h e=>by
  obtain ⟨e1,h1,n1⟩:=a.prv x h e
  obtain ⟨e2,h2,n2⟩:=b.prv x h1 n1
  exact ⟨e2.trans e1,h2,n2⟩,fun x h=>b.mst x (a.mst x h)⟩
theorem Rep.imp {H H':Hp}{O O':Own}(k:∀ a o,¬ O a->H a=some o->H' a=some o/\¬ O' a){v:V}{d:Dat}(r:Rep H O v d):Rep H' O' v d:=by
 induction r with
 | non=>exact .non
 | bl=>exact .bl
 | int=>exact .int
 | str=>exact .str
 | ty=>exact .ty
 | lst h e l _ ih=>exact .lst (k _ _ h e).2 (k _ _ h e).1 l ih
 | tup h e l _ ih=>exact .tup (k _ _ h e).2 (k _ _ h e).1 l ih
 | rng h e=>exact .rng (k _ _ h e).2 (k _ _ h e).1
 | scr h e=>
  rcases e with e | ⟨o,e⟩
  ·exact .scr (k _ _ h e).2 (.inl (k _ _ h e).1)
  ·exact .scr (k _ _ h e).2 (.inr ⟨o,(k _ _ h e).1⟩)
 | scrK h=>exact .scrK h
theorem EH {H:Hp}{O:Own}{K:ax}{v:V}{l:List Int}(r:Rep H O v (.scr K l)):∃ a,v=.ref a/\SqL K H a (l.map V.int):=by
 cases r with
 | @scr a _ _ _ h=>exact ⟨a,rfl,.inl h⟩
 | @scrK a _ _ h=>
  rcases h with (h | ⟨o,h⟩) | h
  ·cases h
  ·cases h
  ·exact ⟨a,rfl,.inr h⟩
theorem Gs {l:List Int}(ho:∀ a,¬ O a)(h:SqL K H a (l.map V.int)):Rep H O (.ref a) (.scr K l):=by
 rcases h with h | h
 ·exact .scr (ho a) h
 ·exact .scrK (.inr h)
variable {H':Hp} {O':Own} {M':MH} {v:V} {d:Dat}
theorem Rep.ext (k:Ext H O M H' O' M') (r:Rep H O v d):Rep H' O' v d:=r.imp k.fix
theorem zq.ext {H H':Hp}{O O':Own}{M M':MH}(k:Ext H O M H' O' M'){v:V}{x:AV}(r:zq H O M v x):zq H' O' M' v x:=by
 cases x with
 | d x=>exact Rep.ext k r
 | ref a=>exact ⟨r.1,k.mst a r.2⟩
theorem zi.ext (k:Ext H O M H' O' M') {l:List AV}(r:zi H O M xs l):zi H' O' M' xs l:=⟨r.1,fun i x d e1 e2=>(r.2 i x d e1 e2).ext k⟩
theorem jr.ext {κ:Type} (k:Ext H O M H' O' M'){xs:List (κ × V)}{l:List (κ × AV)}(r:jr H O M xs l):jr H' O' M' xs l:=⟨r.1,r.2.ext k⟩
theorem zi.nil:zi H O M [] []:=⟨rfl,fun i x d e=>by simp at e⟩
theorem zi.cons {x:V}{d:AV} {l:List AV}(h:zq H O M x d)(r:zi H O M xs l):zi H O M (x :: xs) (d :: l):=
 ⟨by simp [r.1],fun i y e h1 h2=>by
  cases i with
  | zero=>simp at h1 h2;subst h1 h2;exact h
  | succ i=>simp at h1 h2;exact r.2 i y e h1 h2⟩
theorem zi.head {x:V}{d:AV} {l:List AV}(r:zi H O M (x :: xs) (d :: l)):zq H O M x d/\zi H O M xs l:=
 ⟨r.2 0 x d rfl rfl,by have:=r.1;simpa using this,fun i y e h1 h2=>r.2 (i+1) y e (by simpa using h1) (by simpa using h2)⟩
theorem zi.nil_inv (r:zi H O M xs []):xs=[]:=eO.mp r.1
theorem zi.cons_inv {H:Hp}{O:Own}{M:MH}{xs:List V}{d:AV}{l:List AV}(r:zi H O M xs (d :: l)):∃ x r',xs=x :: r'/\zq H O M x d/\zi H O M r' l:=by
 cases xs with
 | nil=>have:=r.1;simp at this
 | cons x r'=>exact ⟨x,r',rfl,r.head⟩
variable {ys:List V}
theorem zi.append {l m:List AV}(a:zi H O M xs l)(b:zi H O M ys m):zi H O M (xs ++ ys) (l ++ m):=
 ⟨by rw [bc,bc,a.1,b.1],fun i x d h1 h2=>by
  by_cases c:i<xs.length
  ·rw [cT c] at h1
   rw [cT (by rw [<- a.1];exact c)] at h2
   exact a.2 i x d h1 h2
  ·rw [dk (by omega)] at h1
   rw [dk (by rw [<- a.1];omega),<- a.1] at h2
   exact b.2 _ x d h1 h2⟩
theorem zi.snoc {l:List AV}{x:V}{d:AV}(a:zi H O M xs l)(b:zq H O M x d):zi H O M (xs ++ [x]) (l ++ [d]):=a.append (.cons b .nil)
theorem zi.set {l:List AV}{x:V}{d:AV}(a:zi H O M xs l)(b:zq H O M x d)(j:Nat):zi H O M (xs.set j x) (l.set j d):=
 ⟨by rw [aV,aV,a.1],fun i y e h1 h2=>by
  rw [eD] at h1 h2
  by_cases c:j=i
  ·rw [if_pos c] at h1 h2
   split at h1
   ·split at h2
    ·cases h1;cases h2;exact b
    ·cases h2
   ·cases h1
  ·rw [if_neg c] at h1 h2
   exact a.2 i y e h1 h2⟩
theorem zi.get {l:List AV}(a:zi H O M xs l) {d:AV}(h:l[i]?=some d):∃ x,xs[i]?=some x/\zq H O M x d:=by
 have hi:=(aF.mp h).1
 have hx:i<xs.length:=by rw [a.1];exact hi
 exact ⟨xs[i],by simp [hx],a.2 i _ _ (by simp [hx]) h⟩
theorem zi.drop {l:List AV}(a:zi H O M xs l)(k:Nat):zi H O M (xs.drop k) (l.drop k):=
 ⟨by rw [bN,bN,a.1],fun i x d h1 h2=>by rw [nE] at h1 h2;exact a.2 _ x d h1 h2⟩
theorem zi.take {l:List AV}(a:zi H O M xs l)(k:Nat):zi H O M (xs.take k) (l.take k):=
 ⟨by rw [cg,cg,a.1],fun i x d h1 h2=>by
  rw [List.getElem?_take] at h1 h2
  by_cases c:i<k
  ·rw [if_pos c] at h1 h2
   exact a.2 _ x d h1 h2
  ·rw [if_neg c] at h1
   cases h1⟩
theorem Y9.av {l:List Dat}(r:Y9 H O xs l):zi H O M xs (l.map .d):=
 ⟨by rw [az];exact r.1,fun i x d h1 h2=>by
  rw [aD] at h2
  cases e:l[i]? with
  | none=>rw [e] at h2;cases h2
  | some y=>rw [e] at h2;cases h2;exact r.2 i x y h1 e⟩
theorem zi.pure {l:List Dat}(r:zi H O M xs (l.map .d)):Y9 H O xs l:=
 ⟨by have:=r.1;rwa [az] at this,fun i x d h1 h2=>r.2 i x (.d d) h1 (by rw [aD,h2];rfl)⟩
theorem Wf.fresh (w:Wf H O M) (h:H p=none):¬ O p/\M p=none:=by
 have:¬ O p:=fun z=>w.ne p z h
 exact ⟨this,by
  cases e:M p with
  | none=>rfl
  | some o=>exact absurd (w.own p (by rw [e];exact fun z=>nomatch z)) this⟩
theorem qX.ext {H H':Hp}{O O':Own}{M M':MH}(k:Ext H O M H' O' M'){a:aw}{o:MO}(e:H' a=H a)(r:qX H O M a o):qX H' O' M' a o:=by
 cases o with
 | lst l=>obtain ⟨xs,h,r⟩:=r;exact ⟨xs,e.trans h,r.ext k⟩
 | dK l=>obtain ⟨xs,h,r⟩:=r;exact ⟨xs,e.trans h,r.ext k⟩
 | dT l=>obtain ⟨xs,h,r⟩:=r;exact ⟨xs,e.trans h,r.ext k⟩
 | ins C fs=>obtain ⟨dx,xs,h,r,q1,q2,q3⟩:=r;obtain ⟨x1,x2,x3⟩:=k.prv dx q1 q2;exact ⟨dx,xs,e.trans h,r.ext k,x2,x3,x1.trans q3⟩
 | exc C fs=>
  obtain ⟨d,h,r⟩:=r
  refine ⟨d,e.trans h,?_⟩
  rcases r with r | ⟨dx,e1,h1,h2,h3⟩
  ·exact .inl r
  ·obtain ⟨x1,x2,x3⟩:=k.prv dx h2 h3;exact .inr ⟨dx,e1,x1.trans h1,x2,x3⟩
 | tb R=>obtain ⟨ps,h,r⟩:=r;exact ⟨ps,e.trans h,r.imp id fun ⟨c,oc,u,h1,h2,h3⟩=>⟨c,oc,u,h1,(k.fix c _ h2 h3).2,(k.fix c _ h2 h3).1⟩⟩
theorem z0 (w:Wf H O M) (h:H p=none)(o:HO):Ext H O M (upd H p o) O M:=
 ⟨fun a u ha e=>⟨by rw [zg (zo e h)];exact e,ha⟩,fun a ha e=>⟨zg (fun z=>w.ne a ha (by rw [z];exact h)),ha,e⟩,fun _ h=>h⟩
theorem jP (w:Wf H O M) (h:H p=none)(o:HO):Wf (upd H p o) O M:=
 ⟨fun a mo e=>qX.ext (z0 w h o) (zg (fun z=>by rw [z,(w.fresh h).2] at e;cases e)) (w.mo a mo e),w.own,fun a ha=>by
  have:a ≠ p:=fun z=>w.ne a ha (by rw [z];exact h)
  rw [zg this];exact w.al a ha⟩
noncomputable def xW (O:Own)(p:aw):Own:=fun a=>a=p \/ O a
noncomputable def FE (O:Own)(p:aw):Own:=fun a=>a ≠ p/\O a
theorem vp (w:Wf H O M) (h:H p=none)(o:HO)(mo:MO):Ext H O M (upd H p o) (xW O p) (mup M p mo):=
 ⟨fun a u ha e=>⟨by rw [zg (zo e h)];exact e,fun z=>z.elim (zo e h) ha⟩,fun a ha e=>by
  have hne:a ≠ p:=fun z=>w.ne a ha (by rw [z];exact h)
  exact ⟨zg hne,.inr ha,by rw [zn hne];exact e⟩,fun a ha=>by
  by_cases e:a=p
  ·rw [e,zk];exact fun z=>nomatch z
  ·rw [zn e];exact ha⟩
variable {mo:MO}
theorem Kj (w:Wf H O M) (h:H p=none){o:HO} (ho:∀ xs,o ≠ .tup xs)(r:qX (upd H p o) (xW O p) (mup M p mo) p mo):Wf (upd H p o) (xW O p) (mup M p mo):=by
 refine ⟨fun a u e=>?_,fun a ha=>?_,fun a ha=>?_⟩
 ·by_cases c:a=p
  ·subst c;rw [zk] at e;cases e;exact r
  ·rw [zn c] at e
   exact qX.ext (vp w h o mo) (zg c) (w.mo a u e)
 ·by_cases c:a=p
  ·exact .inl c
  ·rw [zn c] at ha;exact .inr (w.own a ha)
 ·by_cases c:a=p
  ·rw [c,zj];exact ⟨o,rfl,ho⟩
  ·rw [zg c];exact w.al a (ha.resolve_left c)
theorem jY (w:Wf H O M) (h:M p ≠ none)(o:HO)(mo:MO):Ext H O M (upd H p o) O (mup M p mo):=
 ⟨fun a u ha e=>⟨by rw [zg (fun z=>ha (by rw [z];exact w.own p h))];exact e,ha⟩,fun a ha e=>by
  have hne:a ≠ p:=fun z=>h (by rw [<- z];exact e)
  exact ⟨zg hne,ha,by rw [zn hne];exact e⟩,fun a ha=>by
  by_cases e:a=p
  ·rw [e,zk];exact fun z=>nomatch z
  ·rw [zn e];exact ha⟩
theorem Qq (w:Wf H O M) (h:M p ≠ none){o:HO} (ho:∀ xs,o ≠ .tup xs)(r:qX (upd H p o) O (mup M p mo) p mo):Wf (upd H p o) O (mup M p mo):=by
 refine ⟨fun a u e=>?_,fun a ha=>?_,fun a ha=>?_⟩
 ·by_cases c:a=p
  ·subst c;rw [zk] at e;cases e;exact r
  ·rw [zn c] at e
   exact qX.ext (jY w h o mo) (zg c) (w.mo a u e)
 ·by_cases c:a=p
  ·subst c;exact w.own a h
  ·rw [zn c] at ha;exact w.own a ha
 ·by_cases c:a=p
  ·rw [c,zj];exact ⟨o,rfl,ho⟩
  ·rw [zg c];exact w.al a ha
theorem qv (w:Wf H O M) (h:H p=none)(o:HO):Ext H O M (upd H p o) (xW O p) M:=
 ⟨fun a u ha e=>⟨by rw [zg (zo e h)];exact e,fun z=>z.elim (zo e h) ha⟩,fun a ha e=>by
  have hne:a ≠ p:=fun z=>w.ne a ha (by rw [z];exact h)
  exact ⟨zg hne,.inr ha,e⟩,fun _ h=>h⟩
theorem j6 (w:Wf H O M) (h:H p=none)(o:HO)(ho:∀ xs,o ≠ .tup xs):Wf (upd H p o) (xW O p) M:=
 ⟨fun a mo e=>qX.ext (qv w h o) (zg (fun z=>by rw [z,(w.fresh h).2] at e;cases e)) (w.mo a mo e),fun a ha=>.inr (w.own a ha),fun a ha=>by
  by_cases c:a=p
  ·rw [c,zj];exact ⟨o,rfl,ho⟩
  ·rw [zg c];exact w.al a (ha.resolve_left c)⟩
theorem vv (hO:O p)(o:HO):∀ a u,¬ O a->H a=some u->upd H p o a=some u/\¬ O a:=fun a u ha e=>⟨by rw [zg (fun z=>ha (by rw [z];exact hO))];exact e,ha⟩
theorem zq.imp {H H':Hp}{O O':Own}{M M':MH}(k:∀ a o,¬ O a->H a=some o->H' a=some o/\¬ O' a)(hm:∀ a,M a ≠ none->M' a ≠ none){v:V}{x:AV}(r:zq H O M v x):zq H' O' M' v x:=by
 cases x with
 | d x=>exact Rep.imp k r
 | ref a=>exact ⟨r.1,hm a r.2⟩
theorem zi.imp (k:∀ a o,¬ O a->H a=some o->H' a=some o/\¬ O' a)(hm:∀ a,M a ≠ none->M' a ≠ none) {l:List AV}(r:zi H O M xs l):zi H' O' M' xs l:=⟨r.1,fun i x d e1 e2=>(r.2 i x d e1 e2).imp k hm⟩
theorem qX.imp {H H':Hp}{O O':Own}{M:MH}(k:∀ a o,¬ O a->H a=some o->H' a=some o/\¬ O' a){a:aw}{o:MO}(e:H' a=H a)(hd:∀ dx x,O dx->M dx=none->H dx=some x->((∃ b,x=.own b) \/ ∃ fs,x=.xd fs)->H' dx=some x/\O' dx)(r:qX H O M a o):qX H' O' M a o:=by
 cases o with
 | lst l=>obtain ⟨xs,h,r⟩:=r;exact ⟨xs,e.trans h,r.imp k fun _ z=>z⟩
 | dK l=>obtain ⟨xs,h,r⟩:=r;exact ⟨xs,e.trans h,r.1,r.2.imp k fun _ z=>z⟩
 | dT l=>obtain ⟨xs,h,r⟩:=r;exact ⟨xs,e.trans h,r.1,r.2.imp k fun _ z=>z⟩
 | ins C fs=>obtain ⟨dx,xs,h,r,q1,q2,q3⟩:=r;exact ⟨dx,xs,e.trans h,⟨r.1,r.2.imp k fun _ z=>z⟩,(hd dx _ q1 q2 q3 (.inl ⟨_,rfl⟩)).2,q2,(hd dx _ q1 q2 q3 (.inl ⟨_,rfl⟩)).1⟩
 | exc C fs=>
  obtain ⟨d,h,r⟩:=r
  refine ⟨d,e.trans h,?_⟩
  rcases r with r | ⟨dx,e1,h1,h2,h3⟩
  ·exact .inl r
  ·obtain ⟨x1,x2⟩:=hd dx _ h2 h3 h1 (.inr ⟨_,rfl⟩);exact .inr ⟨dx,e1,x1,x2,h3⟩
 | tb R=>obtain ⟨ps,h,r⟩:=r;exact ⟨ps,e.trans h,r.imp id fun ⟨c,oc,u,h1,h2,h3⟩=>⟨c,oc,u,h1,(k c _ h2 h3).2,(k c _ h2 h3).1⟩⟩
theorem Km (w:Wf H O M) (hO:O p)(hM:M p=none) (hp:H p=some (.lst xs))(o:HO)(ho:∀ xs,o ≠ .tup xs):Wf (upd H p o) O M:=
 ⟨fun a mo e=>qX.imp (vv hO o) (zg (fun z=>by rw [z,hM] at e;cases e)) (fun dx x h1 _ h3 h4=>⟨by rw [zg (wW h3 hp (by rcases h4 with ⟨_,rfl⟩ | ⟨_,rfl⟩ <;> exact fun z=>nomatch z))];exact h3,h1⟩) (w.mo a mo e),w.own,fun a ha=>by
  by_cases c:a=p
  ·rw [c,zj];exact ⟨o,rfl,ho⟩
  ·rw [zg c];exact w.al a ha⟩
theorem yw (p:aw):∀ a u,¬ O a->H a=some u->H a=some u/\¬ FE O p a:=fun a u ha e=>⟨e,fun z=>ha z.2⟩
theorem BY (w:Wf H O M) (hM:M p=none) (hp:H p=some (.lst xs)):Wf H (FE O p) M:=
 ⟨fun a mo e=>qX.imp (yw p) rfl (fun dx x h1 _ h3 h4=>⟨h3,⟨wW h3 hp (by rcases h4 with ⟨_,rfl⟩ | ⟨_,rfl⟩ <;> exact fun z=>nomatch z),h1⟩⟩) (w.mo a mo e),fun a ha=>⟨fun z=>ha (by rw [z];exact hM),w.own a ha⟩,fun a ha=>w.al a ha.2⟩
abbrev AK:=AV->MH->Prop
abbrev AE:=ASt->MH->AK->Prop
abbrev AT:=ASt->MH->(Bool->MH->Prop)->Prop
abbrev AA:=ASt->MH->(List AV->MH->Prop)->Prop
structure xY where
 nx:ASt->MH->Prop
 rt:AK
 bk:ASt->MH->Prop:=fun _ _=>False
 ct:ASt->MH->Prop:=fun _ _=>False
abbrev AS:=MH->xY->ASt->MH->Prop
abbrev AG:=AV->ASt->MH->(ASt->MH->Prop)->Prop
abbrev AGs:=List AV->ASt->MH->(ASt->MH->Prop)->Prop
abbrev AI:=ASt->MH->(List AV->(MH->Prop)->MH->Prop)->Prop
structure Er (H:Hp)(O:Own)(M:MH)(σ:St)(ρ:ASt):Prop where
 len:σ.length=ρ.length
 get:∀ (i:Nat) x,ρ[i]?=some (some x)->∃ v,σ[i]?=some (some v)/\zq H O M v x
variable {ρ:ASt}
theorem Er.ext (e:Er H O M σ ρ)(k:Ext H O M H' O' M'):Er H' O' M' σ ρ:=⟨e.len,fun i x h=>let ⟨v,h1,h2⟩:=e.get i x h;⟨v,h1,h2.ext k⟩⟩
theorem Er.set (e:Er H O M σ ρ) {x:AV}(r:zq H O M v x)(j:Nat):Er H O M (σ.set j (some v)) (ρ.set j (some x)):=
 ⟨by rw [aV,aV,e.len],fun i y h=>by
  rw [eD] at h ⊢
  by_cases c:j=i
  ·rw [if_pos c] at h ⊢
   by_cases c2:j<ρ.length
   ·rw [if_pos c2] at h;rw [if_pos (by rw [e.len];exact c2)];cases h;exact ⟨v,rfl,r⟩
   ·rw [if_neg c2] at h;cases h
  ·rw [if_neg c] at h ⊢;exact e.get i y h⟩
noncomputable def JZ:List Nat->ASt->ASt
 | [],σ=>σ
 | j :: r,σ=>JZ r (σ.set j none)
theorem Er.clr {H:Hp}{O:Own}{M:MH}:∀ (ts:List Nat) {σ:St} {ρ:ASt},Er H O M σ ρ->Er H O M (clr ts σ) (JZ ts ρ)
  | [],_,_,e=>e
  | j :: r, σ, ρ, e => Er.clr r ⟨by rw [aV, aV, e.len], fun i y h => by
      rw [eD] at h ⊢
      by_cases c:j=i
      · rw [if_pos c] at h
        split at h <;> cases h
      · rw [if_neg c] at h ⊢;exact e.get i y h⟩
structure zD (t:TE)(a:AE):Prop where
 go:∀ {σ:St} {H:Hp} {O:Own} {ρ:ASt} {M:MH} {Q:VK} {Q':AK},Wf H O M->Er H O M σ ρ->a ρ M Q'->(∀ x M' v H' O',Q' x M'->Ext H O M H' O' M'->Wf H' O' M'->zq H' O' M' v x->Q v H')->t σ H Q
structure kC (t:TT)(a:AT):Prop where
 go:∀ {σ:St} {H:Hp} {O:Own} {ρ:ASt} {M:MH} {Q:Bool->Hp->Prop} {Q':Bool->MH->Prop},Wf H O M->Er H O M σ ρ->a ρ M Q'->(∀ b M' H' O',Q' b M'->Ext H O M H' O' M'->Wf H' O' M'->Q b H')->t σ H Q
structure jq (t:TA)(a:AA):Prop where
 go:∀ {σ:St} {H:Hp} {O:Own} {ρ:ASt} {M:MH} {Q:List V->Hp->Prop} {Q':List AV->MH->Prop},Wf H O M->Er H O M σ ρ->a ρ M Q'->(∀ x M' v H' O',Q' x M'->Ext H O M H' O' M'->Wf H' O' M'->zi H' O' M' v x->Q v H')->t σ H Q
structure QN (t:TE)(a:ASt->MH->(List AV->MH->Prop)->Prop):Prop where
 go:∀ {σ:St} {H:Hp} {O:Own} {ρ:ASt} {M:MH} {Q:VK} {Q':List AV->MH->Prop},Wf H O M->Er H O M σ ρ->a ρ M Q' ->
  (∀ l M' p xs H' O',Q' l M'->Ext H O M H' O' M'->Wf H' O' M'->O' p->M' p=none->H p=none->H' p=some (.lst xs)->zi H' O' M' xs l->Q (.ref p) H')->t σ H Q
abbrev AR2:=AV->AV->MH->AK->Prop
structure yr (r:R2)(a:AR2):Prop where
 go:∀ {x y:V} {dx dy:AV} {H:Hp} {O:Own} {M:MH} {Q:VK} {Q':AK},Wf H O M->zq H O M x dx->zq H O M y dy->a dx dy M Q'->(∀ x M' v H' O',Q' x M'->Ext H O M H' O' M'->Wf H' O' M'->zq H' O' M' v x->Q v H')->r x y H Q
structure L8 (r:V->Hp->VK->Prop)(a:AV->MH->AK->Prop):Prop where
 go:∀ {x:V} {dx:AV} {H:Hp} {O:Own} {M:MH} {Q:VK} {Q':AK},Wf H O M->zq H O M x dx->a dx M Q'->(∀ x M' v H' O',Q' x M'->Ext H O M H' O' M'->Wf H' O' M'->zq H' O' M' v x->Q v H')->r x H Q
structure vc (r:List V->Hp->VK->Prop)(a:List AV->MH->AK->Prop):Prop where
 go:∀ {vs:List V} {xs:List AV} {H:Hp} {O:Own} {M:MH} {Q:VK} {Q':AK},Wf H O M->zi H O M vs xs->a xs M Q'->(∀ x M' v H' O',Q' x M'->Ext H O M H' O' M'->Wf H' O' M'->zq H' O' M' v x->Q v H')->r vs H Q
noncomputable def qM (i:Nat):AE:=fun ρ M Q=>∃ x,ρ[i]?=some (some x)/\Q x M
noncomputable def aC (d:Dat):AE:=fun _ M Q=>Q (.d d) M
theorem kF:zD (qT i) (qM i):=⟨fun w e ⟨x,h,q⟩ k=>let ⟨v,h1,h2⟩:=e.get i x h;⟨v,h1,k _ _ _ _ _ q .refl w h2⟩⟩
theorem HS {i:Int}:zD (tC (.int i)) (aC (.int i)):=⟨fun w _ q k=>k _ _ _ _ _ q .refl w .int⟩
theorem Ht {i:Bool}:zD (tC (.bl i)) (aC (.bl i)):=⟨fun w _ q k=>k _ _ _ _ _ q .refl w .bl⟩
theorem Lb:zD (tC .non) (aC .non):=⟨fun w _ q k=>k _ _ _ _ _ q .refl w .non⟩
theorem Lu {i:Str}:zD (tC (.str i)) (aC (.str i)):=⟨fun w _ q k=>k _ _ _ _ _ q .refl w .str⟩
theorem Hz {i:String}:zD (tC (.ty i)) (aC (.ty i)):=⟨fun w _ q k=>k _ _ _ _ _ q .refl w .ty⟩
noncomputable def aOp (r:AR2)(a b:AE):AE:=fun ρ M Q=>a ρ M fun x M1=>b ρ M1 fun y M2=>r x y M2 Q
variable {r:R2}
theorem Io {ra:AR2}{t u:TE}{a b:AE}(hr:yr r ra)(h1:zD t a)(h2:zD u b):zD (tOp r t u) (aOp ra a b):=
 ⟨fun w e q k=>h1.go w e q fun x M1 v H1 O1 q1 k1 w1 r1=>h2.go w1 (e.ext k1) q1 fun y M2 u H2 O2 q2 k2 w2 r2=>hr.go w2 (r1.ext k2) r2 q2 fun z M3 v3 H3 O3 q3 k3 w3 r3=>k z M3 v3 H3 O3 q3 ((k1.trans k2).trans k3) w3 r3⟩
noncomputable def aUn (r:AV->MH->AK->Prop)(a:AE):AE:=fun ρ M Q=>a ρ M fun x M1=>r x M1 Q
theorem Hn {r:V->Hp->VK->Prop}{ra:AV->MH->AK->Prop}{t:TE}{a:AE}(hr:L8 r ra)(h1:zD t a):zD (tUn r t) (aUn ra a):=
 ⟨fun w e q k=>h1.go w e q fun x M1 v H1 O1 q1 k1 w1 r1=>hr.go w1 r1 q1 fun z M3 v3 H3 O3 q3 k3 w3 r3=>k z M3 v3 H3 O3 q3 (k1.trans k3) w3 r3⟩
noncomputable def xq:AA:=fun _ M Q=>Q [] M
noncomputable def qd (a:AE)(b:AA):AA:=fun ρ M Q=>a ρ M fun x M1=>b ρ M1 fun xs M2=>Q (x :: xs) M2
theorem Z7:jq vF xq:=⟨fun w _ q k=>k _ _ _ _ _ q .refl w .nil⟩
variable {u:TA}
theorem jI {t:TE} {a:AE}{b:AA}(h1:zD t a)(h2:jq u b):jq (qW t u) (qd a b):=
 ⟨fun w e q k=>h1.go w e q fun x M1 v H1 O1 q1 k1 w1 r1=>h2.go w1 (e.ext k1) q1 fun y M2 u H2 O2 q2 k2 w2 r2=>k _ _ _ _ _ q2 (k1.trans k2) w2 (.cons (r1.ext k2) r2)⟩
theorem Ql {H:Hp}{O:Own}{M:MH}(is:List Int):zi H O M (is.map V.int) (is.map fun i=>.d (.int i)):=by
 induction is with
 | nil=>exact .nil
 | cons i r ih=>exact .cons .int ih
noncomputable def aCB (r:List AV->MH->AK->Prop)(b:AA):AE:=fun ρ M Q=>b ρ M fun xs M1=>r xs M1 Q
theorem Ir {r:List V->Hp->VK->Prop}{ra:List AV->MH->AK->Prop} {b:AA}(hr:vc r ra)(h2:jq u b):zD (tCB r u) (aCB ra b):=
 ⟨fun w e q k=>h2.go w e q fun x M1 v H1 O1 q1 k1 w1 r1=>hr.go w1 r1 q1 fun z M3 v3 H3 O3 q3 k3 w3 r3=>k z M3 v3 H3 O3 q3 (k1.trans k3) w3 r3⟩
abbrev ASp:=List AV->MH->AK->Prop
noncomputable def cSp (a:ASp):Sp:=fun vs H Q _=>∃ xs M O Q',Wf H O M/\zi H O M vs xs/\a xs M Q'/\∀ x M' v H' O',Q' x M'->Ext H O M H' O' M'->Wf H' O' M'->zq H' O' M' v x->Q v H'
noncomputable def GE (sp:ASp)(b:AA):AE:=fun ρ M Q=>b ρ M fun xs M1=>sp xs M1 Q
theorem W5 {sp:ASp} {b:AA}(h:jq u b):zD (Ym (cSp sp) [] E0 u) (GE sp b):=
 ⟨fun w e q k=>h.go w e q fun x M1 v H1 O1 q1 k1 w1 r1=>⟨x,M1,O1,_,w1,by rw [cu];exact r1,q1,fun z M3 v3 H3 O3 q3 k3 w3 r3=>k z M3 v3 H3 O3 q3 (k1.trans k3) w3 r3⟩⟩
noncomputable def pur:List AV->Option (List Dat)
 | []=>some []
 | .d x :: r=>match pur r with | some l=>some (x :: l) | none=>none
 | .ref _ :: _=>none
theorem FI:pur []=some []:=rfl
theorem B4 {x:Dat}{r:List AV}{l:List Dat}(h:pur r=some l):pur (.d x :: r)=some (x :: l):=by unfold pur;rw [h]
theorem zS (l:List Dat):pur (l.map .d)=some l:=by
 induction l with
 | nil=>rfl
 | cons x r ih=>exact B4 ih
theorem jT:∀ {xs:List AV} {l:List Dat},pur xs=some l->xs=l.map .d
 | [],l,h=>by cases h;rfl
 | .d x :: r,l,h=>by
  unfold pur at h
  cases e:pur r with
  | none=>rw [e] at h;cases h
  | some m=>rw [e] at h;cases h;rw [jT e];rfl
 | .ref _ :: _,_,h=>by cases h
theorem Ext.shown (w:Wf H O M)(k:Ext H O M H' O' M')(h:H p=none):Ext H O M H' (FE O' p) M':=
 ⟨fun a o ha e=>⟨(k.fix a o ha e).1,fun z=>(k.fix a o ha e).2 z.2⟩,fun a ha e=>⟨(k.prv a ha e).1,⟨fun z=>w.ne a ha (by rw [z];exact h),(k.prv a ha e).2.1⟩,(k.prv a ha e).2.2⟩,k.mst⟩
theorem Ext.owned (w:Wf H O M)(k:Ext H O M H' O' M')(h:H p=none)(mo:MO):Ext H O M H' O' (mup M' p mo):=
 ⟨k.fix,fun a ha e=>⟨(k.prv a ha e).1,(k.prv a ha e).2.1,by rw [zn (fun z=>w.ne a ha (by rw [z];exact h))];exact (k.prv a ha e).2.2⟩,fun a ha=>by
  by_cases e:a=p
  ·rw [e,zk];exact fun z=>nomatch z
  ·rw [zn e];exact k.mst a ha⟩
theorem Jq (w:Wf H O M)(hO:O p)(hM:M p=none) {l:List AV}(hp:H p=some (.lst xs))(r:zi H O M xs l):Wf H O (mup M p (.lst l)):=by
 have km:∀ a,M a ≠ none->mup M p (.lst l) a ≠ none:=fun a ha=>by
  by_cases e:a=p
  ·rw [e,zk];exact fun z=>nomatch z
  ·rw [zn e];exact ha
 refine ⟨fun a u e=>?_,fun a ha=>?_,w.al⟩
 ·by_cases c:a=p
  ·subst c;rw [zk] at e;cases e;exact ⟨xs,hp,r.imp (fun _ _ z h=>⟨h,z⟩) km⟩
  ·rw [zn c] at e
   have:=w.mo a u e
   cases u with
   | lst m=>obtain ⟨ys,h1,h2⟩:=this;exact ⟨ys,h1,h2.imp (fun _ _ z h=>⟨h,z⟩) km⟩
   | dK m=>obtain ⟨ys,h1,h2⟩:=this;exact ⟨ys,h1,h2.1,h2.2.imp (fun _ _ z h=>⟨h,z⟩) km⟩
   | dT m=>obtain ⟨ys,h1,h2⟩:=this;exact ⟨ys,h1,h2.1,h2.2.imp (fun _ _ z h=>⟨h,z⟩) km⟩
   | ins C fs=>
    obtain ⟨dx,ys,h1,h2,h3,h4,h5⟩:=this
    exact ⟨dx,ys,h1,⟨h2.1,h2.2.imp (fun _ _ z h=>⟨h,z⟩) km⟩,h3,by rw [zn (wW h5 hp (fun z=>nomatch z))];exact h4,h5⟩
   | exc C fs=>
    obtain ⟨d,h1,h2⟩:=this
    refine ⟨d,h1,?_⟩
    rcases h2 with h2 | ⟨dx,e1,h2,h3,h4⟩
    ·exact .inl h2
    ·exact .inr ⟨dx,e1,h2,h3,by rw [zn (wW h2 hp (fun z=>nomatch z))];exact h4⟩
   | tb R=>exact this
 ·by_cases c:a=p
  ·rw [c];exact hO
  ·rw [zn c] at ha;exact w.own a ha
abbrev AF:=ASt->MH->(List AV->MH->Prop)->Prop
noncomputable def aFz (a:AF):AE:=fun ρ M Q=>a ρ M fun l M'=>∃ ds,pur l=some ds/\Q (.d (.lst ds)) M'
noncomputable def aOw (a:AF):AE:=fun ρ M Q=>a ρ M fun l M'=>∀ p,M p=none->M' p=none->Q (.ref p) (mup M' p (.lst l))
noncomputable def Mp (t:TE):TE:=t
theorem kJ {e:Expr}{t:TE}(h:PE X e t):PE X e (Mp t):=h
theorem yv {t:TE}{a:AF}(h:QN t a):zD t (aFz a):=
 ⟨fun w e q k=>h.go w e q fun l M' p xs H' O' q1 k1 w1 o1 m1 hp hx r1=>by
  obtain ⟨ds,e1,q2⟩:=q1
  rw [jT e1] at r1
  have r2:=r1.pure
  exact k _ _ _ _ _ q2 (k1.shown w hp) (BY w1 m1 hx) (Rep.lst (fun z=>z.1 rfl) hx r2.1 fun i x d e1 e2=>(r2.2 i x d e1 e2).imp (yw p))⟩
theorem Es {t:TE}{a:AF}(h:QN t a):zD (Mp t) (aOw a):=
 ⟨fun w e q k=>h.go w e q fun l M' p xs H' O' q1 k1 w1 o1 m1 hp hx r1=>k _ _ _ _ _ (q1 p (w.fresh hp).2 m1) (k1.owned w hp _) (Jq w1 o1 m1 hx r1) ⟨rfl,by rw [zk];exact fun z=>nomatch z⟩⟩
noncomputable def Lc (b:AA):AF:=fun ρ M Q=>b ρ M fun xs M1=>xs.length<=aM/\Q xs M1
theorem Br {b:AA}(h:jq u b):QN (HL u) (Lc b):=
 ⟨fun w e q k=>h.go w e q fun x M1 v H1 O1 q1 k1 w1 r1=>⟨by rw [r1.1];exact q1.1,fun p hp=>
  k x M1 p v _ _ q1.2 (k1.trans (qv w1 hp _)) (j6 w1 hp _ (fun _ z=>nomatch z)) (.inl rfl) (w1.fresh hp).2 (by
   cases e0:(_:Hp) p with
   | none=>exact e0
   | some o=>
    exfalso
    rename_i H0 O0 _ M0 _ _
    by_cases c:O0 p
    ·by_cases c2:M0 p=none
     ·exact w1.ne p (k1.prv p c c2).2.1 hp
     ·exact w1.ne p (w1.own p (k1.mst p c2)) hp
    ·rw [(k1.fix p o c e0).1] at hp;cases hp) zj (r1.ext (qv w1 hp _))⟩⟩
noncomputable def ZM (b:AA):AE:=fun ρ M Q=>b ρ M fun xs M1=>xs.length<=aM/\∃ ds,pur xs=some ds/\Q (.d (.tup ds)) M1
theorem Gd {b:AA}(h:jq u b):zD (FT u) (ZM b):=
 ⟨fun w e q k=>h.go w e q fun x M1 v H1 O1 q1 k1 w1 r1=>⟨by rw [r1.1];exact q1.1,fun p hp=>by
  obtain ⟨_,ds,e1,q2⟩:=q1
  rw [jT e1] at r1
  have r2:=r1.pure
  exact k _ _ _ _ _ q2 (k1.trans (z0 w1 hp _)) (jP w1 hp _) (Rep.tup (w1.fresh hp).1 zj r2.1 fun i x d e1 e2=>(r2.2 i x d e1 e2).ext (z0 w1 hp _))⟩⟩
noncomputable def aB (a:AE):AT:=fun ρ M Q=>a ρ M fun x M1=>∃ b,x=.d (.bl b)/\Q b M1
theorem jH {b:Bool}(r:Rep H O v (.bl b)):v=.bl b:=by cases r;rfl
theorem zQ {b:Int}(r:Rep H O v (.int b)):v=.int b:=by cases r;rfl
theorem Yv {b:Str}(r:Rep H O v (.str b)):v=.str b:=by cases r;rfl
theorem Ef {b:String}(r:Rep H O v (.ty b)):v=.ty b:=by cases r;rfl
theorem vm (r:Rep H O v .non):v=.non:=by cases r;rfl
theorem MW {t:TE}{a:AE}(h:zD t a):kC (tB t) (aB a):=⟨fun w e q k=>h.go w e q fun x M1 v H1 O1 ⟨b,e1,q1⟩ k1 w1 r1=>by
 subst e1;exact ⟨b,jH r1,k _ _ _ _ q1 k1 w1⟩⟩
theorem BI {t:TE}{a:AE}(h:zD t a):kC (BW t) (aB a):=⟨fun w e q k=>h.go w e q fun x M1 v H1 O1 ⟨b,e1,q1⟩ k1 w1 r1=>by
 subst e1;exact ⟨b,jH r1,k _ _ _ _ q1 k1 w1⟩⟩
noncomputable def vS:AT:=fun _ M Q=>Q true M
theorem Bh:kC XF vS:=⟨fun w _ q k=>k _ _ _ _ q .refl w⟩
noncomputable def Mg (a b:AT):AT:=fun ρ M Q=>a ρ M fun c M1=>if c=true then b ρ M1 Q else Q false M1
noncomputable def aOr (a b:AT):AT:=fun ρ M Q=>a ρ M fun c M1=>if c=true then Q true M1 else b ρ M1 Q
noncomputable def MN (a:AT):AT:=fun ρ M Q=>a ρ M fun c M1=>Q (!c) M1
theorem Gj {t u:TT}{a b:AT}(h1:kC t a)(h2:kC u b):kC (HK t u) (Mg a b):=⟨fun w e q k=>h1.go w e q fun c M1 H1 O1 q1 k1 w1=>by
 cases c with
 | true=>exact h2.go w1 (e.ext k1) q1 fun c M2 H2 O2 q2 k2 w2=>k _ _ _ _ q2 (k1.trans k2) w2
 | false=>exact k _ _ _ _ q1 k1 w1⟩
theorem LC {t u:TT}{a b:AT}(h1:kC t a)(h2:kC u b):kC (tOr t u) (aOr a b):=⟨fun w e q k=>h1.go w e q fun c M1 H1 O1 q1 k1 w1=>by
 cases c with
 | false=>exact h2.go w1 (e.ext k1) q1 fun c M2 H2 O2 q2 k2 w2=>k _ _ _ _ q2 (k1.trans k2) w2
 | true=>exact k _ _ _ _ q1 k1 w1⟩
theorem E7 {t:TT}{a:AT}(h1:kC t a):kC (Lk t) (MN a):=⟨fun w e q k=>h1.go w e q fun c M1 H1 O1 q1 k1 w1=>k _ _ _ _ q1 k1 w1⟩
noncomputable def GK (a b:AE):AE:=fun ρ M Q=>a ρ M fun x M1=>∃ c,x=.d (.bl c)/\if c=true then b ρ M1 Q else Q (.d (.bl false)) M1
noncomputable def GN (a:AE):AE:=fun ρ M Q=>a ρ M fun x M1=>∃ c,x=.d (.bl c)/\Q (.d (.bl (!c))) M1
theorem D4 {t u:TE}{a b:AE}(h1:zD t a)(h2:zD u b):zD (DT t u) (GK a b):=⟨fun w e q k=>h1.go w e q fun x M1 v H1 O1 ⟨c,e1,q1⟩ k1 w1 r1=>by
 subst e1
 refine ⟨c,jH r1,?_⟩
 cases c with
 | true=>exact h2.go w1 (e.ext k1) q1 fun c M2 v2 H2 O2 q2 k2 w2 r2=>k _ _ _ _ _ q2 (k1.trans k2) w2 r2
 | false=>exact k _ _ _ _ _ q1 k1 w1 .bl⟩
theorem AZ {t:TE}{a:AE}(h1:zD t a):zD (DN t) (GN a):=⟨fun w e q k=>h1.go w e q fun x M1 v H1 O1 ⟨c,e1,q1⟩ k1 w1 r1=>by
 subst e1
 exact ⟨c,jH r1,k _ _ _ _ _ q1 k1 w1 .bl⟩⟩
noncomputable def Dv (r r':AR2)(a b c:AE):AE:=fun ρ M Q=>a ρ M fun x M1=>b ρ M1 fun y M2=>r x y M2 fun z M3=>∃ k,z=.d (.bl k)/\if k=true then c ρ M3 fun u M4=>r' y u M4 Q else Q (.d (.bl false)) M3
theorem VI {r r':R2}{ar ar':AR2}{t u v:TE}{a b c:AE}(hr:yr r ar)(hr':yr r' ar')(h1:zD t a)(h2:zD u b)(h3:zD v c):zD (WO r r' t u v) (Dv ar ar' a b c):=
 ⟨fun w e q k=>h1.go w e q fun x M1 v H1 O1 q1 k1 w1 r1=>h2.go w1 (e.ext k1) q1 fun y M2 u H2 O2 q2 k2 w2 r2=>hr.go w2 (r1.ext k2) r2 q2 fun z M3 v3 H3 O3 ⟨c,e3,q3⟩ k3 w3 r3=>by
  subst e3
  refine ⟨c,jH r3,?_⟩
  have k13:=(k1.trans k2).trans k3
  cases c with
  | false=>exact k _ _ _ _ _ q3 k13 w3 .bl
  | true=>exact h3.go w3 (e.ext k13) q3 fun z4 M4 v4 H4 O4 q4 k4 w4 r4=>hr'.go w4 ((r2.ext k3).ext k4) r4 q4 fun z5 M5 v5 H5 O5 q5 k5 w5 r5=>k _ _ _ _ _ q5 ((k13.trans k4).trans k5) w5 r5⟩
structure ED (H0:Hp)(O0:Own)(M0:MH)(D:kl)(D':xY):Prop where
 nx:∀ σ H O ρ M,Wf H O M->Er H O M σ ρ->Ext H0 O0 M0 H O M->D'.nx ρ M->D.nx σ H
 rt:∀ v x H O M,Wf H O M->Ext H0 O0 M0 H O M->zq H O M v x->D'.rt x M->D.rt v H
 bk:∀ σ H O ρ M,Wf H O M->Er H O M σ ρ->Ext H0 O0 M0 H O M->D'.bk ρ M->D.bk σ H
 ct:∀ σ H O ρ M,Wf H O M->Er H O M σ ρ->Ext H0 O0 M0 H O M->D'.ct ρ M->D.ct σ H
variable {H0:Hp} {O0:Own}
theorem ED.tr {M0 M1:MH} {D':xY}(E:ED H0 O0 M0 D D')(k:Ext H0 O0 M0 H1 O1 M1):ED H1 O1 M1 D D':=
 ⟨fun σ H O ρ M w e x q=>E.nx σ H O ρ M w e (k.trans x) q,fun v y H O M w x r q=>E.rt v y H O M w (k.trans x) r q,fun σ H O ρ M w e x q=>E.bk σ H O ρ M w e (k.trans x) q,fun σ H O ρ M w e x q=>E.ct σ H O ρ M w e (k.trans x) q⟩
structure jg (t:TS)(a:AS):Prop where
 go:∀ {H0:Hp} {O0:Own} {M0:MH} {D:kl} {D':xY} {σ:St} {H:Hp} {O:Own} {ρ:ASt} {M:MH},Wf H0 O0 M0->Wf H O M->Er H O M σ ρ->Ext H0 O0 M0 H O M->a M0 D' ρ M->ED H0 O0 M0 D D'->t D σ H
noncomputable def WQ:AS:=fun _ D ρ M=>D.nx ρ M
theorem B7:jg B9 WQ:=⟨fun _ w e x q E=>E.nx _ _ _ _ _ w e x q⟩
noncomputable def yp (a b:AS):AS:=fun B D ρ M=>a B { D with nx:=b B D } ρ M
theorem EW {t u:TS}{a b:AS}(h1:jg t a)(h2:jg u b):jg (BV t u) (yp a b):=
 ⟨fun w0 w e x q E=>h1.go w0 w e x q ⟨fun σ H O ρ M w e x q=>h2.go w0 w e x q E,E.rt,E.bk,E.ct⟩⟩
noncomputable def Jn (a:AE):AS:=fun _ D ρ M=>a ρ M fun _ M1=>D.nx ρ M1
theorem AM {t:TE}{a:AE}(h:zD t a):jg (YM t) (Jn a):=⟨fun _ w e x q E=>h.go w e q fun y M1 v H1 O1 q1 k1 w1 r1=>E.nx _ _ _ _ _ w1 (e.ext k1) (x.trans k1) q1⟩
noncomputable def LQ (a:AE):AS:=fun _ D ρ M=>a ρ M D.rt
theorem Ey {t:TE}{a:AE}(h:zD t a):jg (Lv t) (LQ a):=⟨fun _ w e x q E=>h.go w e q fun y M1 v H1 O1 q1 k1 w1 r1=>E.rt _ _ _ _ _ w1 (x.trans k1) r1 q1⟩
noncomputable def Ia (c:AT)(a b:AS):AS:=fun B D ρ M=>c ρ M fun k M1=>if k=true then a B D ρ M1 else b B D ρ M1
variable {c:TT} {ac:AT}
theorem F4 {t u:TS} {a b:AS}(hc:kC c ac)(h1:jg t a)(h2:jg u b):jg (F9 c t u) (Ia ac a b):=
 ⟨fun w0 w e x q E=>hc.go w e q fun k M1 H1 O1 q1 k1 w1=>by
  cases k with
  | true=>exact h1.go w0 w1 (e.ext k1) (x.trans k1) q1 E
  | false=>exact h2.go w0 w1 (e.ext k1) (x.trans k1) q1 E⟩
structure xM (g:TG)(a:AG):Prop where
 go:∀ {v:V} {x:AV} {σ:St} {H:Hp} {O:Own} {ρ:ASt} {M:MH} {Q:St->Hp->Prop} {Q':ASt->MH->Prop},Wf H O M->Er H O M σ ρ->zq H O M v x->a x ρ M Q' ->
  (∀ σ' H' O' ρ' M',Q' ρ' M'->Ext H O M H' O' M'->Wf H' O' M'->Er H' O' M' σ' ρ'->Q σ' H')->g v σ H Q
structure Q9 (g:TGs)(a:AGs):Prop where
 go:∀ {v:List V} {x:List AV} {σ:St} {H:Hp} {O:Own} {ρ:ASt} {M:MH} {Q:St->Hp->Prop} {Q':ASt->MH->Prop},Wf H O M->Er H O M σ ρ->zi H O M v x->a x ρ M Q' ->
  (∀ σ' H' O' ρ' M',Q' ρ' M'->Ext H O M H' O' M'->Wf H' O' M'->Er H' O' M' σ' ρ'->Q σ' H')->g v σ H Q
noncomputable def jw (i:Nat):AG:=fun x ρ M Q=>Q (ρ.set i (some x)) M
theorem Vg:xM (wj i) (jw i):=⟨fun w e r q k=>k _ _ _ _ _ q .refl w (e.set r i)⟩
noncomputable def Xn:AGs:=fun xs ρ M Q=>xs=[]/\Q ρ M
noncomputable def xQ (a:AG)(b:AGs):AGs:=fun xs ρ M Q=>∃ x r,xs=x :: r/\a x ρ M fun ρ' M'=>b r ρ' M' Q
theorem B2:Q9 FX Xn:=⟨fun w e r q k=>by obtain ⟨e1,q⟩:=q;subst e1;exact ⟨r.nil_inv,k _ _ _ _ _ q .refl w e⟩⟩
theorem Vu {u:TGs}{a:AG}{b:AGs}(h1:xM g a)(h2:Q9 u b):Q9 (YE g u) (xQ a b):=⟨fun w e r q k=>by
 obtain ⟨x,r',e1,q⟩:=q;subst e1
 obtain ⟨v,vr,e2,rv,rr⟩:=r.cons_inv
 subst e2
 exact ⟨v,vr,rfl,h1.go w e rv q fun σ' H' O' ρ' M' q1 k1 w1 e1=>h2.go w1 e1 (rr.ext k1) q1 fun σ2 H2 O2 ρ2 M2 q2 k2 w2 e2=>k _ _ _ _ _ q2 (k1.trans k2) w2 e2⟩⟩
noncomputable def XY (n:Nat)(b:AGs):AG:=fun x ρ M Q=>∃ l,x=.d (.tup l)/\l.length=n/\b (l.map .d) ρ M Q
theorem BK {K:ax}{n:Nat}{u:TGs}{b:AGs}(h:Q9 u b):xM (Kr K n u) (XY n b):=⟨fun {v x σ H O ρ M Q Q'} w e r q k=>by
 obtain ⟨l,e1,ln,q⟩:=q;subst e1
 cases (show Rep H O v (.tup l) from r) with
 | @tup a xs _ o1 h1 l1 r1=>exact ⟨a,xs,rfl,SqT.of h1,l1.trans ln,h.go w e (Y9.av ⟨l1,r1⟩) q k⟩⟩
noncomputable def zY (x:AV)(M:MH):Option (List AV):=match x with
 | .d (.lst l)=>some (l.map .d)
 | .ref a=>match M a with
  | some (.lst l)=>some l
  | _=>none
 | _=>none
noncomputable def Lf (x:AV):Option (List AV):=match x with
 | .d (.tup l)=>some (l.map .d)
 | _=>none
noncomputable def qz (x:AV)(M:MH):Option (List AV):=match x with
 | .d (.lst l)=>some (l.map .d)
 | .d (.tup l)=>some (l.map .d)
 | .ref a=>match M a with
  | some (.lst l)=>some l
  | _=>none
 | _=>none
theorem Kt (l:List Dat)(M:MH):zY (.d (.lst l)) M=some (l.map .d):=rfl
theorem LL (l:List Dat):Lf (.d (.tup l))=some (l.map .d):=rfl
theorem WY (l:List Dat)(M:MH):qz (.d (.lst l)) M=some (l.map .d):=rfl
theorem Hm (l:List Dat)(M:MH):qz (.d (.tup l)) M=some (l.map .d):=rfl
theorem qH {l:List AV}(h:M a=some (.lst l)):zY (.ref a) M=some l:=by unfold zY;dsimp only;rw [h]
theorem ql {l:List AV}(h:M a=some (.lst l)):qz (.ref a) M=some l:=by unfold qz;dsimp only;rw [h]
theorem yt {x:AV}{M:MH}{l:List AV}(h:zY x M=some l):(∃ m,x=.d (.lst m)/\l=m.map .d) \/ ∃ a,x=.ref a/\M a=some (.lst l):=by
 cases x with
 | d x=>
  cases x with
  | lst m=>cases h;exact .inl ⟨m,rfl,rfl⟩
  | _=>cases h
 | ref a=>
  unfold zY at h
  dsimp only at h
  cases e:M a with
  | none=>rw [e] at h;cases h
  | some o=>
   rw [e] at h
   cases o with
   | lst m=>cases h;exact .inr ⟨a,rfl,e⟩
   | _=>cases h
theorem jQ {x:AV}{M:MH}{l:List AV}(h:qz x M=some l):zY x M=some l \/ ∃ m,x=.d (.tup m)/\l=m.map .d:=by
 cases x with
 | d x=>
  cases x with
  | lst m=>cases h;exact .inl rfl
  | tup m=>cases h;exact .inr ⟨m,rfl,rfl⟩
  | _=>cases h
 | ref a=>exact .inl h
theorem zX {x:AV}{l:List AV}(w:Wf H O M)(r:zq H O M v x)(h:zY x M=some l):∃ a xs,v=.ref a/\H a=some (.lst xs)/\zi H O M xs l:=by
 rcases yt h with ⟨m,rfl,rfl⟩ | ⟨a,rfl,e⟩
 ·cases (show Rep H O v (.lst m) from r) with
  | @lst a xs _ o1 h1 l1 r1=>exact ⟨a,xs,rfl,h1,Y9.av ⟨l1,r1⟩⟩
 ·obtain ⟨xs,h1,r1⟩:=w.mo a _ e
  exact ⟨a,xs,r.1,h1,r1⟩
theorem jv {H:Hp}{O:Own}{M:MH}{v:V}{x:AV}{l:List AV}(r:zq H O M v x)(h:Lf x=some l):∃ a xs,v=.ref a/\H a=some (.tup xs)/\zi H O M xs l:=by
 cases x with
 | ref a=>cases h
 | d x=>
  cases x with
  | tup m=>
   cases h
   cases (show Rep H O v (.tup m) from r) with
   | @tup a xs _ o1 h1 l1 r1=>exact ⟨a,xs,rfl,h1,Y9.av ⟨l1,r1⟩⟩
  | _=>cases h
theorem QF {x:AV}{l:List AV}(w:Wf H O M)(r:zq H O M v x)(h:qz x M=some l):∃ a xs,v=.ref a/\(H a=some (.lst xs) \/ H a=some (.tup xs))/\zi H O M xs l:=by
 rcases jQ h with e | ⟨m,rfl,rfl⟩
 ·obtain ⟨a,xs,h1,h2,h3⟩:=zX w r e;exact ⟨a,xs,h1,.inl h2,h3⟩
 ·obtain ⟨a,xs,h1,h2,h3⟩:=jv (l:=m.map .d) r rfl;exact ⟨a,xs,h1,.inr h2,h3⟩
structure KL (t:QR)(a:AV->AV->AV->MH->(MH->Prop)->Prop):Prop where
 go:∀ {o i v:V} {ao ai av:AV} {H:Hp} {O:Own} {M:MH} {Q:Hp->Prop} {Q':MH->Prop},Wf H O M->zq H O M o ao->zq H O M i ai->zq H O M v av->a ao ai av M Q'->(∀ M' H' O',Q' M'->Ext H O M H' O' M'->Wf H' O' M'->Q H')->t o i v H Q
noncomputable def GM (a b:AE)(s:AV->AV->AV->MH->(MH->Prop)->Prop):AG:=fun x ρ M Q=>a ρ M fun o M1=>b ρ M1 fun i M2=>s o i x M2 fun M3=>Q ρ M3
theorem Dt {to ti:TE}{t:QR}{a b:AE}{s:AV->AV->AV->MH->(MH->Prop)->Prop}(h1:zD to a)(h2:zD ti b)(h3:KL t s):xM (IX to ti t) (GM a b s):=⟨fun w e r q k=>
 h1.go w e q fun x M1 v H1 O1 q1 k1 w1 r1=>h2.go w1 (e.ext k1) q1 fun y M2 u H2 O2 q2 k2 w2 r2=>h3.go w2 (r1.ext k2) r2 (r.ext (k1.trans k2)) q2 fun M3 H3 O3 q3 k3 w3=>k _ _ _ _ _ q3 ((k1.trans k2).trans k3) w3 (e.ext ((k1.trans k2).trans k3))⟩
theorem qY (h:M p=some o):M p ≠ none:=by rw [h];exact fun z=>nomatch z
noncomputable def asL:AV->AV->AV->MH->(MH->Prop)->Prop:=fun o i v M Q=>∃ p l k j,o=.ref p/\i=.d (.int k)/\M p=some (.lst l)/\ixN l.length k=some j/\Q (mup M p (.lst (l.set j v)))
theorem Bw:KL KM asL:=⟨fun w ro ri rv q k=>by
 obtain ⟨p,l,n,j,rfl,rfl,hm,hj,q⟩:=q
 obtain ⟨xs,hx,rx⟩:=w.mo p _ hm
 have np:=qY hm
 refine ⟨n,zQ ri,p,ro.1,xs,hx,j,by rw [rx.1];exact hj,k _ _ _ q (jY w np _ _) (Qq w np (fun _ z=>nomatch z) ⟨_,zj,(rx.set rv j).ext (jY w np _ _)⟩)⟩⟩
noncomputable def Xi (a:AE)(g:AG):AS:=fun _ D ρ M=>a ρ M fun x M1=>g x ρ M1 D.nx
variable {ag:AG}
theorem Fd {t:TE} {a:AE} (h:zD t a)(hg:xM g ag):jg (ZE t g) (Xi a ag):=⟨fun _ w e x q E=>h.go w e q fun y M1 v H1 O1 q1 k1 w1 r1=>hg.go w1 (e.ext k1) r1 q1 fun σ2 H2 O2 ρ2 M2 q2 k2 w2 e2=>E.nx _ _ _ _ _ w2 e2 ((x.trans k1).trans k2) q2⟩
noncomputable def MA (i j:Nat)(a:AA):AS:=fun _ D ρ M=>a ρ M fun xs M1=>∃ x y,xs=[x,y]/\D.nx ((ρ.set i (some x)).set j (some y)) M1
theorem E6 {t:TA}{a:AA}(h:jq t a):jg (IH i j t) (MA i j a):=⟨fun _ w e x q E=>h.go w e q fun ys M1 vs H1 O1 q1 k1 w1 r1=>by
 obtain ⟨y,z,rfl,q2⟩:=q1
 obtain ⟨v1,r',rfl,a1,r2⟩:=r1.cons_inv
 obtain ⟨v2,r',rfl,a2,r3⟩:=r2.cons_inv
 rw [r3.nil_inv]
 exact ⟨v1,v2,rfl,E.nx _ _ _ _ _ w1 (((e.ext k1).set a1 i).set a2 j) (x.trans k1) q2⟩⟩
structure GP (t:TIp)(a:AR2):Prop where
 go:∀ {x y:V} {dx dy:AV} {H:Hp} {O:Own} {M:MH} {Q:VK} {Q':AK},Wf H O M->zq H O M x dx->zq H O M y dy->a dx dy M Q'->(∀ x M' v H' O',Q' x M'->Ext H O M H' O' M'->Wf H' O' M'->zq H' O' M' v x->Q v H')->t x y H Q
noncomputable def GS (ao ai ae:AE)(gt ip:AR2)(st:AV->AV->AV->MH->(MH->Prop)->Prop):AS:=fun _ D ρ M=>ao ρ M fun o M1=>ai ρ M1 fun i M2=>gt o i M2 fun x M3=>ae ρ M3 fun y M4=>ip x y M4 fun z M5=>st o i z M5 fun M6=>D.nx ρ M6
theorem WX {to ti te:TE}{tg:V->V->Hp->VK->Prop}{tip:TIp}{ts:QR}{ao ai ae:AE}{gt ip:AR2}{st:AV->AV->AV->MH->(MH->Prop)->Prop}(h1:zD to ao)(h2:zD ti ai)(h3:yr tg gt)(h4:zD te ae)(h5:GP tip ip)(h6:KL ts st) :
  jg (DV to ti te tg tip ts) (GS ao ai ae gt ip st):=⟨fun _ w e x q E=>h1.go w e q fun o M1 v1 H1 O1 q1 k1 w1 r1=>h2.go w1 (e.ext k1) q1 fun i M2 v2 H2 O2 q2 k2 w2 r2=>h3.go w2 (r1.ext k2) r2 q2 fun y M3 v3 H3 O3 q3 k3 w3 r3=>
  h4.go w3 (e.ext ((k1.trans k2).trans k3)) q3 fun z M4 v4 H4 O4 q4 k4 w4 r4=>h5.go w4 (r3.ext k4) r4 q4 fun z5 M5 v5 H5 O5 q5 k5 w5 r5=>h6.go w5 (r1.ext (((k2.trans k3).trans k4).trans k5)) (r2.ext ((k3.trans k4).trans k5)) r5 q5 fun M6 H6 O6 q6 k6 w6=>
   E.nx _ _ _ _ _ w6 (e.ext (((((k1.trans k2).trans k3).trans k4).trans k5).trans k6)) (x.trans (((((k1.trans k2).trans k3).trans k4).trans k5).trans k6)) q6⟩
def xI (J:It)(H:Hp)(O:Own)(M:MH)(l:List AV)(G:MH->Prop):Prop:=
 ∀ (H':Hp) (O':Own) (M':MH),(∀ a o,¬ O a->H a=some o->H' a=some o/\¬ O' a)->(∀ a,M a ≠ none->M' a ≠ none)->Wf H' O' M'->G M'->∀ i:Nat,(i=l.length->J.stop i H') /\
  ∀ y,l[i]?=some y->J.go i H'/\∀ x H'',J.yld i H' x H''->Ext H' O' M' H'' O' M'/\Wf H'' O' M'/\zq H'' O' M' x y
structure y6 (wi:TI)(ai:AI):Prop where
 go:∀ {σ:St} {H:Hp} {O:Own} {ρ:ASt} {M:MH} {R:It->Hp->Prop} {R':List AV->(MH->Prop)->MH->Prop},Wf H O M->Er H O M σ ρ->ai ρ M R'->(∀ l G M' J H' O',R' l G M'->Ext H O M H' O' M'->Wf H' O' M'->xI J H' O' M' l G->R J H')->wi σ H R
def Mw (ag:AG)(ab:AS)(B:MH)(D:xY)(G:MH->Prop)(l:List AV)(ρ:ASt)(M:MH):Prop:=
 ∃ Pv:Nat->ASt->MH->Prop,Pv 0 ρ M/\(∀ i x ρ M,l[i]?=some x->Pv i ρ M->G M/\ag x ρ M fun ρ' M'=>ab B { D with nx:=Pv (i+1),ct:=Pv (i+1),bk:=D.nx } ρ' M')/\∀ ρ M,Pv l.length ρ M->G M/\D.nx ρ M
noncomputable def Ft (ai:AI)(ag:AG)(ab:AS):AS:=fun _ D ρ M=>ai ρ M fun l G M1=>Mw ag ab M1 D G l ρ M1
variable {ai:AI}
theorem ZX {t:TS} {ab:AS}(hi:y6 wi ai)(hg:xM g ag)(hb:jg t ab):jg (Z4 wi g t) (Ft ai ag ab):=⟨fun {H0 O0 M0 D D' σ H O ρ M} w0 w e x q E=>by
 rw [Z8]
 refine hi.go w e q fun l G M1 J H1 O1 q1 k1 w1 hj=>?_
 have E1:=E.tr (x.trans k1)
 obtain ⟨Pv,p0,ps,pd⟩:=q1
 refine ⟨fun i m σ H=>m=l.length - i/\i<=l.length/\∃ O ρ M,Wf H O M/\Er H O M σ ρ/\Ext H1 O1 M1 H O M/\Pv i ρ M,⟨l.length,by simp,ci _,O1,ρ,M1,w1,e.ext k1,.refl,p0⟩,?_⟩
 rintro i m σ H ⟨rfl,hi,O,ρ,M,w,e,x,hf⟩
 by_cases hil:i<l.length
 ·have hy:l[i]?=some l[i]:=af hil
  obtain ⟨hG,q2⟩:=ps i l[i] ρ M hy hf
  obtain ⟨j1,j2⟩:=(hj H O M x.fix x.mst w hG i).2 l[i] hy
  refine .inr ⟨j1,fun σ' H'=>∃ O ρ M,Wf H' O M/\Er H' O M σ' ρ/\Ext H1 O1 M1 H' O M/\Pv (i+1) ρ M,fun σ' H' z=>⟨l.length - (i+1),by omega,rfl,hil,z⟩,fun v H' hv=>?_⟩
  obtain ⟨k2,w2,r2⟩:=j2 v H' hv
  refine hg.go w2 (e.ext k2) r2 q2 fun σ3 H3 O3 ρ3 M3 q3 k3 w3 e3=>?_
  exact hb.go w1 w3 e3 ((x.trans k2).trans k3) q3 ⟨fun σ H O ρ M w e x q=>⟨O,ρ,M,w,e,x,q⟩,E1.rt,E1.nx,fun σ H O ρ M w e x q=>⟨O,ρ,M,w,e,x,q⟩⟩
 ·have e0:i=l.length:=by omega
  subst e0
  obtain ⟨hG,q2⟩:=pd ρ M hf
  exact .inl ⟨(hj H O M x.fix x.mst w hG l.length).1 rfl,E1.nx _ _ _ _ _ w e x q2⟩⟩
theorem yf {H H1:Hp}{O O1:Own}{M M1:MH}(w1:Wf H1 O1 M1)(k1:Ext H O M H1 O1 M1){p:aw}(hp:H1 p=none):H p=none:=by
 cases e0:H p with
 | none=>rfl
 | some o=>
  exfalso
  by_cases c:O p
  ·by_cases c2:M p=none
   ·exact w1.ne p (k1.prv p c c2).2.1 hp
   ·exact w1.ne p (w1.own p (k1.mst p c2)) hp
  ·rw [(k1.fix p o c e0).1] at hp;cases hp
theorem VM {x:AV}{l:List AV}(r:zq H O M (.ref a) x)(h:zY x M=some l):xI (Itl K a) H O M l (fun M'=>zY x M'=some l):=by
 intro H' O' M' fix mst w' hG i
 obtain ⟨a',xs,e,h1,r1⟩:=zX w' (r.imp fix mst) hG
 cases e
 refine ⟨fun e=>⟨xs,SqL.of h1,by rw [r1.1];omega⟩,fun y hy=>?_⟩
 obtain ⟨v,hv,rv⟩:=r1.get hy
 refine ⟨⟨xs,v,SqL.of h1,hv⟩,fun z H'' hz=>?_⟩
 obtain ⟨e1,e2⟩:=hz
 subst e1
 have:=e2 xs (SqL.of h1)
 rw [hv] at this;cases this
 exact ⟨.refl,w',rv⟩
theorem Ak {x:AV}{l:List AV}(r:zq H O M (.ref a) x)(h:Lf x=some l):xI (Itt K a) H O M l (fun _=>True):=by
 intro H' O' M' fix mst w' hG i
 obtain ⟨a',xs,e,h1,r1⟩:=jv (r.imp fix mst) h
 cases e
 refine ⟨fun e=>⟨xs,SqT.of h1,by rw [r1.1];omega⟩,fun y hy=>?_⟩
 obtain ⟨v,hv,rv⟩:=r1.get hy
 refine ⟨⟨xs,v,SqT.of h1,hv⟩,fun z H'' hz=>?_⟩
 obtain ⟨e1,e2⟩:=hz
 subst e1
 have:=e2 xs (SqT.of h1)
 rw [hv] at this;cases this
 exact ⟨.refl,w',rv⟩
noncomputable def aiS (a:AE):AI:=fun ρ M R=>a ρ M fun x M1=>∃ l,qz x M1=some l/\R l (fun M'=>qz x M'=some l) M1
variable {J:It}
theorem xI.mono {l:List AV}{G G':MH->Prop}(h:xI J H O M l G)(k:∀ M,G' M->G M):xI J H O M l G':=fun H' O' M' fix mst w' hG=>h H' O' M' fix mst w' (k _ hG)
theorem La {t:TE}{a:AE}(h:zD t a):y6 (iLT K t) (aiS a):=⟨fun w e q k=>h.go w e q fun x M1 v H1 O1 ⟨l,hl,q1⟩ k1 w1 r1=>by
 rcases jQ hl with hl' | ⟨m,rfl,rfl⟩
 ·obtain ⟨a,xs,rfl,h1,_⟩:=zX w1 r1 hl'
  refine ⟨a,rfl,.inl ⟨⟨xs,SqL.of h1⟩,k _ _ _ _ _ _ q1 k1 w1 ((VM r1 hl').mono fun M hM=>?_)⟩⟩
  rcases jQ hM with z | ⟨m,rfl,rfl⟩
  ·exact z
  ·cases hl'
 ·obtain ⟨a,xs,rfl,h1,_⟩:=jv (l:=m.map .d) r1 rfl
  exact ⟨a,rfl,.inr ⟨⟨xs,SqT.of h1⟩,k _ _ _ _ _ _ q1 k1 w1 ((Ak r1 rfl).mono fun _ _=>trivial)⟩⟩⟩
noncomputable def JO (lo c:Int)(n:Nat):List AV:=(bT n).map fun (k:Nat)=>.d (.int (lo+(k:Int) * c))
theorem kz (lo c:Int)(n:Nat):(JO lo c n).length=n:=by simp [JO]
variable {y:AV}
theorem jJ {lo c:Int} (h:(JO lo c n)[i]?=some y):i<n/\y=.d (.int (lo+(i:Int) * c)):=by
 have hi:=(aF.mp h).1
 rw [kz] at hi
 unfold JO at h
 rw [aD,cF hi] at h
 cases h
 exact ⟨hi,rfl⟩
theorem D5 (lo:Int)(n:Nat):xI (Itr lo n) H O M (JO lo 1 n) (fun _=>True):=by
 intro H' O' M' fix mst w' hG i
 refine ⟨fun e=>by rw [kz] at e;exact nL e.symm,fun y hy=>?_⟩
 obtain ⟨hi,rfl⟩:=jJ hy
 refine ⟨hi,fun z H'' hz=>?_⟩
 obtain ⟨rfl,rfl⟩:=hz
 rw [gr]
 exact ⟨.refl,w',.int⟩
noncomputable def MJ (a:AA):AI:=fun ρ M R=>a ρ M fun xs M1=>∃ j:Int,xs=[.d (.int j)]/\-(2 ^ 62)<=j/\j<2 ^ 62/\R (JO 0 1 j.toNat) (fun _=>True) M1
theorem FC {t:TA}{a:AA}(h:jq t a):y6 (BM t) (MJ a):=⟨fun w e q k=>h.go w e q fun x M1 v H1 O1 ⟨j,e1,j1,j2,q1⟩ k1 w1 r1=>by
 subst e1
 obtain ⟨v1,r',rfl,a1,r2⟩:=r1.cons_inv
 rw [r2.nil_inv,zQ a1]
 exact ⟨j,rfl,j1,j2,k _ _ _ _ _ _ q1 k1 w1 (D5 _ _)⟩⟩
noncomputable def wu (m:List Dat):List AV:=(bT m.length).map fun (i:Nat)=>.d (.tup [.int (i:Int),m.getD i .non])
theorem ku (m:List Dat):(wu m).length=m.length:=by simp [wu]
theorem xC {m:List Dat} (h:(wu m)[i]?=some y):∃ d,m[i]?=some d/\y=.d (.tup [.int (i:Int),d]):=by
 have hi:=(aF.mp h).1
 rw [ku] at hi
 unfold wu at h
 rw [aD,cF hi] at h
 cases h
 exact ⟨m[i],af hi,by dsimp only;rw [aq,af hi];rfl⟩
theorem wf (w:Wf H O M) (hp:H p=none){x y:V}{d e:Dat}(r1:Rep H O x d)(r2:Rep H O y e):Ext H O M (upd H p (.tup [x,y])) O M/\Wf (upd H p (.tup [x,y])) O M/\zq (upd H p (.tup [x,y])) O M (.ref p) (.d (.tup [d,e])):=
 ⟨z0 w hp _,jP w hp _,Rep.tup (w.fresh hp).1 zj rfl fun i z f h1 h2=>by
  match i,h1,h2 with
  | 0,h1,h2=>cases h1;cases h2;exact r1.ext (z0 w hp _)
  | 1,h1,h2=>cases h1;cases h2;exact r2.ext (z0 w hp _)
  | (i+2),h1,_=>cases h1⟩
theorem V1 {x:AV}{m:List Dat}(r:zq H O M (.ref a) x)(h:zY x M=some (m.map .d)):xI (Ite K a) H O M (wu m) (fun M'=>zY x M'=some (m.map .d)):=by
 intro H' O' M' fix mst w' hG i
 obtain ⟨a',xs,e,h1,r1⟩:=zX w' (r.imp fix mst) hG
 cases e
 have l1:=r1.1
 rw [az] at l1
 refine ⟨fun e=>⟨xs,SqL.of h1,by rw [ku] at e;omega⟩,fun y hy=>?_⟩
 obtain ⟨d,hd,rfl⟩:=xC hy
 obtain ⟨v,hv,rv⟩:=r1.get (i:=i) (d:=.d d) (by rw [aD,hd];rfl)
 refine ⟨⟨xs,v,SqL.of h1,hv⟩,fun z H'' hz=>?_⟩
 obtain ⟨p,x',hp,rfl,e2,rfl⟩:=hz
 have:=e2 xs (SqL.of h1)
 rw [hv] at this;cases this
 exact wf w' hp .int rv
theorem Kg {m:List Dat}(r:zq H O M (.ref a) (.d (.tup m))):xI (IQ K a) H O M (wu m) (fun _=>True):=by
 intro H' O' M' fix mst w' hG i
 obtain ⟨a',xs,e,h1,r1⟩:=jv (l:=m.map .d) (r.imp fix mst) rfl
 cases e
 have l1:=r1.1
 rw [az] at l1
 refine ⟨fun e=>⟨xs,SqT.of h1,by rw [ku] at e;omega⟩,fun y hy=>?_⟩
 obtain ⟨d,hd,rfl⟩:=xC hy
 obtain ⟨v,hv,rv⟩:=r1.get (i:=i) (d:=.d d) (by rw [aD,hd];rfl)
 refine ⟨⟨xs,v,SqT.of h1,hv⟩,fun z H'' hz=>?_⟩
 obtain ⟨p,x',hp,rfl,e2,rfl⟩:=hz
 have:=e2 xs (SqT.of h1)
 rw [hv] at this;cases this
 exact wf w' hp .int rv
noncomputable def aiE (a:AA):AI:=fun ρ M R=>a ρ M fun xs M1=>∃ x l m,xs=[x]/\qz x M1=some l/\pur l=some m/\R (wu m) (fun M'=>qz x M'=some l) M1
theorem Xb {x:AV} {l l':List AV}(h:zY x M=some l)(h':qz x M'=some l'):zY x M'=some l':=by
 rcases jQ h' with z | ⟨m,rfl,rfl⟩
 ·exact z
 ·cases h
theorem LH {t:TA}{a:AA}(h:jq t a):y6 (Qf K t) (aiE a):=⟨fun w e q k=>h.go w e q fun xs M1 v H1 O1 ⟨x,l,m,e1,hl,hm,q1⟩ k1 w1 r1=>by
 subst e1
 obtain ⟨v1,r',rfl,a1,r2⟩:=r1.cons_inv
 rw [r2.nil_inv]
 rw [jT hm] at hl q1
 rcases jQ hl with hl' | ⟨m',rfl,e2⟩
 ·obtain ⟨a,xs,rfl,h1,_⟩:=zX w1 a1 hl'
  exact ⟨a,rfl,.inl ⟨⟨xs,SqL.of h1⟩,k _ _ _ _ _ _ q1 k1 w1 ((V1 a1 hl').mono fun M hM=>Xb hl' hM)⟩⟩
 ·obtain rfl:m=m':=by have:=congrArg pur e2;rw [zS,zS] at this;cases this;rfl
  obtain ⟨a,xs,rfl,h1,_⟩:=jv (l:=m.map .d) a1 rfl
  exact ⟨a,rfl,.inr ⟨⟨xs,SqT.of h1⟩,k _ _ _ _ _ _ q1 k1 w1 ((Kg a1).mono fun _ _=>trivial)⟩⟩⟩
noncomputable def Jt (m n:List Dat):List AV:=(bT (min m.length n.length)).map fun (i:Nat)=>.d (.tup [m.getD i .non,n.getD i .non])
theorem wB (m n:List Dat):(Jt m n).length=min m.length n.length:=by simp [Jt]
theorem Q8 {m n:List Dat} (h:(Jt m n)[i]?=some y):∃ d e,m[i]?=some d/\n[i]?=some e/\y=.d (.tup [d,e]):=by
 have hi:=(aF.mp h).1
 rw [wB] at hi
 unfold Jt at h
 rw [aD,cF hi] at h
 cases h
 have h1:i<m.length:=by omega
 have h2:i<n.length:=by omega
 exact ⟨m[i],n[i],af h1,af h2,by dsimp only;rw [aq,af h1,aq,af h2];rfl⟩
theorem W6 {x y:AV}{m n:List Dat}(r:zq H O M (.ref a) x)(h:zY x M=some (m.map .d))(r':zq H O M (.ref b) y)(h':zY y M=some (n.map .d)):xI (Itz K a b) H O M (Jt m n) (fun M'=>zY x M'=some (m.map .d)/\zY y M'=some (n.map .d)):=by
 intro H' O' M' fix mst w' hG i
 obtain ⟨a',xs,e,h1,r1⟩:=zX w' (r.imp fix mst) hG.1
 cases e
 obtain ⟨b',ys,e,h2,r2⟩:=zX w' (r'.imp fix mst) hG.2
 cases e
 have l1:=r1.1
 have l2:=r2.1
 rw [az] at l1 l2
 refine ⟨fun e=>⟨xs,ys,SqL.of h1,SqL.of h2,by rw [wB] at e;omega⟩,fun z hz=>?_⟩
 obtain ⟨d,f,hd,hf,rfl⟩:=Q8 hz
 obtain ⟨v,hv,rv⟩:=r1.get (i:=i) (d:=.d d) (by rw [aD,hd];rfl)
 obtain ⟨u,hu,ru⟩:=r2.get (i:=i) (d:=.d f) (by rw [aD,hf];rfl)
 refine ⟨⟨xs,ys,v,u,SqL.of h1,SqL.of h2,hv,hu⟩,fun z H'' hz=>?_⟩
 obtain ⟨p,x',y',hp,rfl,e2,e3,rfl⟩:=hz
 have:=e2 xs (SqL.of h1)
 rw [hv] at this;cases this
 have:=e3 ys (SqL.of h2)
 rw [hu] at this;cases this
 exact wf w' hp rv ru
noncomputable def aiZ (a:AA):AI:=fun ρ M R=>a ρ M fun xs M1=>∃ x y l l' m n,xs=[x,y]/\zY x M1=some l/\pur l=some m/\zY y M1=some l'/\pur l'=some n/\R (Jt m n) (fun M'=>zY x M'=some l/\zY y M'=some l') M1
theorem IS {t:TA}{a:AA}(h:jq t a):y6 (IB K t) (aiZ a):=⟨fun w e q k=>h.go w e q fun xs M1 v H1 O1 ⟨x,y,l,l',m,n,e1,hl,hm,hl',hn,q1⟩ k1 w1 r1=>by
 subst e1
 obtain ⟨v1,r',rfl,a1,r2⟩:=r1.cons_inv
 obtain ⟨v2,r',rfl,a2,r3⟩:=r2.cons_inv
 rw [r3.nil_inv]
 rw [jT hm] at hl q1
 rw [jT hn] at hl' q1
 obtain ⟨a,xs,rfl,h1,_⟩:=zX w1 a1 hl
 obtain ⟨b,ys,rfl,h2,_⟩:=zX w1 a2 hl'
 exact ⟨a,b,rfl,⟨xs,SqL.of h1⟩,⟨ys,SqL.of h2⟩,k _ _ _ _ _ _ q1 k1 w1 (W6 a1 hl a2 hl')⟩⟩
structure yE (D:aw)(H:Hp)(O:Own)(M:MH)(H':Hp)(O':Own)(M':MH):Prop where
 fix:∀ a o,¬ O a->H a=some o->H' a=some o/\¬ O' a
 prv:∀ a,a ≠ D->O a->M a=none->H' a=H a/\O' a/\M' a=none
 mst:∀ a,M a ≠ none->M' a ≠ none
theorem Ext.x {D:aw} (k:Ext H O M H' O' M'):yE D H O M H' O' M':=⟨k.fix,fun a _=>k.prv a,k.mst⟩
theorem yE.trans {D:aw} {M M1 M2:MH}(a:yE D H O M H1 O1 M1)(b:yE D H1 O1 M1 H2 O2 M2):yE D H O M H2 O2 M2:=
 ⟨fun x o h e=>let ⟨e1,h1⟩:=a.fix x o h e;b.fix x o h1 e1,fun x hx h e=>by
  obtain ⟨e1,h1,n1⟩:=a.prv x hx h e
  obtain ⟨e2,h2,n2⟩:=b.prv x hx h1 n1
  exact ⟨e2.trans e1,h2,n2⟩,fun x h=>b.mst x (a.mst x h)⟩
theorem yE.set {D:aw} (hO:O D)(o:HO):yE D H O M (upd H D o) O M:=⟨vv hO o,fun a ha h e=>⟨zg ha,h,e⟩,fun _ h=>h⟩
theorem Er.imp (e:Er H O M σ ρ)(k:∀ a o,¬ O a->H a=some o->H' a=some o/\¬ O' a)(hm:∀ a,M a ≠ none->M' a ≠ none):Er H' O' M' σ ρ:=⟨e.len,fun i x h=>let ⟨v,h1,h2⟩:=e.get i x h;⟨v,h1,h2.imp k hm⟩⟩
abbrev ATR:=List AV->ASt->MH->(List AV->ASt->MH->Prop)->Prop
structure XC (D:aw)(tr:TR)(a:ATR):Prop where
 go:∀ {σ:St} {H:Hp} {O:Own} {ρ:ASt} {M:MH} {acc:List AV} {ys:List V} {N:St->Hp->Prop} {N':List AV->ASt->MH->Prop},Wf H O M->Er H O M σ ρ->O D->M D=none->H D=some (.lst ys)->zi H O M ys acc->a acc ρ M N' ->
  (∀ acc' ρ' M' σ' H' O' ys',N' acc' ρ' M'->yE D H O M H' O' M'->Wf H' O' M'->Er H' O' M' σ' ρ'->O' D->M' D=none->H' D=some (.lst ys')->zi H' O' M' ys' acc'->N σ' H')->tr σ H N
noncomputable def yX (a:AE):ATR:=fun acc ρ M N=>a ρ M fun x M1=>acc.length<aM/\N (acc ++ [x]) ρ M1
theorem we {D:aw}{t:TE}{a:AE}(h:zD t a):XC D (Ko t D) (yX a):=⟨fun {σ H O ρ M acc ys N N'} w e o m hd r q k=>h.go w e q fun x M1 v H1 O1 ⟨q0,q1⟩ k1 w1 r1=>by
 obtain ⟨e1,o1,m1⟩:=k1.prv D o m
 have r':=r.ext k1
 refine ⟨ys,e1.trans hd,by rw [r.1];exact q0,k _ _ _ _ _ _ (ys ++ [v]) q1 (k1.x.trans (yE.set o1 _)) (Km w1 o1 m1 (e1.trans hd) _ (fun _ z=>nomatch z)) ((e.ext k1).imp (vv o1 _) (fun _ z=>z)) o1 m1 zj ((r'.snoc r1).imp (vv o1 _) (fun _ z=>z))⟩⟩
def Wz (ag:AG)(at_:AT)(tr:ATR)(G:MH->Prop)(N:List AV->ASt->MH->Prop)(l acc:List AV)(ρ:ASt)(M:MH):Prop:=
 ∃ Pv:Nat->List AV->ASt->MH->Prop,Pv 0 acc ρ M/\(∀ i x acc ρ M,l[i]?=some x->Pv i acc ρ M->G M/\ag x ρ M fun ρ2 M2=>at_ ρ2 M2 fun b M3=>if b=true then tr acc ρ2 M3 (Pv (i+1)) else Pv (i+1) acc ρ2 M3)/\∀ acc ρ M,Pv l.length acc ρ M->G M/\N acc ρ M
variable {atr:ATR} {G:MH->Prop}
theorem Ls {D:aw} {tr:TR} {at_:AT} (hg:xM g ag)(ht:kC tt at_)(hr:XC D tr atr) {M1:MH}{l:List AV} (hj:xI J H1 O1 M1 l G){N':List AV->ASt->MH->Prop}{N:St->Hp->Prop}
 {acc:List AV} (w:Wf H1 O1 M1) (e:Er H1 O1 M1 σ ρ) (o:O1 D) (m:M1 D=none) (hd:H1 D=some (.lst ys)) (r:zi H1 O1 M1 ys acc) (q:Wz ag at_ atr G N' l acc ρ M1)
  (k:∀ acc' ρ' M' σ' H' O' ys',N' acc' ρ' M'->yE D H1 O1 M1 H' O' M'->Wf H' O' M'->Er H' O' M' σ' ρ'->O' D->M' D=none->H' D=some (.lst ys')->zi H' O' M' ys' acc'->N σ' H'):CL J g tt tr N σ H1:=by
 obtain ⟨Pv,p0,ps,pd⟩:=q
 refine ⟨fun i n σ H=>n=l.length - i/\i<=l.length/\∃ O ρ M acc ys,Wf H O M/\Er H O M σ ρ/\yE D H1 O1 M1 H O M/\O D/\M D=none/\H D=some (.lst ys)/\zi H O M ys acc/\Pv i acc ρ M,
  ⟨l.length,by simp,ci _,O1,ρ,M1,acc,ys,w,e,Ext.refl.x,o,m,hd,r,p0⟩,?_⟩
 rintro i n σ H ⟨rfl,hi,O,ρ,M,acc,ys,w,e,x,o,m,hd,r,hf⟩
 by_cases hil:i<l.length
 ·have hy:l[i]?=some l[i]:=af hil
  obtain ⟨hG,q2⟩:=ps i l[i] acc ρ M hy hf
  obtain ⟨j1,j2⟩:=(hj H O M x.fix x.mst w hG i).2 l[i] hy
  refine .inr ⟨j1,fun σ' H'=>∃ O ρ M acc ys,Wf H' O M/\Er H' O M σ' ρ/\yE D H1 O1 M1 H' O M/\O D/\M D=none/\H' D=some (.lst ys)/\zi H' O M ys acc/\Pv (i+1) acc ρ M,fun σ' H' z=>⟨l.length - (i+1),by omega,rfl,hil,z⟩,fun v H' hv=>?_⟩
  obtain ⟨k2,w2,r2⟩:=j2 v H' hv
  refine hg.go w2 (e.ext k2) r2 q2 fun σ3 H3 O3 ρ3 M3 q3 k3 w3 e3=>?_
  refine ht.go w3 e3 q3 fun b M4 H4 O4 q4 k4 w4=>?_
  have k24:=(k2.trans k3).trans k4
  obtain ⟨d4,o4,m4⟩:=k24.prv D o m
  have r4:=r.ext k24
  cases b with
  | true=>
   exact hr.go w4 (e3.ext k4) o4 m4 (d4.trans hd) r4 q4 fun acc' ρ' M' σ' H' O' ys' q5 k5 w5 e5 o5 m5 d5 r5=>⟨O',ρ',M',acc',ys',w5,e5,(x.trans k24.x).trans k5,o5,m5,d5,r5,q5⟩
  | false=>
   exact ⟨O4,ρ3,M4,acc,ys,w4,e3.ext k4,x.trans k24.x,o4,m4,d4.trans hd,r4,q4⟩
 ·have e0:i=l.length:=by omega
  subst e0
  obtain ⟨hG,q2⟩:=pd acc ρ M hf
  exact .inl ⟨(hj H O M x.fix x.mst w hG l.length).1 rfl,k _ _ _ _ _ _ _ q2 x w e o m hd r⟩
noncomputable def Yr (ts:List Nat)(ai:AI)(ag:AG)(at_:AT)(atr:ATR):AF:=fun ρ M Q=>ai ρ M fun l G M1=>Wz ag at_ atr G (fun acc _ M'=>Q acc M') l [] (JZ ts ρ) M1
theorem JK {tr:aw->TR} {at_:AT} (hi:y6 wi ai)(hg:xM g ag)(ht:kC tt at_)(hr:∀ D,XC D (tr D) atr):QN (W1 ts wi g tt tr) (Yr ts ai ag at_ atr):=⟨fun {σ H O ρ M Q Q'} w e q k=>by
 refine hi.go w e q fun l G M1 J H1 O1 q1 k1 w1 hj D hD=>?_
 have kp:=qv w1 hD (.lst [])
 have hj':xI J (upd H1 D (.lst [])) (xW O1 D) M1 l G:=fun H' O' M' fix mst w' hG=>hj H' O' M' (fun a o ha ho=>fix a o (kp.fix a o ha ho).2 (kp.fix a o ha ho).1) mst w' hG
 refine Ls hg ht (hr D) hj' (j6 w1 hD _ (fun _ z=>nomatch z)) (((e.ext k1).clr ts).ext kp) (.inl rfl) (w1.fresh hD).2 zj .nil q1 fun acc' ρ' M' σ' H' O' ys' q5 k5 w5 e5 o5 m5 d5 r5=>?_
 have hH:=yf w1 k1 hD
 refine k _ _ _ _ _ _ q5 ⟨fun a o ha ho=>?_,fun a ha hm=>?_,fun a hm=>k5.mst a (k1.mst a hm)⟩ w5 o5 m5 hH d5 r5
 ·obtain ⟨x1,x2⟩:=(k1.trans kp).fix a o ha ho
  exact k5.fix a o x2 x1
 ·obtain ⟨x1,x2,x3⟩:=(k1.trans kp).prv a ha hm
  obtain ⟨y1,y2,y3⟩:=k5.prv a (fun z=>w.ne a ha (by rw [z];exact hH)) x2 x3
  exact ⟨y1.trans x1,y2,y3⟩⟩
variable {ae:AE}
theorem Vi {at_:AT} (hi:y6 wi ai)(hg:xM g ag)(ht:kC tt at_)(he:zD te ae):QN (Jx ts wi g tt te) (Yr ts ai ag at_ (yX ae)):=
 ⟨fun w e q k=>(JK (ts:=ts) (tr:=Ko te) hi hg ht fun D=>we he).go w e q k⟩
noncomputable def aI (C:Int->Int->Prop)(g:Int->Int->Dat):AR2:=fun x y M Q=>∃ i j,x=.d (.int i)/\y=.d (.int j)/\C i j/\Q (.d (g i j)) M
noncomputable def aI0 (g:Int->Int->Dat):AR2:=fun x y M Q=>∃ i j,x=.d (.int i)/\y=.d (.int j)/\Q (.d (g i j)) M
theorem Hl {C:Int->Int->Prop}{f:Int->Int->Int}:yr (rI C fun i j=>.int (f i j)) (aI C fun i j=>.int (f i j)):=⟨fun w r1 r2 ⟨i,j,e1,e2,c,q⟩ k=>by
 subst e1 e2;exact ⟨i,j,zQ r1,zQ r2,c,k _ _ _ _ _ q .refl w .int⟩⟩
theorem FY {f:Int->Int->Int}:yr (rI0 fun i j=>.int (f i j)) (aI0 fun i j=>.int (f i j)):=⟨fun w r1 r2 ⟨i,j,e1,e2,q⟩ k=>by
 subst e1 e2;exact ⟨i,j,zQ r1,zQ r2,k _ _ _ _ _ q .refl w .int⟩⟩
theorem Af {f:Int->Int->Bool}:yr (rI0 fun i j=>.bl (f i j)) (aI0 fun i j=>.bl (f i j)):=⟨fun w r1 r2 ⟨i,j,e1,e2,q⟩ k=>by
 subst e1 e2;exact ⟨i,j,zQ r1,zQ r2,k _ _ _ _ _ q .refl w .bl⟩⟩
theorem EZ {f:Int->Int->Int}:GP (ipI f) (aI0 fun i j=>.int (f i j)):=⟨fun w r1 r2 ⟨i,j,e1,e2,q⟩ k=>by
 subst e1 e2;exact ⟨i,j,zQ r1,zQ r2,k _ _ _ _ _ q .refl w .int⟩⟩
noncomputable def aU (g:Int->Dat):AV->MH->AK->Prop:=fun x M Q=>∃ i,x=.d (.int i)/\Q (.d (g i)) M
theorem HB {f:Int->Int}:L8 (rU fun i=>.int (f i)) (aU fun i=>.int (f i)):=⟨fun w r1 ⟨i,e1,q⟩ k=>by
 subst e1;exact ⟨i,zQ r1,k _ _ _ _ _ q .refl w .int⟩⟩
noncomputable def eqS:Dat->Dat->Option Bool
 | .non,.non=>some true | .non,.int _=>some false | .int _,.non=>some false | .non,.bl _=>some false | .bl _,.non=>some false | .non,.str _=>some false | .str _,.non=>some false
 | .int i,.int j=>some (decide (i=j)) | .bl a,.bl b=>some (decide (a=b)) | .str a,.str b=>some (decide (a=b))
 | .int _,.str _=>some false | .str _,.int _=>some false | .bl _,.str _=>some false | .str _,.bl _=>some false
 | _,_=>none
noncomputable def xN:AV->Bool
 | .d .non=>true
 | _=>false
theorem Q6 {H:Hp}{O:Own}{M:MH}{v:V}{x:AV}(r:zq H O M v x):decide (v=V.non)=xN x:=by
 cases x with
 | ref a=>rw [r.1];rfl
 | d x=>cases (show Rep H O v x from r) <;> rfl
noncomputable def IZ (f:Bool->Bool):AR2:=fun x y M Q=>y=.d .non/\Q (.d (.bl (f (xN x)))) M
theorem Em:yr (fun x y H Q=>y=V.non/\Q (V.bl (decide (x=V.non))) H) (IZ id):=⟨fun w r1 r2 ⟨e,q⟩ k=>by
 subst e;exact ⟨vm r2,by rw [Q6 r1];exact k _ _ _ _ _ q .refl w .bl⟩⟩
theorem AB:yr (fun x y H Q=>y=V.non/\Q (V.bl (!decide (x=V.non))) H) (IZ not):=⟨fun w r1 r2 ⟨e,q⟩ k=>by
 subst e;exact ⟨vm r2,by rw [Q6 r1];exact k _ _ _ _ _ q .refl w .bl⟩⟩
noncomputable def L9 (f:Bool->Bool->Bool):AR2:=fun x y M Q=>∃ a b,x=.d (.bl a)/\y=.d (.bl b)/\Q (.d (.bl (f a b))) M
theorem Fz {f:Bool->Bool->Bool}:yr (Lw f) (L9 f):=⟨fun w r1 r2 ⟨a,b,e1,e2,q⟩ k=>by
 subst e1 e2;exact ⟨a,b,jH r1,jH r2,k _ _ _ _ _ q .refl w .bl⟩⟩
theorem Yf {H:Hp}{O:Own}{M:MH}{xs:List V}{l:List AV}(r:zi H O M xs l){i:Int}{x:AV}(h:atI l i=some x):∃ v,atI xs i=some v/\zq H O M v x:=by
 unfold atI at h ⊢
 rw [r.1]
 cases e:ixN l.length i with
 | none=>rw [e] at h;cases h
 | some j=>rw [e] at h;exact r.get h
noncomputable def aIx (s:AV->MH->Option (List AV)):AR2:=fun x y M Q=>∃ l i z,s x M=some l/\y=.d (.int i)/\atI l i=some z/\Q z M
theorem Fp:yr (EQ K) (aIx zY):=⟨fun w r1 r2 ⟨l,i,z,h,e,hz,q⟩ k=>by
 subst e
 obtain ⟨a,xs,rfl,h1,r⟩:=zX w r1 h
 obtain ⟨v,hv,rv⟩:=Yf r hz
 exact ⟨a,xs,i,v,rfl,zQ r2,SqL.of h1,hv,k _ _ _ _ _ q .refl w rv⟩⟩
theorem DD:yr (XZ K) (aIx qz):=⟨fun w r1 r2 ⟨l,i,z,h,e,hz,q⟩ k=>by
 subst e
 obtain ⟨a,xs,rfl,h1,r⟩:=QF w r1 h
 obtain ⟨v,hv,rv⟩:=Yf r hz
 exact ⟨a,xs,i,v,rfl,zQ r2,h1.elim (fun h=>.inl (SqL.of h)) (fun h=>.inr (SqT.of h)),hv,k _ _ _ _ _ q .refl w rv⟩⟩
structure V9 (r:R2)(a:AV->AV->MH->(List AV->Prop)->Prop):Prop where
 go:∀ {x y:V} {dx dy:AV} {H:Hp} {O:Own} {M:MH} {Q:VK} {Q':List AV->Prop},Wf H O M->zq H O M x dx->zq H O M y dy->a dx dy M Q'->(∀ l ys,Q' l->zi H O M ys l->∀ p,H p=none->Q (.ref p) (upd H p (.lst ys)))->r x y H Q
noncomputable def fOp (r:AV->AV->MH->(List AV->Prop)->Prop)(a b:AE):AF:=fun ρ M Q=>a ρ M fun x M1=>b ρ M1 fun y M2=>r x y M2 fun l=>Q l M2
theorem Qi {ra:AV->AV->MH->(List AV->Prop)->Prop}{t u:TE}{a b:AE}(hr:V9 r ra)(h1:zD t a)(h2:zD u b):QN (tOp r t u) (fOp ra a b):=
 ⟨fun w e q k=>h1.go w e q fun x M1 v H1 O1 q1 k1 w1 r1=>h2.go w1 (e.ext k1) q1 fun y M2 u H2 O2 q2 k2 w2 r2=>hr.go w2 (r1.ext k2) r2 q2 fun l ys q3 r3 p hp=>
  k l M2 p ys _ _ q3 ((k1.trans k2).trans (qv w2 hp _)) (j6 w2 hp _ (fun _ z=>nomatch z)) (.inl rfl) (w2.fresh hp).2 (yf w2 (k1.trans k2) hp) zj (r3.ext (qv w2 hp _))⟩
noncomputable def Le:AV->AV->MH->(List AV->Prop)->Prop:=fun x y M Q=>∃ l m,zY x M=some l/\zY y M=some m/\l.length+m.length<=aM/\Q (l ++ m)
theorem Q7:V9 E9 Le:=⟨fun w r1 r2 ⟨l,m,h1,h2,hs,q⟩ k=>by
 obtain ⟨a,xs,rfl,e1,p1⟩:=zX w r1 h1
 obtain ⟨b,ys,rfl,e2,p2⟩:=zX w r2 h2
 exact ⟨a,b,xs,ys,rfl,rfl,e1,e2,by rw [p1.1,p2.1];exact hs,k _ _ q (p1.append p2)⟩⟩
theorem zi.rep {H:Hp}{O:Own}{M:MH}{xs:List V}{l:List AV}(a:zi H O M xs l):∀ k:Nat,zi H O M (aS k xs).flatten (aS k l).flatten
 | 0=>.nil
 | k+1=>by rw [dr,dr,eB,eB];exact a.append (zi.rep a k)
noncomputable def HR:AV->AV->MH->(List AV->Prop)->Prop:=fun x y M Q=>∃ l k,zY x M=some l/\y=.d (.int k)/\-(2 ^ 63)<=k/\k<2 ^ 63/\l.length * k.toNat<=aM/\Q (aS k.toNat l).flatten
theorem JE:V9 E2 HR:=⟨fun w r1 r2 ⟨l,n,h1,e,b1,b2,hs,q⟩ k=>by
 subst e
 obtain ⟨a,xs,rfl,e1,p1⟩:=zX w r1 h1
 exact ⟨a,n,xs,rfl,zQ r2,e1,b1,b2,by rw [p1.1];exact hs,k _ _ q (p1.rep _)⟩⟩
abbrev AO:=ASt->MH->(Option Int->MH->Prop)->Prop
structure QB (t:TO)(a:AO):Prop where
 go:∀ {σ:St} {H:Hp} {O:Own} {ρ:ASt} {M:MH} {Q:Option Int->Hp->Prop} {Q':Option Int->MH->Prop},Wf H O M->Er H O M σ ρ->a ρ M Q'->(∀ x M' H' O',Q' x M'->Ext H O M H' O' M'->Wf H' O' M'->Q x H')->t σ H Q
noncomputable def Gp:AO:=fun _ M Q=>Q none M
noncomputable def XM (a:AE):AO:=fun ρ M Q=>a ρ M fun x M1=>∃ i,x=.d (.int i)/\Q (some i) M1
theorem EF:QB ZL Gp:=⟨fun w _ q k=>k _ _ _ _ q .refl w⟩
theorem Wu {t:TE}{a:AE}(h:zD t a):QB (DS t) (XM a):=⟨fun w e q k=>h.go w e q fun x M1 v H1 O1 ⟨i,e1,q1⟩ k1 w1 r1=>by
 subst e1;exact ⟨i,zQ r1,k _ _ _ _ q1 k1 w1⟩⟩
noncomputable def qN {α:Type}(xs:List α)(lo hi:Option Int):List α:=(xs.drop (HT.sIx xs.length 0 lo)).take (HT.sIx xs.length xs.length hi - HT.sIx xs.length 0 lo)
theorem zi.cut {l:List AV}(a:zi H O M xs l)(lo hi:Option Int):zi H O M (wF xs lo hi) (qN l lo hi):=by
 unfold wF qN
 rw [a.1]
 exact (a.drop _).take _
theorem Js {α β:Type}(f:α->β)(l:List α)(lo hi:Option Int):qN (l.map f) lo hi=(qN l lo hi).map f:=by
 unfold qN
 rw [az,<- lg,<- m9]
noncomputable def fSl (a:AE)(lo hi:AO):AF:=fun ρ M Q=>a ρ M fun x M1=>lo ρ M1 fun i M2=>hi ρ M2 fun j M3=>∃ l,zY x M3=some l/\Q (qN l i j) M3
variable {tl th:TO} {lo hi:AO}
theorem Fu {t:TE} {a:AE} (h1:zD t a)(h2:QB tl lo)(h3:QB th hi):QN (tSl (Ig K) t tl th) (fSl a lo hi):=
 ⟨fun w e q k=>h1.go w e q fun x M1 v H1 O1 q1 k1 w1 r1=>h2.go w1 (e.ext k1) q1 fun i M2 H2 O2 q2 k2 w2=>h3.go w2 (e.ext (k1.trans k2)) q2 fun j M3 H3 O3 ⟨l,hl,q3⟩ k3 w3=>by
  obtain ⟨a,xs,rfl,e1,p1⟩:=zX w3 (r1.ext (k2.trans k3)) hl
  exact ⟨a,xs,rfl,SqL.of e1,fun p hp=>k _ _ p _ _ _ q3 (((k1.trans k2).trans k3).trans (qv w3 hp _)) (j6 w3 hp _ (fun _ z=>nomatch z)) (.inl rfl) (w3.fresh hp).2 (yf w3 ((k1.trans k2).trans k3) hp) zj ((p1.cut i j).ext (qv w3 hp _))⟩⟩
theorem yg (w:Wf H O M) (hp:H p=none) {l:List Dat}(r:zi H O M xs (l.map .d)):zq (upd H p (.tup xs)) O M (.ref p) (.d (.tup l)):=
 have r2:=r.pure
 Rep.tup (w.fresh hp).1 zj r2.1 fun i x d e1 e2=>(r2.2 i x d e1 e2).ext (z0 w hp _)
noncomputable def Mv (a:AE)(lo hi:AO):AE:=fun ρ M Q=>a ρ M fun x M1=>lo ρ M1 fun i M2=>hi ρ M2 fun j M3=>∃ l,x=.d (.tup l)/\¬ (HT.sIx l.length 0 i=0/\HT.sIx l.length l.length j=l.length)/\Q (.d (.tup (qN l i j))) M3
theorem FG {t:TE} {a:AE} (h1:zD t a)(h2:QB tl lo)(h3:QB th hi):zD (tSl (Lq K) t tl th) (Mv a lo hi):=
 ⟨fun w e q k=>h1.go w e q fun x M1 v H1 O1 q1 k1 w1 r1=>h2.go w1 (e.ext k1) q1 fun i M2 H2 O2 q2 k2 w2=>h3.go w2 (e.ext (k1.trans k2)) q2 fun j M3 H3 O3 ⟨l,hl,hn,q3⟩ k3 w3=>by
  subst hl
  obtain ⟨a,xs,rfl,e1,p1⟩:=jv (l:=l.map .d) (r1.ext (k2.trans k3)) rfl
  have l1:=p1.1
  rw [az] at l1
  refine ⟨a,xs,rfl,SqT.of e1,by rw [l1];exact hn,fun p hp=>?_⟩
  have p2:=p1.cut i j
  rw [Js] at p2
  exact k _ _ _ _ _ q3 (((k1.trans k2).trans k3).trans (z0 w3 hp _)) (jP w3 hp _) (yg w3 hp p2)⟩
theorem zi.reverse {l:List AV}(a:zi H O M xs l):zi H O M xs.reverse l.reverse:=
 ⟨by rw [bn,bn,a.1],fun i x d h1 h2=>by
  have hi:=(aF.mp h1).1
  rw [bn] at hi
  rw [ei hi] at h1
  rw [ei (by rw [<- a.1];exact hi),<- a.1] at h2
  exact a.2 _ x d h1 h2⟩
noncomputable def Mc (a:AE)(st:AO):AE:=fun ρ M Q=>a ρ M fun x M1=>st ρ M1 fun i M2=>i=some (-1)/\((∃ m l,zY x M2=some m/\pur m=some l/\Q (.d (.lst l.reverse)) M2) \/ (∃ l,x=.d (.tup l)/\Q (.d (.tup l.reverse)) M2))
theorem Gm {t:TE}{ts:TO}{a:AE}{st:AO}(h1:zD t a)(h2:QB ts st):zD (LM K t ts) (Mc a st):=
 ⟨fun w e q k=>h1.go w e q fun x M1 v H1 O1 q1 k1 w1 r1=>h2.go w1 (e.ext k1) q1 fun i M2 H2 O2 ⟨hi,q2⟩ k2 w2=>⟨hi,by
  have k12:=k1.trans k2
  rcases q2 with ⟨m,l,hl,hp,q2⟩ | ⟨l,rfl,q2⟩
  ·rw [jT hp] at hl
   obtain ⟨a,xs,rfl,e1,p1⟩:=zX w2 (r1.ext k2) hl
   have p2:=p1.reverse
   rw [<- gO] at p2
   have p3:=p2.pure
   exact ⟨a,xs,rfl,.inl ⟨SqL.of e1,fun p hp=>k _ _ _ _ _ q2 (k12.trans (z0 w2 hp _)) (jP w2 hp _) (Rep.lst (w2.fresh hp).1 zj p3.1 fun i x d e1 e2=>(p3.2 i x d e1 e2).ext (z0 w2 hp _))⟩⟩
  ·obtain ⟨a,xs,rfl,e1,p1⟩:=jv (l:=l.map .d) (r1.ext k2) rfl
   have p2:=p1.reverse
   rw [<- gO] at p2
   exact ⟨a,xs,rfl,.inr ⟨SqT.of e1,fun p hp=>k _ _ _ _ _ q2 (k12.trans (z0 w2 hp _)) (jP w2 hp _) (yg w2 hp p2)⟩⟩⟩⟩
noncomputable def He:AR2:=fun x y M Q=>∃ l m,x=.d (.tup l)/\y=.d (.tup m)/\l ≠ []/\l.length+m.length<=aM/\Q (.d (.tup (l ++ m))) M
theorem Az:yr (Xt K) He:=⟨fun w r1 r2 ⟨l,m,e1,e2,hl,hs,q⟩ k=>by
 subst e1 e2
 obtain ⟨a,xs,rfl,h1,p1⟩:=jv (l:=l.map .d) r1 rfl
 obtain ⟨b,ys,rfl,h2,p2⟩:=jv (l:=m.map .d) r2 rfl
 have l1:=p1.1
 have l2:=p2.1
 rw [az] at l1 l2
 refine ⟨a,b,xs,ys,rfl,rfl,SqT.of h1,SqT.of h2,fun z=>hl (eO.mp (by rw [<- l1,z];rfl)),by rw [l1,l2];exact hs,fun z=>?_,fun _ p hp=>?_⟩
 ·have:m=[]:=eO.mp (by rw [<- l2,z];rfl)
  subst this
  rw [cu] at q
  exact k _ _ _ _ _ q .refl w r1
 ·have p3:=p1.append p2
  rw [<- bX] at p3
  exact k _ _ _ _ _ q (z0 w hp _) (jP w hp _) (yg w hp p3)⟩
mutual
noncomputable def eqD:Dat->Dat->Bool
 | .non,.non=>true
 | .bl a,.bl b=>a == b
 | .bl a,.int b=>(if a then 1 else 0) == b
 | .int a,.bl b=>a == (if b then 1 else 0)
 | .int a,.int b=>a == b
 | .str a,.str b=>a == b
 | .lst a,.lst b=>j7 a b
 | .tup a,.tup b=>j7 a b
 | _,_=>false
noncomputable def j7:List Dat->List Dat->Bool
 | [],[]=>true
 | a :: r,b :: r'=>eqD a b && j7 r r'
 | _,_=>false
end
mutual
noncomputable def dp:Dat->Nat
 | .lst l=>dps l+1
 | .tup l=>dps l+1
 | .rng _ _ _=>1000
 | .scr _ _=>1000
 | .ty _=>1000
 | _=>0
noncomputable def dps:List Dat->Nat
 | []=>0
 | a :: r=>max (dp a) (dps r)
end
theorem vR {l:List Dat}{n:Nat}(h:∀ d ∈ l,dp d<=n):dps l<=n:=by
 induction l with
 | nil=>exact ci _
 | cons a r ih=>rw [dps];exact Nat.max_le.mpr ⟨h a (by simp),ih fun d hd=>h d (by simp [hd])⟩
theorem qD {l:List Dat}{d:Dat}(h:d ∈ l):dp d<=dps l:=by
 induction l with
 | nil=>cases h
 | cons a r ih=>
  rw [dps]
  rcases aE.mp h with rfl | h
  ·exact Nat.le_max_left _ _
  ·exact aZ (ih h) (oy _ _)
theorem xi:∀ (l m:List Dat),l.length=m.length->j7 l m=(bT l.length).all fun j=>eqD (l.getD j .non) (m.getD j .non)
 | [],[],_=>rfl
 | a :: r,b :: r',h=>by
  rw [j7,xi r r' (by simpa using h),aN,List.range_succ_eq_map,eG,List.all_map];rfl
 | [],_ :: _,h=>by simp at h
 | _ :: _,[],h=>by simp at h
theorem xv:∀ (l m:List Dat),l.length ≠ m.length->j7 l m=false
 | [],[],h=>absurd rfl h
 | a :: r,b :: r',h=>by rw [j7,xv r r' (fun z=>h (by simp [z])),iB]
 | [],_ :: _,h=>by simp [j7]
 | _ :: _,[],h=>by simp [j7]
theorem BE (l m:List Dat):eqD (.lst l) (.tup m)=false:=by simp [eqD]
theorem DQ (l m:List Dat):eqD (.tup l) (.lst m)=false:=by simp [eqD]
theorem Fc {p:Dat->Prop}(h:∀ a,(∀ b,dp b<dp a->p b)->p a)(a:Dat):p a:=by
 have:∀ n a,dp a<=n->p a:=fun n=>by
  induction n with
  | zero=>intro a ha;exact h a fun b hb=>absurd hb (by omega)
  | succ n ih=>intro a ha;exact h a fun b hb=>ih b (by omega)
 exact this (dp a) a (aJ _)
theorem Zw {l:List Dat}(h:∀ d ∈ l,eqD d d=true):j7 l l=true:=by
 induction l with
 | nil=>rfl
 | cons a r ih=>rw [j7,h a (by simp),ih fun d hd=>h d (by simp [hd])];rfl
theorem Wb {a:Dat}:dp a<1000->eqD a a=true:=by
 refine Fc (p:=fun a=>dp a<1000->eqD a a=true) (fun a ih ha=>?_) a
 cases a with
 | non=>rfl
 | bl b=>rw [eqD];simp
 | int i=>rw [eqD];simp
 | str x=>rw [eqD];simp
 | lst l=>
  rw [eqD]
  rw [dp] at ha ih
  exact Zw fun d hd=>ih d (by have:=qD hd;omega) (by have:=qD hd;omega)
 | tup l=>
  rw [eqD]
  rw [dp] at ha ih
  exact Zw fun d hd=>ih d (by have:=qD hd;omega) (by have:=qD hd;omega)
 | rng a b c=>rw [dp] at ha;omega
 | scr _ l=>rw [dp] at ha;omega
 | ty l=>rw [dp] at ha;omega
theorem Rep.fn {H:Hp}{O O':Own}{v:V}{a b:Dat}(r:Rep H O v a):Rep H O' v b->dp a<1000->dp b<1000->a=b:=by
 induction r generalizing b with
 | non=>intro r' _ _;cases r';rfl
 | bl=>intro r' _ _;cases r';rfl
 | int=>intro r' _ _;cases r';rfl
 | str=>intro r' _ _;cases r';rfl
 | ty=>intro r' h _;rw [dp] at h;omega
 | rng _ _=>intro r' h _;rw [dp] at h;omega
 | scr _ _=>intro r' h _;rw [dp] at h;omega
 | scrK _=>intro r' h _;rw [dp] at h;omega
 | @lst a xs l o1 h1 l1 r1 ih=>
  intro r' ha hb
  cases r' with
  | @lst _ ys m o2 h2 l2 r2=>
   rw [h1] at h2;cases h2
   congr 1
   refine lG (l1.symm.trans l2) fun i i1 i2=>?_
   have i0:i<xs.length:=by omega
   rw [dp] at ha hb
   refine ih i xs[i] l[i] (by simp [i0]) (by simp [i1]) (r2 i xs[i] m[i] (by simp [i0]) (by simp [i2])) ?_ ?_
   ·have:=qD (bh i1);omega
   ·have:=qD (bh i2);omega
  | @tup _ ys m o2 h2=>rw [h1] at h2;cases h2
  | rng o2 h2=>rw [dp] at hb;omega
  | scr o2 h2=>rw [dp] at hb;omega
  | scrK _=>rw [dp] at hb;omega
 | @tup a xs l o1 h1 l1 r1 ih=>
  intro r' ha hb
  cases r' with
  | @tup _ ys m o2 h2 l2 r2=>
   rw [h1] at h2;cases h2
   congr 1
   refine lG (l1.symm.trans l2) fun i i1 i2=>?_
   have i0:i<xs.length:=by omega
   rw [dp] at ha hb
   refine ih i xs[i] l[i] (by simp [i0]) (by simp [i1]) (r2 i xs[i] m[i] (by simp [i0]) (by simp [i2])) ?_ ?_
   ·have:=qD (bh i1);omega
   ·have:=qD (bh i2);omega
  | @lst _ ys m o2 h2=>rw [h1] at h2;cases h2
  | rng o2 h2=>rw [dp] at hb;omega
  | scr o2 h2=>rw [dp] at hb;omega
  | scrK _=>rw [dp] at hb;omega
section
variable {X:Cx}{pins:List (aw × Obj)}{s:au}{σ:St}{H:Hp}
theorem xm {us:List aj}(r:zw xs us) (h:j<us.toArray.size):∃ x,xs[j]?=some x/\zv x us.toArray[j]:=by
 have h':j<us.length:=by simpa using h
 have hx:j<xs.length:=by rw [r.length];exact h'
 obtain ⟨u,hu,ru⟩:=r.get (i:=j) (af hx)
 have e:us.toArray[j]=u:=by
  have:=(aF.mp hu).2
  simpa using this
 exact ⟨xs[j],af hx,by rw [e];exact ru⟩
theorem AD (I : Inv X pins σ H s){A : bj}{p q : aw}{O O' : Own}{a b : Dat}(ih : ∀ (c d : Dat) (v u : V) (v' u' : aj), dp c < dp a -> Rep H O v c -> Rep H O' u d -> dp d < 1000 -> zv v v' -> zv u u' -> bS A.in1 s v' u' (eqD c d))
    (ra:Rep H O (.ref p) a) (rb:Rep H O' (.ref q) b) (ha:dp a<1000) (hb:dp b<1000) (hu:A.units<fW):gP A s (.ref p) (.ref q) (eqD a b):=by
  cases ra with
  | @lst _ xs l o1 h1 l1 r1=>
    obtain ⟨us,u1,p1,z1⟩:=I.list (SqL.of h1)
    cases rb with
    | @lst _ ys m o2 h2 l2 r2=>
      obtain ⟨ws,u2,p2,z2⟩:=I.list (SqL.of h2)
      have s1:us.toArray.size=l.length:=by rw [aG,<- u1.length,l1]
      have s2:ws.toArray.size=m.length:=by rw [aG,<- u2.length,l2]
      by_cases e:l.length=m.length
      · have h := gP.lists (A := A) (e := fun j => eqD (l.getD j .non) (m.getD j .non)) p1.isList p2.isList (by rw [s1, s2, e]) hu (fun j j1 j2 => by
          obtain ⟨x,hx,rx⟩:=xm u1 j1
          obtain ⟨y,hy,ry⟩:=xm u2 j2
          have k1:j<l.length:=by rw [<- s1];exact j1
          have k2:j<m.length:=by rw [<- s2];exact j2
          rw [dp] at ha hb ih
          refine ih _ _ x y _ _ ?_ (r1 j x _ hx ?_) (r2 j y _ hy ?_) ?_ rx ry
          · rw [aq,af k1]
            have:=qD (bh k1);show dp l[j]<_;omega
          · rw [aq,af k1];rfl
          · rw [aq,af k2];rfl
          · rw [aq,af k2]
            have:=qD (bh k2);show dp m[j]<_;omega)
        rw [s1,<- xi l m e] at h
        rw [eqD];exact h
      · rw [eqD,xv l m e]
        exact gP.lists_lengths p1.isList p2.isList (by rw [s1,s2];simpa using e) hu
    | @tup _ ys m o2 h2 l2 r2=>
      obtain ⟨ws,u2,p2,z2⟩:=I.tuple (SqT.of h2)
      rw [BE]
      exact gP.list_tuple p1.isList p2 hu
    | rng o2 h2=>rw [dp] at hb;omega
    | scr o2 h2=>rw [dp] at hb;omega
    | scrK _=>rw [dp] at hb;omega
  | @tup _ xs l o1 h1 l1 r1=>
    obtain ⟨us,u1,p1,z1⟩:=I.tuple (SqT.of h1)
    cases rb with
    | @tup _ ys m o2 h2 l2 r2=>
      obtain ⟨ws,u2,p2,z2⟩:=I.tuple (SqT.of h2)
      have s1:us.toArray.size=l.length:=by rw [aG,<- u1.length,l1]
      have s2:ws.toArray.size=m.length:=by rw [aG,<- u2.length,l2]
      have h := gP.tuples (A := A) (e := fun j => eqD (l.getD j .non) (m.getD j .non)) (show s.heap.IsTuple p us.toArray from p1) (show s.heap.IsTuple q ws.toArray from p2) hu (fun j j1 j2 => by
          obtain ⟨x,hx,rx⟩:=xm u1 j1
          obtain ⟨y,hy,ry⟩:=xm u2 j2
          have k1:j<l.length:=by rw [<- s1];exact j1
          have k2:j<m.length:=by rw [<- s2];exact j2
          rw [dp] at ha hb ih
          refine ih _ _ x y _ _ ?_ (r1 j x _ hx ?_) (r2 j y _ hy ?_) ?_ rx ry
          · rw [aq,af k1]
            have:=qD (bh k1);show dp l[j]<_;omega
          · rw [aq,af k1];rfl
          · rw [aq,af k2];rfl
          · rw [aq,af k2]
            have:=qD (bh k2);show dp m[j]<_;omega)
      rw [s1,s2] at h
      rw [eqD]
      by_cases e:l.length=m.length
      · rw [<- e,nU,beq_self_eq_true,Bool.and_true,<- xi l m e] at h
        exact h
      · rw [xv l m e]
        rw [show (l.length == m.length)=false by simpa using e,iB] at h
        exact h
    | @lst _ ys m o2 h2 l2 r2=>
      obtain ⟨ws,u2,p2,z2⟩:=I.list (SqL.of h2)
      rw [DQ]
      exact gP.tuple_list p1 p2.isList hu
    | rng o2 h2=>rw [dp] at hb;omega
    | scr o2 h2=>rw [dp] at hb;omega
    | scrK _=>rw [dp] at hb;omega
  | rng o2 h2=>rw [dp] at ha;omega
  | scr o2 h2=>rw [dp] at ha;omega
  | scrK _=>rw [dp] at ha;omega
theorem Nh (I:Inv X pins σ H s) (h:H a=some (.lst xs)):∃ us,s.heap.IsList a us:=let ⟨_,_,p,_⟩:=I.list (SqL.of h);⟨_,p.isList⟩
theorem Nj (I:Inv X pins σ H s) (h:H a=some (.tup xs)):∃ us,s.heap.IsTuple a us:=let ⟨_,_,p,_⟩:=I.tuple (SqT.of h);⟨_,p⟩
local macro_rules | `(tactic| walk_at "sc")=>`(tactic| first
 | with_reducible exact .same _ | with_reducible exact .none_none | with_reducible exact .none_bool _ | with_reducible exact .none_int _ _ | with_reducible exact .none_str _ _ | with_reducible exact .bool_none _ | with_reducible exact .bool_bool _ _ | with_reducible exact .bool_int _ _ _ | with_reducible exact .bool_str _ _ _ | with_reducible exact .int_none _ _ | with_reducible exact .int_bool _ _ _ | with_reducible exact .int_int _ _ _ _ | with_reducible exact .int_str _ _ _ _ | with_reducible exact .str_none _ _ | with_reducible exact .str_bool _ _ _ | with_reducible exact .str_int _ _ _ _ | with_reducible exact .str_str _ _ _ _)
theorem ls_ (I:Inv X pins σ H s) (h:H a=some (.lst xs)):s.heap.IsList a (oz (Nh I h)):=mE _
theorem ts_ (I:Inv X pins σ H s) (h:H a=some (.tup xs)):s.heap.IsTuple a (oz (Nj I h)):=mE _
local macro_rules | `(tactic| walk_at "sq")=>`(tactic| first
 | with_reducible exact .none_list (ls_ (by assumption) (by assumption)) (by assumption) | with_reducible exact .bool_list _ (ls_ (by assumption) (by assumption)) (by assumption) | with_reducible exact .int_list _ _ (ls_ (by assumption) (by assumption)) (by assumption) | with_reducible exact .str_list _ _ (ls_ (by assumption) (by assumption)) (by assumption) | with_reducible exact .list_none (ls_ (by assumption) (by assumption)) (by assumption) | with_reducible exact .list_bool _ (ls_ (by assumption) (by assumption)) (by assumption) | with_reducible exact .list_int _ _ (ls_ (by assumption) (by assumption)) (by assumption) | with_reducible exact .list_str _ _ (ls_ (by assumption) (by assumption)) (by assumption)
 | with_reducible exact .none_tuple (ts_ (by assumption) (by assumption)) (by assumption) | with_reducible exact .bool_tuple _ (ts_ (by assumption) (by assumption)) (by assumption) | with_reducible exact .int_tuple _ _ (ts_ (by assumption) (by assumption)) (by assumption) | with_reducible exact .str_tuple _ _ (ts_ (by assumption) (by assumption)) (by assumption) | with_reducible exact .tuple_none (ts_ (by assumption) (by assumption)) (by assumption) | with_reducible exact .tuple_bool _ (ts_ (by assumption) (by assumption)) (by assumption) | with_reducible exact .tuple_int _ _ (ts_ (by assumption) (by assumption)) (by assumption) | with_reducible exact .tuple_str _ _ (ts_ (by assumption) (by assumption)) (by assumption))
theorem XR (I : Inv X pins σ H s){O O' : Own}(A : bj)(hu : A.units < fW)(a b : Dat)(v u : V)(v' u' : aj)(ha : dp a < 1000)(ra : Rep H O v a)(rb : Rep H O' u b)(hb : dp b < 1000)(rv : zv v v')(ru : zv u u')
    (ih:∀ (c d:Dat) (v u:V) (v' u':aj),dp c<dp a->Rep H O v c->Rep H O' u d->dp d<1000->zv v v'->zv u u'->bS A.in1 s v' u' (eqD c d)):bS A s v' u' (eqD a b):=by
  by_cases hr:∃ p q,v=.ref p/\u=.ref q
  · obtain ⟨p,q,rfl,rfl⟩:=hr
    cases rv
    cases ru
    by_cases e:p=q
    · subst e
      rw [<- ra.fn rb ha hb,Wb ha]
      exact .same _
    · exact .of_refs e (AD I ih ra rb ha hb hu)
  · cases ra <;> cases rb <;> first
      | with_reducible exact absurd ⟨_,_,rfl,rfl⟩ hr
      | (rw [dp] at ha;omega)
      | (rw [dp] at hb;omega)
      | ((first | (obtain ⟨t0,rfl⟩:=rv) | cases rv);(first | (obtain ⟨t1,rfl⟩:=ru) | cases ru);simp only [eqD,mP,lh];first | walk_at "sc" | walk_at "sq")
theorem Ws (I:Inv X pins σ H s){O O':Own}:∀ (n:Nat) (A:bj),A.units+n<fW->∀ (a b:Dat) (v u:V) (v' u':aj),dp a<=n->n<1000->Rep H O v a->Rep H O' u b->dp b<1000->zv v v'->zv u u'->bS A s v' u' (eqD a b):=by
 intro n
 induction n with
 | zero=>
  intro A hu a b v u v' u' ha _ ra rb hb rv ru
  exact XR I A (by omega) a b v u v' u' (by omega) ra rb hb rv ru fun _ _ _ _ _ _ h=>absurd h (by omega)
 | succ n ih=>
  intro A hu a b v u v' u' ha hn ra rb hb rv ru
  exact XR I A (by omega) a b v u v' u' (by omega) ra rb hb rv ru fun c d x y x' y' hc rc rd hd rx ry=>ih A.in1 (by show A.units+1+n<_;omega) c d x y x' y' (by omega) (by omega) rc rd hd rx ry
noncomputable def LJ (f:Bool->Bool):R2:=fun x y H Q=>∃ O O' a b,Rep H O x a/\Rep H O' y b/\dp a<=40/\dp b<=40/\Q (.bl (f (eqD a b))) H
theorem IV (I:Inv X pins σ H s) (A:bj)(hu:A.units+41<fW)(a b:Dat)(v u:V)(v' u':aj)(ha:dp a<=40)(ra:Rep H O v a)(rb:Rep H O' u b)(hb:dp b<=40)(rv:zv v v')(ru:zv u u'):gP A s v' u' (eqD a b):=by
  have ih:∀ (c d:Dat) (v u:V) (v' u':aj),dp c<dp a->Rep H O v c->Rep H O' u d->dp d<1000->zv v v'->zv u u'->bS A.in1 s v' u' (eqD c d):=fun c d v u v' u' hc rc rd hd rv ru=>Ws I 40 A.in1 (by show A.units+1+40<_;omega) c d v u v' u' (by omega) (by omega) rc rd hd rv ru
  replace hu:A.units<fW:=by omega
  by_cases hr:∃ p q,v=.ref p/\u=.ref q
  · obtain ⟨p,q,rfl,rfl⟩:=hr
    cases rv
    cases ru
    exact AD I ih ra rb (by omega) (by omega) hu
  · cases ra <;> cases rb <;> first
      | with_reducible exact absurd ⟨_,_,rfl,rfl⟩ hr
      | (rw [dp] at ha;omega)
      | (rw [dp] at hb;omega)
      | ((first | (obtain ⟨t0,rfl⟩:=rv) | cases rv);(first | (obtain ⟨t1,rfl⟩:=ru) | cases ru);simp only [eqD,mP,lh];first | walk_at "sc" | walk_at "sq")
theorem Bf (I : Inv X pins σ H s){A : bj}{p q : aw}{O O' : Own}{a b : Dat}(ih : ∀ (c d : Dat) (v u : V) (v' u' : aj), dp c < dp a -> Rep H O v c -> Rep H O' u d -> dp d < 1000 -> zv v v' -> zv u u' -> bS A.in1 s v' u' (eqD c d))
    (ra:Rep H O (.ref p) a) (rb:Rep H O' (.ref q) b) (ha:dp a<1000) (hb:dp b<1000) (hu:A.units<fW):fK A s (.ref p) (.ref q) (!(eqD a b)):=by
  cases ra with
  | @lst _ xs l o1 h1 l1 r1=>
    obtain ⟨us,u1,p1,z1⟩:=I.list (SqL.of h1)
    cases rb with
    | @lst _ ys m o2 h2 l2 r2=>
      obtain ⟨ws,u2,p2,z2⟩:=I.list (SqL.of h2)
      have s1:us.toArray.size=l.length:=by rw [aG,<- u1.length,l1]
      have s2:ws.toArray.size=m.length:=by rw [aG,<- u2.length,l2]
      by_cases e:l.length=m.length
      · have h := fK.lists (A := A) (e := fun j => eqD (l.getD j .non) (m.getD j .non)) p1.isList p2.isList (by rw [s1, s2, e]) hu (fun j j1 j2 => by
          obtain ⟨x,hx,rx⟩:=xm u1 j1
          obtain ⟨y,hy,ry⟩:=xm u2 j2
          have k1:j<l.length:=by rw [<- s1];exact j1
          have k2:j<m.length:=by rw [<- s2];exact j2
          rw [dp] at ha hb ih
          refine ih _ _ x y _ _ ?_ (r1 j x _ hx ?_) (r2 j y _ hy ?_) ?_ rx ry
          · rw [aq,af k1]
            have:=qD (bh k1);show dp l[j]<_;omega
          · rw [aq,af k1];rfl
          · rw [aq,af k2];rfl
          · rw [aq,af k2]
            have:=qD (bh k2);show dp m[j]<_;omega)
        rw [s1,<- xi l m e] at h
        rw [eqD];exact h
      · rw [eqD,xv l m e]
        exact fK.lists_lengths p1.isList p2.isList (by rw [s1,s2];simpa using e) hu
    | @tup _ ys m o2 h2 l2 r2=>
      obtain ⟨ws,u2,p2,z2⟩:=I.tuple (SqT.of h2)
      rw [BE]
      exact fK.list_tuple p1.isList p2 hu
    | rng o2 h2=>rw [dp] at hb;omega
    | scr o2 h2=>rw [dp] at hb;omega
    | scrK _=>rw [dp] at hb;omega
  | @tup _ xs l o1 h1 l1 r1=>
    obtain ⟨us,u1,p1,z1⟩:=I.tuple (SqT.of h1)
    cases rb with
    | @tup _ ys m o2 h2 l2 r2=>
      obtain ⟨ws,u2,p2,z2⟩:=I.tuple (SqT.of h2)
      have s1:us.toArray.size=l.length:=by rw [aG,<- u1.length,l1]
      have s2:ws.toArray.size=m.length:=by rw [aG,<- u2.length,l2]
      have h := fK.tuples (A := A) (e := fun j => eqD (l.getD j .non) (m.getD j .non)) (show s.heap.IsTuple p us.toArray from p1) (show s.heap.IsTuple q ws.toArray from p2) hu (fun j j1 j2 => by
          obtain ⟨x,hx,rx⟩:=xm u1 j1
          obtain ⟨y,hy,ry⟩:=xm u2 j2
          have k1:j<l.length:=by rw [<- s1];exact j1
          have k2:j<m.length:=by rw [<- s2];exact j2
          rw [dp] at ha hb ih
          refine ih _ _ x y _ _ ?_ (r1 j x _ hx ?_) (r2 j y _ hy ?_) ?_ rx ry
          · rw [aq,af k1]
            have:=qD (bh k1);show dp l[j]<_;omega
          · rw [aq,af k1];rfl
          · rw [aq,af k2];rfl
          · rw [aq,af k2]
            have:=qD (bh k2);show dp m[j]<_;omega)
      rw [s1,s2] at h
      rw [eqD]
      by_cases e:l.length=m.length
      · rw [<- e,nU,beq_self_eq_true,Bool.and_true,<- xi l m e] at h
        exact h
      · rw [xv l m e]
        rw [show (l.length == m.length)=false by simpa using e,iB] at h
        exact h
    | @lst _ ys m o2 h2 l2 r2=>
      obtain ⟨ws,u2,p2,z2⟩:=I.list (SqL.of h2)
      rw [DQ]
      exact fK.tuple_list p1 p2.isList hu
    | rng o2 h2=>rw [dp] at hb;omega
    | scr o2 h2=>rw [dp] at hb;omega
    | scrK _=>rw [dp] at hb;omega
  | rng o2 h2=>rw [dp] at ha;omega
  | scr o2 h2=>rw [dp] at ha;omega
  | scrK _=>rw [dp] at ha;omega
theorem Bb (I:Inv X pins σ H s) (A:bj)(hu:A.units+41<fW)(a b:Dat)(v u:V)(v' u':aj)(ha:dp a<=40)(ra:Rep H O v a)(rb:Rep H O' u b)(hb:dp b<=40)(rv:zv v v')(ru:zv u u'):fK A s v' u' (!(eqD a b)):=by
  have ih:∀ (c d:Dat) (v u:V) (v' u':aj),dp c<dp a->Rep H O v c->Rep H O' u d->dp d<1000->zv v v'->zv u u'->bS A.in1 s v' u' (eqD c d):=fun c d v u v' u' hc rc rd hd rv ru=>Ws I 40 A.in1 (by show A.units+1+40<_;omega) c d v u v' u' (by omega) (by omega) rc rd hd rv ru
  replace hu:A.units<fW:=by omega
  by_cases hr:∃ p q,v=.ref p/\u=.ref q
  · obtain ⟨p,q,rfl,rfl⟩:=hr
    cases rv
    cases ru
    exact Bf I ih ra rb (by omega) (by omega) hu
  · cases ra <;> cases rb <;> first
      | with_reducible exact absurd ⟨_,_,rfl,rfl⟩ hr
      | (rw [dp] at ha;omega)
      | (rw [dp] at hb;omega)
      | ((first | (obtain ⟨t0,rfl⟩:=rv) | cases rv);(first | (obtain ⟨t1,rfl⟩:=ru) | cases ru);simp only [eqD,mP,lh];first | walk_at "sc" | walk_at "sq")
theorem qC (hu:X.A.units+64<fW):OpR X (dY .Eq) (LJ id):=by
 intro pins s σ H x y v u Q I rx ry h
 obtain ⟨O,O',a,b,ra,rb,ha,hb,k⟩:=h
 exact IV I X.A (by omega) a b x y v u ha ra rb hb rx ry _ _ _ _ ⟨.bl _,H,I,rfl,k⟩
theorem xo (hu:X.A.units+64<fW):OpR X (dY .NotEq) (LJ not):=by
 intro pins s σ H x y v u Q I rx ry h
 obtain ⟨O,O',a,b,ra,rb,ha,hb,k⟩:=h
 exact Bb I X.A (by omega) a b x y v u ha ra rb hb rx ry _ _ _ _ ⟨.bl _,H,I,rfl,k⟩
end
noncomputable def ZA (x:AV)(M:MH):Option Dat:=match x with
 | .d x=>some x
 | .ref a=>match M a with
  | some (.lst l)=>(pur l).map .lst
  | _=>none
theorem Lz (x:Dat)(M:MH):ZA (.d x) M=some x:=rfl
variable {ds:List Dat}
theorem Be {l:List AV} (h:M a=some (.lst l))(hp:pur l=some ds):ZA (.ref a) M=some (.lst ds):=by unfold ZA;dsimp only;rw [h];dsimp only;rw [hp];rfl
theorem vZ {H:Hp}{O:Own}{M:MH}{v:V}{x:AV}{d:Dat}(w:Wf H O M)(r:zq H O M v x)(h:ZA x M=some d):∃ O',Rep H O' v d:=by
 cases x with
 | d x=>cases h;exact ⟨O,r⟩
 | ref a=>
  unfold ZA at h
  dsimp only at h
  cases e:M a with
  | none=>rw [e] at h;cases h
  | some o=>
   rw [e] at h
   cases o with
   | lst l=>
    dsimp only at h
    cases ep:pur l with
    | none=>rw [ep] at h;cases h
    | some ds=>
     rw [ep] at h
     cases h
     obtain ⟨xs,hx,rx⟩:=w.mo a _ e
     rw [jT ep] at rx
     have rp:=rx.pure
     refine ⟨FE O a,?_⟩
     rw [r.1]
     exact Rep.lst (fun z=>z.1 rfl) hx rp.1 fun i x d e1 e2=>(rp.2 i x d e1 e2).imp (yw a)
   | _=>cases h
noncomputable def Mf (f:Bool->Bool):AR2:=fun x y M Q=>∃ a b,ZA x M=some a/\ZA y M=some b/\dp a<=40/\dp b<=40/\Q (.d (.bl (f (eqD a b)))) M
theorem Fs {f:Bool->Bool}:yr (LJ f) (Mf f):=⟨fun w r1 r2 ⟨a,b,e1,e2,h1,h2,q⟩ k=>by
 obtain ⟨O1,p1⟩:=vZ w r1 e1
 obtain ⟨O2,p2⟩:=vZ w r2 e2
 exact ⟨O1,O2,a,b,p1,p2,h1,h2,k _ _ _ _ _ q .refl w .bl⟩⟩
theorem kE (i:Int):dp (.int i)=0:=by simp [dp]
theorem vf (ns:List Int):dp (.lst (ns.map .int))<=1:=by
 rw [dp]
 have:dps (ns.map Dat.int)<=0:=vR fun d hd=>by
  obtain ⟨i,_,rfl⟩:=bZ.mp hd
  rw [kE];exact aJ _
 omega
theorem wX:∀ (ns ms:List Int),j7 (ns.map .int) (ms.map .int)=decide (ns=ms)
 | [],[]=>by simp [j7]
 | [],_ :: _=>by simp [j7]
 | _ :: _,[]=>by simp [j7]
 | a :: r,b :: r'=>by
  rw [aY,aY,j7,wX r r',show eqD (.int a) (.int b)=(a == b) by simp [eqD]]
  by_cases h:a=b <;> simp [h]
theorem JG (ns ms:List Int):eqD (.lst (ns.map .int)) (.lst (ms.map .int))=decide (ns=ms):=by rw [eqD,wX]
theorem qV {vs:List V}{x:AV}(r:zi H O M vs [x]):∃ v,vs=[v]/\zq H O M v x:=by
 obtain ⟨v1,r',rfl,a1,r2⟩:=r.cons_inv
 rw [r2.nil_inv];exact ⟨v1,rfl,a1⟩
theorem yF {vs:List V}{x y:AV}(r:zi H O M vs [x,y]):∃ v u,vs=[v,u]/\zq H O M v x/\zq H O M u y:=by
 obtain ⟨v1,r',rfl,a1,r2⟩:=r.cons_inv
 obtain ⟨v2,rfl,a2⟩:=qV r2
 exact ⟨v1,v2,rfl,a1,a2⟩
noncomputable def Gf:List AV->MH->AK->Prop:=fun xs M Q=>∃ x l,xs=[x]/\qz x M=some l/\Q (.d (.int (l.length:Nat))) M
theorem Gk:vc (fun xs H Q=>∃ p ys,xs=[V.ref p]/\(SqL K H p ys \/ SqT K H p ys)/\Q (V.int ys.length) H) Gf:=⟨fun w r ⟨x,l,e,h,q⟩ k=>by
 subst e
 obtain ⟨v,rfl,rv⟩:=qV r
 obtain ⟨a,xs,rfl,h1,r1⟩:=QF w rv h
 exact ⟨a,xs,rfl,h1.elim (fun h=>.inl (SqL.of h)) (fun h=>.inr (SqT.of h)),by rw [r1.1];exact k _ _ _ _ _ q .refl w .int⟩⟩
noncomputable def bI1 (f:Int->Int):List AV->MH->AK->Prop:=fun xs M Q=>∃ i,xs=[.d (.int i)]/\Q (.d (.int (f i))) M
theorem Fj:vc (fun xs H Q=>∃ i,xs=[V.int i]/\Q (V.int (if i<0 then -i else i)) H) (bI1 fun i=>if i<0 then -i else i):=⟨fun w r ⟨i,e,q⟩ k=>by
 subst e
 obtain ⟨v,rfl,rv⟩:=qV r
 exact ⟨i,by rw [zQ rv],k _ _ _ _ _ q .refl w .int⟩⟩
noncomputable def bI2 (f:Int->Int->Int):List AV->MH->AK->Prop:=fun xs M Q=>∃ i j,xs=[.d (.int i),.d (.int j)]/\Q (.d (.int (f i j))) M
theorem HW {f:Int->Int->Int}:vc (fun xs H Q=>∃ i j,xs=[V.int i,V.int j]/\Q (V.int (f i j)) H) (bI2 f):=⟨fun w r ⟨i,j,e,q⟩ k=>by
 subst e
 obtain ⟨v,u,rfl,rv,ru⟩:=yF r
 exact ⟨i,j,by rw [zQ rv,zQ ru],k _ _ _ _ _ q .refl w .int⟩⟩
noncomputable def GC:List AV->MH->AK->Prop:=fun xs M Q=>∃ c,xs=[.d (.bl c)]/\Q (.d (.int (if c=true then 1 else 0))) M
theorem DG:vc (fun xs H Q=>∃ k,xs=[V.bl k]/\Q (V.int (if k=true then 1 else 0)) H) GC:=⟨fun w r ⟨c,e,q⟩ k=>by
 subst e
 obtain ⟨v,rfl,rv⟩:=qV r
 exact ⟨c,by rw [jH rv],k _ _ _ _ _ q .refl w .int⟩⟩
noncomputable def DF:List AV->MH->AK->Prop:=fun xs M Q=>∃ x l ds,xs=[x]/\qz x M=some l/\pur l=some ds/\Q (.d (.tup ds)) M
theorem Vv:vc (fun xs H Q=>∃ p ys,xs=[V.ref p]/\((SqL K H p ys/\∀ l,H l=none->Q (V.ref l) (upd H l (HO.tup ys))) \/ SqT K H p ys/\Q (V.ref p) H)) DF:=⟨fun w r ⟨x,l,ds,e,h,hp,q⟩ k=>by
 subst e
 obtain ⟨v,rfl,rv⟩:=qV r
 rw [jT hp] at h
 rcases jQ h with h' | ⟨m,rfl,e2⟩
 ·obtain ⟨a,xs,rfl,h1,r1⟩:=zX w rv h'
  exact ⟨a,xs,rfl,.inl ⟨SqL.of h1,fun p hp=>k _ _ _ _ _ q (z0 w hp _) (jP w hp _) (yg w hp r1)⟩⟩
 ·obtain rfl:ds=m:=by have:=congrArg pur e2;rw [zS,zS] at this;cases this;rfl
  obtain ⟨a,xs,rfl,h1,r1⟩:=jv (l:=ds.map .d) rv rfl
  exact ⟨a,xs,rfl,.inr ⟨SqT.of h1,k _ _ _ _ _ q .refl w rv⟩⟩⟩
structure Yb (r:List V->Hp->VK->Prop)(a:List AV->MH->(List AV->Prop)->Prop):Prop where
 go:∀ {vs:List V} {xs:List AV} {H:Hp} {O:Own} {M:MH} {Q:VK} {Q':List AV->Prop},Wf H O M->zi H O M vs xs->a xs M Q'->(∀ l ys,Q' l->zi H O M ys l->∀ p,H p=none->Q (.ref p) (upd H p (.lst ys)))->r vs H Q
noncomputable def fCB (r:List AV->MH->(List AV->Prop)->Prop)(b:AA):AF:=fun ρ M Q=>b ρ M fun xs M1=>r xs M1 fun l=>Q l M1
theorem Qx {r:List V->Hp->VK->Prop}{ra:List AV->MH->(List AV->Prop)->Prop} {b:AA}(hr:Yb r ra)(h:jq u b):QN (tCB r u) (fCB ra b):=
 ⟨fun w e q k=>h.go w e q fun x M1 v H1 O1 q1 k1 w1 r1=>hr.go w1 r1 q1 fun l ys q3 r3 p hp=>
  k l M1 p ys _ _ q3 (k1.trans (qv w1 hp _)) (j6 w1 hp _ (fun _ z=>nomatch z)) (.inl rfl) (w1.fresh hp).2 (yf w1 k1 hp) zj (r3.ext (qv w1 hp _))⟩
noncomputable def DP:List AV->MH->(List AV->Prop)->Prop:=fun xs M Q=>∃ x l,xs=[x]/\qz x M=some l/\Q l
theorem Zm:Yb (fun xs H Q=>∃ p ys,xs=[V.ref p]/\(SqL K H p ys \/ SqT K H p ys)/\∀ l,H l=none->Q (V.ref l) (upd H l (HO.lst ys))) DP:=⟨fun w r ⟨x,l,e,h,q⟩ k=>by
 subst e
 obtain ⟨v,rfl,rv⟩:=qV r
 obtain ⟨a,xs,rfl,h1,r1⟩:=QF w rv h
 exact ⟨a,xs,rfl,h1.elim (fun h=>.inl (SqL.of h)) (fun h=>.inr (SqT.of h)),k _ _ q r1⟩⟩
theorem xh {H:Hp}{O:Own}{M:MH}:∀ {ns:List Int} {xs:List V},zi H O M xs (ns.map fun i=>AV.d (.int i))->xs=ns.map V.int
 | [],xs,r=>r.nil_inv
 | i :: ns,xs,r=>by
  obtain ⟨v,r',rfl,a1,r2⟩:=r.cons_inv
  rw [zQ a1,xh r2];rfl
noncomputable def tyA (x:AV)(M:MH):Option String:=match x with
 | .d .non=>some "NoneType"
 | .d (.bl _)=>some "bool"
 | .d (.int _)=>some "int"
 | .d (.str _)=>some "str"
 | .d (.lst _)=>some "list"
 | .d (.tup _)=>some "tuple"
 | .ref a=>match M a with
  | some (.lst _)=>some "list"
  | some (.dK _)=>some "dict"
  | some (.dT _)=>some "dict"
  | _=>none
 | _=>none
theorem D3 {K:ax}{H:Hp}{O:Own}{M:MH}{v:V}{x:AV}{t:String}(w:Wf H O M)(r:zq H O M v x)(h:tyA x M=some t):kR K H v (.type t):=by
 cases x with
 | d x=>
  cases (show Rep H O v x from r) with
  | non=>cases h;exact .non
  | bl=>cases h;exact .bl _
  | int=>cases h;exact .int _
  | str=>cases h;exact .str _
  | lst o e=>cases h;exact .lst e
  | tup o e=>cases h;exact .tup e
  | ty=>cases h
  | rng _ _=>cases h
  | scr _ _=>cases h
  | scrK _=>cases h
 | ref a=>
  unfold tyA at h
  dsimp only at h
  rw [r.1]
  cases e:M a with
  | none=>rw [e] at h;cases h
  | some o=>
   rw [e] at h
   have:=w.mo a o e
   cases o with
   | lst l=>cases h;obtain ⟨xs,hx,_⟩:=this;exact .lst hx
   | dK l=>cases h;obtain ⟨xs,hx,_⟩:=this;exact .dK hx
   | dT l=>cases h;obtain ⟨xs,hx,_⟩:=this;exact .dT hx
   | ins C fs=>cases h
   | exc C fs=>cases h
   | tb R=>cases h
noncomputable def Mt:List AV->MH->AK->Prop:=fun xs M Q=>∃ x t c b,xs=[x,.d (.ty c)]/\tyA x M=some t/\isT t c=some b/\Q (.d (.bl b)) M
theorem Ga:vc (fun xs H Q=>∃ x t c b,xs=[x,V.ty c]/\kR K H x (aj.type t)/\isT t c=some b/\Q (V.bl b) H) Mt:=⟨fun w r ⟨x,t,c,b,e,h,hb,q⟩ k=>by
 subst e
 obtain ⟨v,u,rfl,rv,ru⟩:=yF r
 exact ⟨v,t,c,b,by rw [Ef ru],D3 w rv h,hb,k _ _ _ _ _ q .refl w .bl⟩⟩
theorem Xx {H:Hp}{O:Own}{M:MH}:∀ {ns:List String} {xs:List V},zi H O M xs ((ns.map Dat.ty).map .d)->xs=ns.map V.ty
 | [],xs,r=>r.nil_inv
 | i :: ns,xs,r=>by
  obtain ⟨v,r',rfl,a1,r2⟩:=r.cons_inv
  rw [Ef a1,Xx r2];rfl
noncomputable def Jg:List Dat->Option (List String)
 | []=>some []
 | .ty n :: r=>(Jg r).map (n :: ·)
 | _=>none
theorem YJ:∀ {l:List Dat} {cs:List String},Jg l=some cs->l=cs.map Dat.ty
 | [],cs,h=>by cases h;rfl
 | .ty n :: r,cs,h=>by
  unfold Jg at h
  cases e:Jg r with
  | none=>rw [e] at h;cases h
  | some m=>rw [e] at h;cases h;rw [YJ e];rfl
 | .non :: _,_,h=>by cases h
 | .bl _ :: _,_,h=>by cases h
 | .int _ :: _,_,h=>by cases h
 | .str _ :: _,_,h=>by cases h
 | .lst _ :: _,_,h=>by cases h
 | .tup _ :: _,_,h=>by cases h
 | .rng _ _ _ :: _,_,h=>by cases h
 | .scr _ _ :: _,_,h=>by cases h
noncomputable def GU:List AV->MH->AK->Prop:=fun xs M Q=>∃ x t l cs b,xs=[x,.d (.tup l)]/\Jg l=some cs/\tyA x M=some t/\y8 t cs=some b/\Q (.d (.bl b)) M
theorem Bt:vc (fun xs H Q=>∃ x t p cs b,xs=[x,V.ref p]/\H p=some (HO.tup (bp V.ty cs))/\kR K H x (aj.type t)/\y8 t cs=some b/\Q (V.bl b) H) GU:=⟨fun w r ⟨x,t,l,cs,b,e,hc,h,hb,q⟩ k=>by
 subst e
 obtain ⟨v,u,rfl,rv,ru⟩:=yF r
 rw [YJ hc] at ru
 obtain ⟨a,xs,rfl,h1,r1⟩:=jv (l:=(cs.map Dat.ty).map .d) ru rfl
 rw [Xx r1] at h1
 exact ⟨v,t,a,cs,b,rfl,h1,D3 w rv h,hb,k _ _ _ _ _ q .refl w .bl⟩⟩
noncomputable def GQ:List AV->MH->AK->Prop:=fun xs M Q=>∃ x ns,xs=[x]/\zY x M=some (bp (fun i=>AV.d (.int i)) ns)/\(∀ (x:Int),x ∈ ns->0<=x/\x<=1000000)/\ns.length<=100000/\Q (.d (.int ns.sum)) M
theorem Ae:vc (fun xs H Q=>∃ p ns,xs=[V.ref p]/\SqL K H p (bp V.int ns)/\(∀ (x:Int),x ∈ ns->0<=x/\x<=1000000)/\ns.length<=100000/\Q (V.int ns.sum) H) GQ:=⟨fun w r ⟨x,ns,e,h,h2,h3,q⟩ k=>by
 subst e
 obtain ⟨v,rfl,rv⟩:=qV r
 obtain ⟨a,xs,rfl,h1,r1⟩:=zX w rv h
 rw [xh r1] at h1
 exact ⟨a,ns,rfl,SqL.of h1,h2,h3,k _ _ _ _ _ q .refl w .int⟩⟩
theorem Yt {H:Hp}{O:Own}{M:MH}:∀ {ns:List Bool} {xs:List V},zi H O M xs (ns.map fun i=>AV.d (.bl i))->xs=ns.map V.bl
 | [],xs,r=>r.nil_inv
 | i :: ns,xs,r=>by
  obtain ⟨v,r',rfl,a1,r2⟩:=r.cons_inv
  rw [jH a1,Yt r2];rfl
noncomputable def Mm (f:List Bool->Bool):List AV->MH->AK->Prop:=fun xs M Q=>∃ x bs,xs=[x]/\zY x M=some (bp (fun b=>AV.d (.bl b)) bs)/\Q (.d (.bl (f bs))) M
theorem FW {f:List Bool->Bool}:vc (fun xs H Q=>∃ p bs,xs=[V.ref p]/\SqL K H p (bp V.bl bs)/\Q (V.bl (f bs)) H) (Mm f):=⟨fun w r ⟨x,bs,e,h,q⟩ k=>by
 subst e
 obtain ⟨v,rfl,rv⟩:=qV r
 obtain ⟨a,xs,rfl,h1,r1⟩:=zX w rv h
 rw [Yt r1] at h1
 exact ⟨a,bs,rfl,SqL.of h1,k _ _ _ _ _ q .refl w .bl⟩⟩
noncomputable def GZ:List AV->MH->AK->Prop:=fun xs M Q=>∃ b,xs=[.d (.int b)]/\Q (.d (.rng 0 b 1)) M
theorem Dy:vc (fun xs H Q=>∃ b,xs=[V.int b]/\∀ (p:aw),H p=none->Q (V.ref p) (upd H p (JY p 0 b 1))) GZ:=⟨fun w r ⟨b,e,q⟩ k=>by
 subst e
 obtain ⟨v,rfl,rv⟩:=qV r
 exact ⟨b,by rw [zQ rv],fun p hp=>k _ _ _ _ _ q (z0 w hp _) (jP w hp _) (Rep.rng (w.fresh hp).1 zj)⟩⟩
noncomputable def Ha:List AV->MH->(List AV->Prop)->Prop:=fun xs M Q=>∃ a b c n,xs=[.d (.rng a b c)]/\hZ a b c=true/\eN a b c=((n:Nat):Int)/\n<=100000/\Q ((jj a c n).map fun i=>AV.d (.int i))
theorem Vf:Yb (fun xs H Q=>∃ p a b c n,xs=[.ref p]/\H p=some (JY p a b c)/\hZ a b c=true/\eN a b c=((n:Nat):Int)/\n<=100000/\∀ l,H l=none->Q (.ref l) (upd H l (.lst ((jj a c n).map V.int)))) Ha:=⟨fun {vs xs H O M Q Q'} w r ⟨a,b,c,n,e,h1,h2,h3,q⟩ k=>by
 subst e
 obtain ⟨v,rfl,rv⟩:=qV r
 cases (show Rep H O v (.rng a b c) from rv) with
 | rng o h=>exact ⟨_,a,b,c,n,rfl,h,h1,h2,h3,k _ _ q (Ql _)⟩⟩
noncomputable def flD:Dat->Option V
 | .non=>some .non
 | .bl b=>some (.bl b)
 | .int i=>some (.int i)
 | .str s=>some (.str s)
 | _=>none
noncomputable def KO:List AV->Option (List V)
 | []=>some []
 | .d x :: r=>match flD x,KO r with
  | some v,some l=>some (v :: l)
  | _,_=>none
 | _=>none
theorem AJ {v x:V} (r:Rep H O v d)(h:flD d=some x):v=x/\xO v=true:=by
 cases r <;> cases h <;> exact ⟨rfl,rfl⟩
theorem XA {H:Hp}{O:Own}{M:MH}:∀ {l:List AV} {xs vs:List V},zi H O M xs l->KO l=some vs->xs=vs/\xs.all xO=true
 | [],xs,vs,r,h=>by cases h;rw [r.nil_inv];exact ⟨rfl,rfl⟩
 | .d d :: l,xs,vs,r,h=>by
  obtain ⟨v,r',rfl,a1,r2⟩:=r.cons_inv
  unfold KO at h
  cases e1:flD d with
  | none=>rw [e1] at h;cases h
  | some z=>
   cases e2:KO l with
   | none=>rw [e1,e2] at h;cases h
   | some zs=>
    rw [e1,e2] at h
    cases h
    obtain ⟨h1,h2⟩:=AJ a1 e1
    obtain ⟨h3,h4⟩:=XA r2 e2
    subst h1 h3
    exact ⟨rfl,by rw [eG,h2,h4];rfl⟩
 | .ref a :: l,xs,vs,r,h=>by cases h
structure Fk (r:V->List V->Hp->VK->Prop)(a:AV->List AV->MH->AK->Prop):Prop where
 go:∀ {x:V} {dx:AV} {vs:List V} {xs:List AV} {H:Hp} {O:Own} {M:MH} {Q:VK} {Q':AK},Wf H O M->zq H O M x dx->zi H O M vs xs->a dx xs M Q'->(∀ x M' v H' O',Q' x M'->Ext H O M H' O' M'->Wf H' O' M'->zq H' O' M' v x->Q v H')->r x vs H Q
noncomputable def aBM (r:AV->List AV->MH->AK->Prop)(a:AE)(b:AA):AE:=fun ρ M Q=>a ρ M fun x M1=>(∃ l,zY x M1=some l)/\b ρ M1 fun xs M2=>r x xs M2 Q
theorem Iw {r:V->List V->Hp->VK->Prop}{ra:AV->List AV->MH->AK->Prop}{t:TE} {a:AE}{b:AA}(hr:Fk r ra)(h1:zD t a)(h2:jq u b):zD (tBM K "list" r t u) (aBM ra a b):=
 ⟨fun w e q k=>h1.go w e q fun x M1 v H1 O1 ⟨⟨l,hl⟩,q1⟩ k1 w1 r1=>⟨by
  obtain ⟨a,xs,rfl,hx,_⟩:=zX w1 r1 hl
  exact .inl ⟨rfl,xs,SqL.of hx⟩,h2.go w1 (e.ext k1) q1 fun y M2 u H2 O2 q2 k2 w2 r2=>hr.go w2 (r1.ext k2) r2 q2 fun z M3 v3 H3 O3 q3 k3 w3 r3=>k z M3 v3 H3 O3 q3 ((k1.trans k2).trans k3) w3 r3⟩⟩
theorem Jy {l l':List AV}{xs':List V}(w:Wf H O M)(hm:M p=some (.lst l))(r:zi H O M xs' l'):Ext H O M (upd H p (.lst xs')) O (mup M p (.lst l'))/\Wf (upd H p (.lst xs')) O (mup M p (.lst l')):=
 have np:=qY hm
 ⟨jY w np _ _,Qq w np (fun _ z=>nomatch z) ⟨_,zj,r.ext (jY w np _ _)⟩⟩
noncomputable def Xv:AV->List AV->MH->AK->Prop:=fun x xs M Q=>∃ p l y,x=.ref p/\xs=[y]/\M p=some (.lst l)/\l.length<aM/\Q (.d .non) (mup M p (.lst (l ++ [y])))
theorem KU:Fk vn Xv:=⟨fun w r1 r2 ⟨p,l,y,e1,e2,hm,hs,q⟩ k=>by
 subst e1 e2
 obtain ⟨v,rfl,rv⟩:=qV r2
 obtain ⟨xs,hx,rx⟩:=w.mo p _ hm
 obtain ⟨k1,w1⟩:=Jy w hm (rx.snoc rv)
 exact ⟨p,xs,v,r1.1,rfl,hx,by rw [rx.1];exact hs,k _ _ _ _ _ q k1 w1 .non⟩⟩
noncomputable def vo:AV->List AV->MH->AK->Prop:=fun x xs M Q=>∃ p l y m,x=.ref p/\xs=[y]/\M p=some (.lst l)/\zY y M=some m/\l.length+m.length<=aM/\Q (.d .non) (mup M p (.lst (l ++ m)))
theorem KF:Fk vh vo:=⟨fun w r1 r2 ⟨p,l,y,m,e1,e2,hm,hy,hs,q⟩ k=>by
 subst e1 e2
 obtain ⟨v,rfl,rv⟩:=qV r2
 obtain ⟨xs,hx,rx⟩:=w.mo p _ hm
 obtain ⟨b,ys,rfl,hb,rb⟩:=zX w rv hy
 obtain ⟨k1,w1⟩:=Jy w hm (rx.append rb)
 exact ⟨p,b,xs,ys,r1.1,rfl,hx,hb,by rw [rx.1,rb.1];exact hs,k _ _ _ _ _ q k1 w1 .non⟩⟩
noncomputable def Wo:AV->List AV->MH->AK->Prop:=fun x xs M Q=>∃ l vs d v,zY x M=some l/\xs=[.d d]/\KO l=some vs/\flD d=some v/\Q (.d (.int ((vs.countP fun y=>eqV y v:Nat)))) M
theorem VP:Fk Ky Wo:=⟨fun w r1 r2 ⟨l,vs,d,v,hl,e,hs,hv,q⟩ k=>by
 subst e
 obtain ⟨u,rfl,ru⟩:=qV r2
 obtain ⟨a,xs,rfl,h1,p1⟩:=zX w r1 hl
 obtain ⟨rfl,f1⟩:=AJ ru hv
 obtain ⟨rfl,f2⟩:=XA p1 hs
 exact ⟨a,xs,u,rfl,rfl,h1,f2,f1,k _ _ _ _ _ q .refl w .int⟩⟩
noncomputable def Au (r:aw):MO->Prop
 | .lst l=>AV.ref r ∈ l
 | .dK kvs=>AV.ref r ∈ kvs.map (·.2)
 | .dT kvs=>AV.ref r ∈ kvs.map (·.2)
 | .ins _ fs=>AV.ref r ∈ fs.map (·.2)
 | .exc _ _=>False
 | .tb _=>False
inductive Dee (M M2:MH):AV->Dat->Prop
 | d {x:Dat}:Dee M M2 (.d x) x
 | lst {p:aw} {l:List AV} {ds:List Dat}:M p=some (.lst l)->M2 p=none->l.length=ds.length->(∀ (i:Nat) a b,l[i]?=some a->ds[i]?=some b->Dee M M2 a b)->Dee M M2 (.ref p) (.lst ds)
structure y4 (M0 M':MH)(x x':AV)(M'':MH):Prop where
 sub:∀ q,M'' q=M' q \/ (M0 q=none/\M'' q=none)
 cl:∀ q o,M'' q=some o->M0 q=some o \/ ∀ r,Au r o->M'' r ≠ none
 res:(x'=x/\∀ p,x=.ref p->M'' p ≠ none) \/ (∃ p l ds,x=.ref p/\M' p=some (.lst l)/\pur l=some ds/\M'' p=none/\x'=.d (.lst ds)) \/ ∃ d,Dee M' M'' x d/\x'=.d d
theorem Dee.rep {H:Hp}{O:Own}{M M2:MH}(w:Wf H O M){x:AV}{d:Dat}(h:Dee M M2 x d):∀ {v:V},zq H O M v x->Rep H (fun a=>O a/\¬ (M a ≠ none/\M2 a=none)) v d:=by
 induction h with
 | d=>exact fun r=>Rep.imp (fun a u h e=>⟨e,fun z=>h z.1⟩) r
 | @lst p l ds hm hn hl _ ih=>
  intro v r
  obtain ⟨xs,hx,rx⟩:=w.mo p _ hm
  rw [r.1]
  refine Rep.lst (fun z=>z.2 ⟨qY hm,hn⟩) hx (rx.1.trans hl) fun i x d e1 e2=>?_
  have hi:=(aF.mp e2).1
  have ha:l[i]?=some (l[i]'(by omega)):=af (by omega)
  exact ih i _ d ha e2 (rx.2 i x _ e1 ha)
theorem ZZ {H0 H : Hp}{O0 O : Own}{M0 M' M'' : MH}{x x' : AV}{v : V}(w0 : Wf H0 O0 M0)(w : Wf H O M')(k : Ext H0 O0 M0 H O M')(r : zq H O M' v x)(f : y4 M0 M' x x' M'') :
    ∃ O'',Wf H O'' M''/\Ext H0 O0 M0 H O'' M''/\zq H O'' M'' v x'/\∀ a,O a->M' a=none->O'' a/\M'' a=none:=by
  have ks:∀ a u,¬ O a->H a=some u->H a=some u/\¬ (O a/\¬ (M' a ≠ none/\M'' a=none)):=fun a u h e=>⟨e,fun z=>h z.1⟩
  have k0:∀ a,M0 a ≠ none->M'' a=M' a:=fun a h=>(f.sub a).elim (fun z=>z) (fun z=>absurd z.1 h)
  have m0:∀ a,M0 a ≠ none->M'' a ≠ none:=fun a h=>by rw [k0 a h];exact k.mst a h
  have avs:∀ {xs:List V} {l:List AV},zi H O M' xs l->(∀ r,AV.ref r ∈ l->M'' r ≠ none)->zi H (fun a=>O a/\¬ (M' a ≠ none/\M'' a=none)) M'' xs l:=fun {xs l} rr hr=>⟨rr.1,fun i y d e1 e2=>by
    have:=rr.2 i y d e1 e2
    cases d with
    | d d=>exact Rep.imp ks this
    | ref a=>exact ⟨this.1,hr a (bJ e2)⟩⟩
  have refs0:∀ q o,M0 q=some o->∀ r,Au r o->M0 r ≠ none:=fun q o e r hr=>by
    have:=w0.mo q o e
    cases o with
    | lst l=>
      obtain ⟨xs,_,rr⟩:=this
      obtain ⟨i,hi⟩:=fE hr
      obtain ⟨y,_,ry⟩:=rr.get hi
      exact ry.2
    | dK l=>
      obtain ⟨xs,_,rr⟩:=this
      obtain ⟨i,hi⟩:=fE hr
      obtain ⟨y,_,ry⟩:=rr.2.get hi
      exact ry.2
    | dT l=>
      obtain ⟨xs,_,rr⟩:=this
      obtain ⟨i,hi⟩:=fE hr
      obtain ⟨y,_,ry⟩:=rr.2.get hi
      exact ry.2
    | ins C l=>
      obtain ⟨dx,xs,_,rr,_⟩:=this
      obtain ⟨i,hi⟩:=fE hr
      obtain ⟨y,_,ry⟩:=rr.2.get hi
      exact ry.2
    | exc C l=>exact hr.elim
    | tb R=>exact hr.elim
  refine ⟨fun a=>O a/\¬ (M' a ≠ none/\M'' a=none),⟨fun q o e=>?_,fun a h=>?_,fun a h=>w.al a h.1⟩,⟨fun a u h e=>?_,fun a h e=>?_,m0⟩,?_,fun a h e=>⟨⟨h,fun z=>z.1 e⟩,(f.sub a).elim (fun z=>z.trans e) (fun z=>z.2)⟩⟩
  · have e' : M' q = some o := by
      rcases f.sub q with z | z
      · rw [<- z];exact e
      · rw [z.2] at e;cases e
    have hr:∀ r,Au r o->M'' r ≠ none:=by
      rcases f.cl q o e with z | z
      · exact fun r hr=>m0 r (refs0 q o z r hr)
      · exact z
    have:=w.mo q o e'
    cases o with
    | lst l=>obtain ⟨xs,h1,rr⟩:=this;exact ⟨xs,h1,avs rr hr⟩
    | dK l=>obtain ⟨xs,h1,rr⟩:=this;exact ⟨xs,h1,rr.1,avs rr.2 hr⟩
    | dT l=>obtain ⟨xs,h1,rr⟩:=this;exact ⟨xs,h1,rr.1,avs rr.2 hr⟩
    | ins C l=>
      obtain ⟨dx,xs,h1,rr,h2,h3,h4⟩:=this
      refine ⟨dx,xs,h1,⟨rr.1,avs rr.2 hr⟩,⟨h2,fun z=>z.1 h3⟩,?_,h4⟩
      rcases f.sub dx with z | z
      · rw [z];exact h3
      · exact z.2
    | exc C l=>
      obtain ⟨d,h1,h2⟩:=this
      refine ⟨d,h1,?_⟩
      rcases h2 with h2 | ⟨dx,e1,h2,h3,h4⟩
      · exact .inl h2
      · refine .inr ⟨dx,e1,h2,⟨h3,fun z=>z.1 h4⟩,?_⟩
        rcases f.sub dx with z | z
        · rw [z];exact h4
        · exact z.2
    | tb R=>obtain ⟨ps,h1,h2⟩:=this;exact ⟨ps,h1,h2.imp id fun ⟨c,oc,u,a1,a2,a3⟩=>⟨c,oc,u,a1,fun z=>a2 z.1,a3⟩⟩
  · refine ⟨w.own a ?_,fun z=>h z.2⟩
    rcases f.sub a with z | z
    · rw [<- z];exact h
    · exact absurd z.2 h
  · obtain ⟨x1,x2⟩:=k.fix a u h e
    exact ⟨x1,fun z=>x2 z.1⟩
  · obtain ⟨x1,x2,x3⟩:=k.prv a h e
    refine ⟨x1,⟨x2,fun z=>z.1 x3⟩,?_⟩
    rcases f.sub a with z | z
    · rw [z];exact x3
    · exact z.2
  · rcases f.res with ⟨rfl,hp⟩ | ⟨p,l,ds,rfl,hm,hp,hn,rfl⟩ | ⟨d,hd,rfl⟩
    · cases x' with
      | d d=>exact Rep.imp ks r
      | ref a=>exact ⟨r.1,hp a rfl⟩
    · obtain ⟨xs,hx,rx⟩:=w.mo p _ hm
      rw [jT hp] at rx
      have rp:=rx.pure
      rw [r.1]
      exact Rep.lst (fun z=>z.2 ⟨qY hm,hn⟩) hx rp.1 fun i x d e1 e2=>(rp.2 i x d e1 e2).imp ks
    · exact hd.rep w r
theorem kK {M0 M' M'':MH}{x x':AV} (w0:Wf H0 O0 M0)(w:Wf H O M')(k:Ext H0 O0 M0 H O M')(r:zq H O M' v x)(f:y4 M0 M' x x' M'') :
  ∃ O'',Wf H O'' M''/\Ext H0 O0 M0 H O'' M''/\zq H O'' M'' v x':=let ⟨O2,a,b,c,_⟩:=ZZ w0 w k r f;⟨O2,a,b,c⟩
def Fr (M0 M:MH):Prop:=∀ q,M0 q ≠ none->M q=M0 q
theorem Fr.refl:Fr M M:=fun _ _=>rfl
theorem Fr.mup {M0 M:MH}(f:Fr M0 M){p:aw}(h:M0 p=none)(o:MO):Fr M0 (mup M p o):=fun q hq=>by rw [zn (fun z=>hq (by rw [z];exact h))];exact f q hq
theorem Fr.sub {M0 M:MH}(f:Fr M0 M)(q:aw):M0 q=M q \/ (M0 q=none/\M0 q=none):=by
 cases e:M0 q with
 | none=>exact .inr ⟨rfl,rfl⟩
 | some o=>exact .inl (by rw [f q (by rw [e];exact fun z=>nomatch z),e])
variable {M0:MH}
theorem qP (f:Fr M0 M)(d:Dat):y4 M0 M (.d d) (.d d) M0:=⟨f.sub,fun q o e=>.inl e,.inl ⟨rfl,fun p z=>nomatch z⟩⟩
theorem F6 (f:Fr M0 M) {l:List AV} (h0:M0 p=none)(h:M p=some (.lst l))(hp:pur l=some ds):y4 M0 M (.ref p) (.d (.lst ds)) M0:=⟨f.sub,fun q o e=>.inl e,.inr (.inl ⟨p,l,ds,rfl,h,hp,h0,rfl⟩)⟩
theorem vq {l:List AV} (h:pur l=some ds)(r:aw):AV.ref r ∉ l:=by
 rw [jT h];intro z
 obtain ⟨d,_,e⟩:=bZ.mp z
 cases e
theorem F3 (f:Fr M0 M) {l:List AV} (h0:M0 p=none)(h:M p=some (.lst l))(hp:pur l=some ds):y4 M0 M (.ref p) (.ref p) (mup M0 p (.lst l)):=by
 refine ⟨fun q=>?_,fun q o e=>?_,.inl ⟨rfl,fun q z=>by cases z;rw [zk];exact fun z=>nomatch z⟩⟩
 ·by_cases c:q=p
  ·rw [c,zk,h];exact .inl rfl
  ·rw [zn c];exact f.sub q
 ·by_cases c:q=p
  ·rw [c,zk] at e
   cases e
   exact .inr fun r hr=>absurd hr (vq hp r)
  ·rw [zn c] at e;exact .inl e
noncomputable def zR (N:List Str)(xs:List AV):ASt:=xs.map some ++ aS (N.length - xs.length) none
theorem yc {vs:List V}{xs:List AV}(r:zi H O M vs xs)(N:List Str):Er H O M (start N vs) (zR N xs):=by
 unfold start zR
 refine ⟨by simp [r.1],fun i x h=>?_⟩
 by_cases c:i<xs.length
 ·rw [cT (by simpa using c),aD] at h
  cases e:xs[i]? with
  | none=>rw [e] at h;cases h
  | some y=>
   rw [e] at h
   cases h
   obtain ⟨v,hv,rv⟩:=r.get e
   exact ⟨v,by rw [cT (by rw [az,r.1];exact c),aD,hv];rfl,rv⟩
 ·rw [dk (by simp;omega),lB] at h
  split at h <;> cases h
noncomputable def rtA (M0:MH)(Q:AK):AK:=fun x M'=>∃ x' M'',y4 M0 M' x x' M''/\Q x' M''
theorem dfA {x:Str} {a:ASp}(at_:At K mg x st)(S:zr N ps (zf st))
  (hb:∀ (kV doc pm:aj) (an:Option aw) (cdv ct:aj) (us:List aj),us.length=ps.length->fA (bY x x (qp st) (zP st) (zf st) .none kV doc pm an cdv ct) ⟨us,[]⟩=pure (ps.zip us))
  (len:∀ xs M Q,a xs M Q->xs.length=ps.length)
  (hbody:∀ (f:aw) (cdv:aj) (A:bj) (outer:List Env) (s:au) (H:Hp) (E:XK),qk k (A.deeper (fT x (zf st) s.heap.objs.size f cdv)) ->
   ∃ t,PSs (jA CX0 P w K mg base N x (zf st) f cdv A outer s H E).nox (zP st) t/\∃ b,jg t b/\∀ xs M Q,a xs M Q->b M { nx:=fun _ M'=>rtA M Q (.d .non) M',rt:=rtA M Q } (zR N xs) M):Df P w K mg base x ps (k+1) (cSp a):=by
 refine Xs at_ S hb (fun vs H Q E h=>?_) (fun f cdv A outer s H vs Q E hr h=>?_)
 ·obtain ⟨xs,M,O,Q',w,r,q,_⟩:=h
  rw [r.1];exact len xs M Q' q
 ·obtain ⟨t,ht,b,hb,hq⟩:=hbody f cdv A outer s H E hr
  refine ⟨t,ht,?_⟩
  obtain ⟨xs,M,O,Q',w,r,q,kk⟩:=h
  refine hb.go w w (yc r N) .refl (hq xs M Q' q) ⟨fun σ H' O' ρ M' w' e' x' q'=>?_,fun v y H' O' M' w' x' r' q'=>?_,fun _ _ _ _ _ _ _ _ z=>z.elim,fun _ _ _ _ _ _ _ _ z=>z.elim⟩
  ·obtain ⟨y',M'',f,q2⟩:=q'
   obtain ⟨O'',w2,k2,r2⟩:=kK w w' x' (show zq H' O' M' .non (.d .non) from .non) f
   exact kk _ _ _ _ _ q2 k2 w2 r2
  ·obtain ⟨y',M'',f,q2⟩:=q'
   obtain ⟨O'',w2,k2,r2⟩:=kK w w' x' r' f
   exact kk _ _ _ _ _ q2 k2 w2 r2
structure Nc (tr:aw->TR)(a:ATR):Prop where
 go:∀ D,XC D (tr D) a
theorem Av {t u:TE}{a b:AE}(h1:zD t a)(h2:zD u b):zD (tOp E9 t u) (aFz (fOp Le a b)):=yv (Qi Q7 h1 h2)
theorem Ai {t u:TE}{a b:AE}(h1:zD t a)(h2:zD u b):zD (tOp E2 t u) (aFz (fOp HR a b)):=yv (Qi JE h1 h2)
theorem Va {b:AA}(h:jq u b):zD (tCB (fun xs H Q=>∃ p ys,xs=[V.ref p]/\(SqL K H p ys \/ SqT K H p ys)/\∀ l,H l=none->Q (V.ref l) (upd H l (HO.lst ys))) u) (aFz (fCB DP b)):=yv (Qx Zm h)
variable {q:AS->Prop}
theorem ex2 {t:TS} {b:AS}(h:jg t b)(k:q b):∃ b,jg t b/\q b:=⟨b,h,k⟩
section
variable {X:Cx}{K:ax}
theorem Fb (h:X.K=K):SlR X (Lq K):=h ▸ ji
theorem AQ (h:X.K=K):OpR X (fv .Add) (Xt K):=h ▸ jz
end
theorem HH {τ:Type}(R:τ->ASt)(f:AV->AV) {N:List AV->ASt->MH->Prop}{l:List AV} (h0:∃ o,ρ=R o)(hG:G M)(hl:l.length<=100000)
  (hs:∀ (o:τ) (x:AV) (Q:AV->ASt->MH->Prop),x ∈ l->(∀ o',Q (f x) (R o') M)->ag x (R o) M fun ρ2 M2=>ae ρ2 M2 fun y M3=>Q y ρ2 M3) (hN:∀ o,N (l.map f) (R o) M):Wz ag vS (yX ae) G N l [] ρ M:=by
 have hsl:100000<aM:=by rw [cC];decide
 refine ⟨fun i acc ρ' M'=>i<=l.length/\acc=(l.take i).map f/\M'=M/\∃ o,ρ'=R o,⟨ci _,rfl,rfl,h0⟩,?_,?_⟩
 ·rintro i x acc ρ' M' hx ⟨hi,rfl,rfl,o,rfl⟩
  have hil:=(aF.mp hx).1
  refine ⟨hG,?_⟩
  refine hs o x (fun y ρ2 M3=>((l.take i).map f).length<aM/\(i+1<=l.length/\(l.take i).map f ++ [y]=(l.take (i+1)).map f/\M3=M'/\∃ o,ρ2=R o)) (bJ hx) fun o'=>⟨by rw [az,cg];omega,hil,?_,rfl,o',rfl⟩
  rw [nV,hx,bX];rfl
 ·rintro acc ρ' M' ⟨_,rfl,rfl,o,rfl⟩
  rw [gQ]
  exact ⟨hG,hN o⟩
theorem Wg:isT "int" "int"=some true:=by decide +kernel
theorem WN:isT "int" "bool"=some false:=by decide +kernel
theorem W3:isT "int" "str"=some false:=by decide +kernel
theorem ID:isT "int" "list"=some false:=by decide +kernel
theorem BC:isT "int" "tuple"=some false:=by decide +kernel
theorem WE:isT "bool" "int"=some true:=by decide +kernel
theorem Dk:isT "bool" "bool"=some true:=by decide +kernel
theorem W4:isT "bool" "str"=some false:=by decide +kernel
theorem Lo:isT "bool" "list"=some false:=by decide +kernel
theorem BG:isT "bool" "tuple"=some false:=by decide +kernel
theorem BB:isT "str" "int"=some false:=by decide +kernel
theorem Ik:isT "str" "bool"=some false:=by decide +kernel
theorem Wx:isT "str" "str"=some true:=by decide +kernel
theorem HM:isT "str" "list"=some false:=by decide +kernel
theorem Ab:isT "str" "tuple"=some false:=by decide +kernel
theorem DC:isT "NoneType" "int"=some false:=by decide +kernel
theorem Ib:isT "NoneType" "bool"=some false:=by decide +kernel
theorem DW:isT "NoneType" "str"=some false:=by decide +kernel
theorem HZ:isT "NoneType" "list"=some false:=by decide +kernel
theorem WK:isT "NoneType" "tuple"=some false:=by decide +kernel
theorem Wr:isT "list" "int"=some false:=by decide +kernel
theorem HY:isT "list" "bool"=some false:=by decide +kernel
theorem WL:isT "list" "str"=some false:=by decide +kernel
theorem HP:isT "list" "list"=some true:=by decide +kernel
theorem B1:isT "list" "tuple"=some false:=by decide +kernel
theorem Bi:isT "tuple" "int"=some false:=by decide +kernel
theorem Ii:isT "tuple" "bool"=some false:=by decide +kernel
theorem DE:isT "tuple" "str"=some false:=by decide +kernel
theorem Lh:isT "tuple" "list"=some false:=by decide +kernel
theorem DY:isT "tuple" "tuple"=some true:=by decide +kernel
theorem Bz:y8 "int" ["list","tuple"]=some false:=by decide +kernel
theorem DJ:y8 "bool" ["list","tuple"]=some false:=by decide +kernel
theorem Dg:y8 "str" ["list","tuple"]=some false:=by decide +kernel
theorem W8:y8 "NoneType" ["list","tuple"]=some false:=by decide +kernel
theorem Bg:y8 "list" ["list","tuple"]=some true:=by decide +kernel
theorem Wh:y8 "tuple" ["list","tuple"]=some true:=by decide +kernel
theorem D6:Jg []=some []:=rfl
theorem Vb {n:String}{r:List Dat}:Jg (.ty n :: r)=(Jg r).map (n :: ·):=rfl
theorem Mo (M:MH):tyA (.d .non) M=some "NoneType":=rfl
theorem Md (b:Bool)(M:MH):tyA (.d (.bl b)) M=some "bool":=rfl
theorem Mq (i:Int)(M:MH):tyA (.d (.int i)) M=some "int":=rfl
theorem MM (s:Str)(M:MH):tyA (.d (.str s)) M=some "str":=rfl
theorem MI (l:List Dat)(M:MH):tyA (.d (.lst l)) M=some "list":=rfl
theorem MF (l:List Dat)(M:MH):tyA (.d (.tup l)) M=some "tuple":=rfl
theorem VS (x:Dat)(r:List AV):pur (.d x :: r)=match pur r with | some l=>some (x :: l) | none=>none:=rfl
theorem IE (i j:Int):eqS (.int i) (.int j)=some (decide (i=j)):=rfl
theorem IG (i j:Bool):eqS (.bl i) (.bl j)=some (decide (i=j)):=rfl
theorem HF (i j:Str):eqS (.str i) (.str j)=some (decide (i=j)):=rfl
theorem FR:xN (.d .non)=true:=rfl
theorem EI (i:Int):xN (.d (.int i))=false:=rfl
theorem EK (i:List Dat):xN (.d (.lst i))=false:=rfl
theorem FS (i:List Dat):xN (.d (.tup i))=false:=rfl
theorem EE (i:aw):xN (.ref i)=false:=rfl
theorem Gv (i:Str):xN (.d (.str i))=false:=rfl
theorem Fl (i:Bool):xN (.d (.bl i))=false:=rfl
theorem Bq (w:Wf H O M)(k:Kp [] H H'):Ext H O M H' O M/\Wf H' O M:=by
 have e:Ext H O M H' O M:=⟨fun a o h e=>⟨k a o (by simp) e,h⟩,fun a h e=>⟨by
  obtain ⟨o,ho,_⟩:=w.al a h
  rw [ho];exact k a o (by simp) ho,h,e⟩,fun _ h=>h⟩
 refine ⟨e,⟨fun a o h=>qX.ext e ?_ (w.mo a o h),w.own,fun a h=>?_⟩⟩
 ·obtain ⟨u,hu,_⟩:=w.al a (w.own a (by rw [h];exact fun z=>nomatch z))
  rw [hu];exact k a u (by simp) hu
 ·obtain ⟨o,ho,hn⟩:=w.al a h
  exact ⟨o,k a o (by simp) ho,hn⟩
theorem IK (w:Wf H O M) {l:List AV}(hb:M b=some (.lst l))(k:Kp [b] H H') (h:H' b=some (.lst (ns.map V.int))) :
  Ext H O M H' O (mup M b (.lst (ns.map fun i=>.d (.int i))))/\Wf H' O (mup M b (.lst (ns.map fun i=>.d (.int i)))):=by
 have hOb:=w.own b (qY hb)
 have kk:∀ a o,a ≠ b->H a=some o->H' a=some o:=fun a o ha e=>k a o (by simpa using ha) e
 have e:Ext H O M H' O (mup M b (.lst (ns.map fun i=>.d (.int i)))):=⟨fun a o h e=>⟨kk a o (fun z=>h (by rw [z];exact hOb)) e,h⟩,fun a ha e=>by
  have hne:a ≠ b:=fun z=>by rw [z,hb] at e;cases e
  obtain ⟨o,ho,_⟩:=w.al a ha
  exact ⟨by rw [ho];exact kk a o hne ho,ha,by rw [zn hne];exact e⟩,fun a ha=>by
  by_cases c:a=b
  ·rw [c,zk];exact fun z=>nomatch z
  ·rw [zn c];exact ha⟩
 refine ⟨e,⟨fun a o ho=>?_,fun a ha=>?_,fun a ha=>?_⟩⟩
 ·by_cases c:a=b
  ·subst c;rw [zk] at ho;cases ho;exact ⟨_,h,Ql ns⟩
  ·rw [zn c] at ho
   refine qX.ext e ?_ (w.mo a o ho)
   obtain ⟨u,hu,_⟩:=w.al a (w.own a (qY ho))
   rw [hu];exact kk a u c hu
 ·by_cases c:a=b
  ·rw [c];exact hOb
  ·rw [zn c] at ha;exact w.own a ha
 ·by_cases c:a=b
  ·rw [c];exact ⟨_,h,fun xs z=>nomatch z⟩
  ·obtain ⟨o,ho,hn⟩:=w.al a ha
   exact ⟨o,kk a o c ho,hn⟩
theorem WZ (ho:¬ O p)(h:H p=some (.lst (ns.map V.int))):Rep H O (.ref p) (.lst (ns.map .int)):=
 Rep.lst ho h (by simp) fun i x d e1 e2=>by
  rw [aD] at e1 e2
  cases e:ns[i]? with
  | none=>rw [e] at e1;cases e1
  | some n=>rw [e] at e1 e2;cases e1;cases e2;exact .int
theorem DA {x:AV} (w:Wf H O M)(r:zq H O M v x)(h:zY x M=some (ns.map fun i=>.d (.int i))):∃ a,v=.ref a/\H a=some (.lst (ns.map V.int)):=by
 obtain ⟨a,xs,rfl,h1,r1⟩:=zX w r h
 rw [xh r1] at h1
 exact ⟨a,rfl,h1⟩
theorem Df.imp' {x:Str} {sp sp':Sp} (D:Df P w K mg base x ps k sp)(h:∀ vs H Q E,sp' vs H Q E->sp vs H Q E):Df P w K mg base x ps k sp':=
 let ⟨f,fd,F,r⟩:=D
 ⟨f,fd,F.imp h,r⟩
mutual
noncomputable def wdt:Dat->Nat
 | .lst l=>max l.length (Hj l)
 | .tup l=>max l.length (Hj l)
 | _=>0
noncomputable def Hj:List Dat->Nat
 | []=>0
 | a :: r=>max (wdt a) (Hj r)
end
theorem Wm (b:Bool):dp (.bl b)=0:=by simp [dp]
theorem yM (b:Str):dp (.str b)=0:=by simp [dp]
theorem BF:dp .non=0:=by simp [dp]
theorem AR (a b:Bool):eqD (.bl a) (.bl b)=decide (a=b):=by rw [eqD];cases a <;> cases b <;> rfl
theorem kf (a b:Int):eqD (.int a) (.int b)=decide (a=b):=by rw [eqD];by_cases h:a=b <;> simp [h]
theorem JW (a b:Str):eqD (.str a) (.str b)=decide (a=b):=by rw [eqD];by_cases h:a=b <;> simp [h]
theorem Hw:eqD .non .non=true:=by simp [eqD]
theorem V7 (i:Int):eqD .non (.int i)=false:=by simp [eqD]
theorem LD (i:Int):eqD (.int i) .non=false:=by simp [eqD]
theorem IP (i:Int)(s:Str):eqD (.int i) (.str s)=false:=by simp [eqD]
theorem Ie (i:Int)(s:Str):eqD (.str s) (.int i)=false:=by simp [eqD]
theorem Iu (s:Str):eqD (.str s) .non=false:=by simp [eqD]
theorem Hq (s:Str):eqD .non (.str s)=false:=by simp [eqD]
theorem wy {x:AV} {l:List AV}(h:zY x M=some l) (hp:M p=none)(o:MO):zY x (mup M p o)=some l:=by
 rcases yt h with ⟨m,rfl,rfl⟩ | ⟨a,rfl,e⟩
 ·rfl
 ·exact qH (by rw [zn (fun z=>by rw [z,hp] at e;cases e)];exact e)
theorem FJ {x:AV} {l:List AV}(h:qz x M=some l)(f:Fr M M'):qz x M'=some l:=by
 rcases jQ h with h' | ⟨m,rfl,rfl⟩
 ·rcases yt h' with ⟨m,rfl,rfl⟩ | ⟨a,rfl,e⟩
  ·rfl
  ·exact ql (by rw [f a (qY e)];exact e)
 ·rfl
theorem kB (ns:List Int):bp AV.d (bp Dat.int ns)=bp (fun i=>AV.d (.int i)) ns:=by rw [bR];rfl
theorem G0 (ns:List Bool):bp AV.d (bp Dat.bl ns)=bp (fun i=>AV.d (.bl i)) ns:=by rw [bR];rfl
theorem qO (ns:List Int):pur (bp (fun i=>AV.d (.int i)) ns)=some (ns.map Dat.int):=by rw [<- kB,zS]
theorem FO (ns:List Bool):pur (bp (fun i=>AV.d (.bl i)) ns)=some (ns.map Dat.bl):=by rw [<- G0,zS]
theorem EU {α β:Type}(f:α->β)(l:List α)(i:Int):atI (l.map f) i=(atI l i).map f:=by
 unfold atI
 rw [az]
 cases ixN l.length i with
 | none=>rfl
 | some j=>exact aD ..
theorem jL {i:Int}(h0:0<=i)(h1:i<n):ixN n i=some i.toNat:=by unfold ixN;rw [if_pos h0,if_pos h1]
theorem Qg {α:Type}{l:List α}{i:Int}(h0:0<=i)(h1:i<l.length)(d:α):atI l i=some (l.getD i.toNat d):=by
 unfold atI
 rw [jL h0 h1]
 show l[i.toNat]?=_
 rw [aq,af (by omega)];rfl
theorem jE {α:Type}(xs:List α)(k:Nat):qN xs (some (k:Int)) none=xs.drop k:=by
 unfold qN
 rw [HT.sIx_nat,HT.sIx_none,lX (by rw [bN];omega)]
 by_cases h:k<=xs.length
 ·rw [my h]
 ·rw [Nat.min_eq_right (by omega),lH,lY (by omega)]
theorem ze {a qi:AS}{B:MH}{D:xY} (h:∀ r,r=qi->yp a r B D ρ M):yp a qi B D ρ M:=h qi rfl
theorem Fr.non {M M':MH}(f:Fr M M'){p:aw}(h:M' p=none):M p=none:=by
 cases e:M p with
 | none=>rfl
 | some o=>rw [f p (by rw [e];exact fun z=>nomatch z),e] at h;cases h
noncomputable abbrev ilD (os:List Int):Dat:=.lst (os.map .int)
theorem EM (ns:List Int)(M:MH):zY (.d (ilD ns)) M=some (ns.map fun i=>.d (.int i)):=by rw [Kt,kB]
def BxM (M:MH)(b:aw)(N:Nat):Prop:=∃ x y z:Int,M b=some (.lst [.d (.int x),.d (.int y),.d (.int z)])/\0<=x/\0<=y/\y<2147483648/\0<=z/\z<=N
theorem BxM.mono {N N':Nat}(h:BxM M b N)(hn:N<=N'):BxM M b N':=by
 obtain ⟨x,y,z,h1,h2,h3,h4,h5,h6⟩:=h
 exact ⟨x,y,z,h1,h2,h3,h4,h5,by omega⟩
theorem BxM.ne {N:Nat}(h:BxM M b N):M b ≠ none:=by obtain ⟨x,y,z,h1,_⟩:=h;exact qY h1
theorem BxM.bx {N:Nat}(w:Wf H O M)(h:BxM M b N):Bx H b N:=by
 obtain ⟨x,y,z,h1,h2⟩:=h
 obtain ⟨xs,hx,rx⟩:=w.mo b _ h1
 rw [xh (ns:=[x,y,z]) rx] at hx
 exact ⟨x,y,z,hx,h2⟩
def BxS (M M':MH)(b:aw)(N:Nat):Prop:=BxM M' b N/\∃ o,M'=mup M b o
theorem BxS.at {N:Nat}(h:BxS M M' b N){q:aw}(hq:q ≠ b):M' q=M q:=by
 obtain ⟨_,o,rfl⟩:=h
 exact zn hq
theorem Ho (w:Wf H O M) {N N':Nat}(hb:BxM M b N)(k:Kp [b] H H')(h:Bx H' b N'):∃ M',BxS M M' b N'/\Ext H O M H' O M'/\Wf H' O M':=by
 obtain ⟨x,y,z,h1,_⟩:=hb
 obtain ⟨x',y',z',g1,g2⟩:=h
 obtain ⟨e1,e2⟩:=IK w h1 k (ns:=[x',y',z']) g1
 exact ⟨_,⟨⟨x',y',z',zk,g2⟩,_,rfl⟩,e1,e2⟩
mutual
noncomputable def pdD:Dat->b9
 | .bl b=>.bool b
 | .int i=>.int i
 | .str x=>.str x
 | .lst l=>.list (j9 l)
 | .tup l=>.tuple (j9 l)
 | _=>.none
noncomputable def j9:List Dat->List b9
 | []=>[]
 | a :: r=>pdD a :: j9 r
end
section
variable {X:Cx}{pins:List (aw × Obj)}{s:au}{σ:St}{H:Hp}{O:Own}
theorem kU:∀ {xs:List V} {us:List aj} {l:List Dat},zw xs us->xs.length=l.length->(∀ (i:Nat) x d,xs[i]?=some x->l[i]?=some d->∀ v',zv x v'->∃ as,Reads s.heap v' (pdD d) as)->∃ as,ReadsAll s.heap us (j9 l) as
 | [],_,[],.nil,_,_=>⟨_,by rw [j9];exact .nil⟩
 | x :: xs,_,d :: l,.cons r t,hl,h=>by
  obtain ⟨as,ha⟩:=h 0 x d rfl rfl _ r
  obtain ⟨bs,hb⟩:=kU t (by simpa using hl) (fun i y e h1 h2=>h (i+1) y e (by simpa using h1) (by simpa using h2))
  exact ⟨as ++ bs,by rw [j9];exact .cons ha hb⟩
theorem WP (I:Inv X pins σ H s){v:V}{d:Dat}(r:Rep H O v d):dp d<1000->∀ v',zv v v'->∃ as,Reads s.heap v' (pdD d) as:=by
 induction r with
 | non=>intro _ v' rv;cases rv;exact ⟨_,by rw [show pdD .non=.none by simp [pdD]];exact .none⟩
 | bl=>intro _ v' rv;cases rv;exact ⟨_,by rw [pdD];exact .bool _⟩
 | int=>intro _ v' rv;obtain ⟨t,rfl⟩:=rv;exact ⟨_,by rw [pdD];exact .int _ _⟩
 | str=>intro _ v' rv;obtain ⟨t,rfl⟩:=rv;exact ⟨_,by rw [pdD];exact .str _ _⟩
 | ty=>intro h;rw [dp] at h;omega
 | rng _ _=>intro h;rw [dp] at h;omega
 | scr _ _=>intro h;rw [dp] at h;omega
 | scrK _=>intro h;rw [dp] at h;omega
 | @lst a xs l o h hl _ ih=>
  intro hd v' rv
  cases rv
  rw [dp] at hd
  obtain ⟨_,its,n,vs,hg⟩:=(show zM X.prog X.w H s.heap a (.lst xs) from I.hok a _ h)
  obtain ⟨as,ha⟩:=kU vs hl (fun i x d e1 e2=>ih i x d e1 e2 (by have:=qD (bJ e2);omega))
  exact ⟨_,by rw [pdD];exact .list hg rfl rfl (by simpa using ha)⟩
 | @tup a xs l o h hl _ ih=>
  intro hd v' rv
  cases rv
  rw [dp] at hd
  obtain ⟨_,its,vs,o,ho,hc,⟨n,hdt⟩,_⟩:=(show zM X.prog X.w H s.heap a (.tup xs) from I.hok a _ h)
  obtain ⟨as,ha⟩:=kU vs hl (fun i x d e1 e2=>ih i x d e1 e2 (by have:=qD (bJ e2);omega))
  exact ⟨_,by rw [pdD];exact .tuple ho hc hdt (by simpa using ha)⟩
mutual
theorem AL:∀ d:Dat,(pdD d).hasDict=false
 | .non=>by simp [pdD,b9.hasDict]
 | .bl _=>by simp [pdD,b9.hasDict]
 | .int _=>by simp [pdD,b9.hasDict]
 | .str _=>by simp [pdD,b9.hasDict]
 | .ty _=>by simp [pdD,b9.hasDict]
 | .rng _ _ _=>by simp [pdD,b9.hasDict]
 | .scr _ _=>by simp [pdD,b9.hasDict]
 | .lst l=>by rw [pdD,b9.hasDict];exact Z0 l
 | .tup l=>by rw [pdD,b9.hasDict];exact Z0 l
theorem Z0:∀ l:List Dat,b9.hasDictAll (j9 l)=false
 | []=>by simp [j9,b9.hasDictAll]
 | a :: r=>by rw [j9,b9.hasDictAll,AL a,Z0 r];rfl
end
mutual
theorem Jl:∀ d:Dat,(pdD d).depth<=dp d
 | .non=>by simp [pdD,b9.depth]
 | .bl _=>by simp [pdD,b9.depth]
 | .int _=>by simp [pdD,b9.depth]
 | .str _=>by simp [pdD,b9.depth]
 | .ty _=>by simp [pdD,b9.depth]
 | .rng _ _ _=>by simp [pdD,b9.depth]
 | .scr _ _=>by simp [pdD,b9.depth]
 | .lst l=>by rw [pdD,b9.depth,dp];exact gR (yL l)
 | .tup l=>by rw [pdD,b9.depth,dp];exact gR (yL l)
theorem yL:∀ l:List Dat,b9.depthAll (j9 l)<=dps l
 | []=>by simp [j9,b9.depthAll]
 | a :: r=>by rw [j9,b9.depthAll,dps];exact Nat.max_le.mpr ⟨aZ (Jl a) (Nat.le_max_left _ _),aZ (yL r) (oy _ _)⟩
end
end
section
variable {X:Cx}
end
structure Sh (b:Nat)(d:Dat):Prop where
 s:(pdD d).showable=true
 l:(pdD d).shown.length<=b
theorem Sh.mono {b c:Nat} (h:Sh b d)(k:b<=c):Sh c d:=⟨h.s,aZ h.l k⟩
theorem Qw {i:Int}(h:i.natAbs<10 ^ 20):Sh 22 (.int i):=by
 have h1:i.natAbs.log2<1920:=by
  by_cases z:i.natAbs=0
  ·rw [z];decide
  ·exact (Nat.log2_lt z).mpr (Nat.lt_trans h (by decide +kernel))
 refine ⟨by rw [pdD,b9.showable];exact decide_eq_true h1,?_⟩
 rw [pdD,b9.shown]
 have:=int_text_length_le10 (a:=i) (k:=20) (by decide) h
 have e:(ap (toString i)).length=(toString i).length:=PySem.ofString_length _
 show (ap (toString i)).length<=22
 omega
theorem YI {l:List Dat}(h:∀ d ∈ l,(pdD d).showable=true):b9.showableAll (j9 l)=true:=by
 induction l with
 | nil=>simp [j9,b9.showableAll]
 | cons a r ih=>rw [j9,b9.showableAll,h a (by simp),ih fun d hd=>h d (by simp [hd])];rfl
theorem ym {b:Nat}{l:List Dat}(h:∀ d ∈ l,(pdD d).shown.length<=b):((b9.shownAll (j9 l)).map (·.length)).sum<=l.length * b/\(b9.shownAll (j9 l)).length=l.length:=by
 induction l with
 | nil=>simp [j9,b9.shownAll]
 | cons a r ih=>
  obtain ⟨h1,h2⟩:=ih fun d hd=>h d (by simp [hd])
  have h3:=h a (by simp)
  rw [j9,b9.shownAll]
  simp only [aY,gU,aN]
  refine ⟨?_,by rw [h2]⟩
  rw [Nat.add_mul,Nat.one_mul]
  omega
theorem Kf {b n:Nat}{l:List Dat}(hn:l.length<=n)(h:∀ d ∈ l,Sh b d):Sh (n * b+2 * n+3) (.lst l):=by
 obtain ⟨h1,h2⟩:=ym (fun d hd=>(h d hd).l)
 refine ⟨by rw [pdD,b9.showable];exact YI fun d hd=>(h d hd).s,?_⟩
 rw [pdD,b9.shown]
 have:=listText_len_le (b9.shownAll (j9 l))
 have hm:l.length * b<=n * b:=mQ b hn
 omega
theorem QA {b n:Nat}{l:List Dat}(hn:l.length<=n)(h:∀ d ∈ l,Sh b d):Sh (n * b+2 * n+3) (.tup l):=by
 obtain ⟨h1,h2⟩:=ym (fun d hd=>(h d hd).l)
 refine ⟨by rw [pdD,b9.showable];exact YI fun d hd=>(h d hd).s,?_⟩
 rw [pdD,b9.shown]
 have:=tupleText_len_le (b9.shownAll (j9 l))
 have hm:l.length * b<=n * b:=mQ b hn
 omega
theorem Et {a b:ASp}(h:∀ xs M Q,b xs M Q->a xs M (rtA M Q))(vs:List V)(H:Hp)(Q:VK)(E:XK)(q:cSp b vs H Q E):cSp a vs H Q E:=by
 obtain ⟨xs,M,O,Q',w,r,q,k⟩:=q
 refine ⟨xs,M,O,_,w,r,h xs M Q' q,fun x M' v H' O' q' e' w' r'=>?_⟩
 obtain ⟨y',M'',f,q2⟩:=q'
 obtain ⟨O'',w2,k2,r2⟩:=kK w w' e' r' f
 exact k _ _ _ _ _ q2 k2 w2 r2
structure SB (M0 M:MH)(b:aw)(N:Nat):Prop where
 bx:BxM M b N
 fr:∀ q,M0 q ≠ none->q ≠ b->M q=M0 q
 b0:M0 b ≠ none
theorem SB.refl {N:Nat}(h:BxM M b N):SB M M b N:=⟨h,fun _ _ _=>rfl,h.ne⟩
theorem SB.go {N N':Nat}(s:SB M0 M b N)(t:BxS M M' b N'):SB M0 M' b N':=⟨t.1,fun q hq hb=>(t.at hb).trans (s.fr q hq hb),s.b0⟩
theorem SB.mono {N N':Nat}(s:SB M0 M b N)(h:N<=N'):SB M0 M b N':=⟨s.bx.mono h,s.fr,s.b0⟩
theorem SB.new {M0 M:MH}{b p:aw}{N:Nat}(s:SB M0 M b N)(hp:M p=none):M0 p=none/\p ≠ b:=by
 have hb:p ≠ b:=fun z=>s.bx.ne (by rw [<- z];exact hp)
 refine ⟨?_,hb⟩
 cases e:M0 p with
 | none=>rfl
 | some o=>rw [s.fr p (by rw [e];exact fun z=>nomatch z) hb,e] at hp;cases hp
theorem SB.fin {N:Nat}(s:SB M0 M b N)(d:Dat):∃ M'',y4 M0 M (.d d) (.d d) M''/\BxS M0 M'' b N:=by
 obtain ⟨x,y,z,h1,h2⟩:=s.bx
 refine ⟨mup M0 b (.lst [.d (.int x),.d (.int y),.d (.int z)]),⟨fun q=>?_,fun q o e=>?_,.inl ⟨rfl,fun p z=>nomatch z⟩⟩,⟨x,y,z,zk,h2⟩,_,rfl⟩
 ·by_cases c:q=b
  ·rw [c,zk,h1];exact .inl rfl
  ·rw [zn c]
   cases e:M0 q with
   | none=>exact .inr ⟨rfl,rfl⟩
   | some o=>exact .inl (by rw [s.fr q (by rw [e];exact fun z=>nomatch z) c,e])
 ·by_cases c:q=b
  ·rw [c,zk] at e
   cases e
   exact .inr fun r hr=>absurd hr (vq (ds:=[.int x,.int y,.int z]) rfl r)
  ·rw [zn c] at e;exact .inl e
theorem SB.rt {N:Nat}{Q:AK} (s:SB M0 M b N)(q:∀ M',BxS M0 M' b N->Q (.d d) M'):rtA M0 Q (.d d) M:=by
 obtain ⟨M'',f,t⟩:=s.fin d
 exact ⟨_,_,f,q M'' t⟩
theorem wv {Q:AK} (f:Fr M0 M)(q:Q (.d d) M0):rtA M0 Q (.d d) M:=⟨_,_,qP f d,q⟩
theorem SB.frm {M M2 M':MH} {N:Nat}(f:Fr M M2)(hb:M b=none)(s:SB M2 M' b N):Fr M M':=fun q hq=>by
 have h1:q ≠ b:=fun z=>hq (by rw [z];exact hb)
 rw [s.fr q (by rw [f q hq];exact hq) h1,f q hq]
theorem Eo {l:List Dat}{i:Int}(h0:0<=i)(h1:i<l.length):∃ d ∈ l,atI (l.map AV.d) i=some (.d d):=by
 have h2:i.toNat<l.length:=by omega
 refine ⟨l[i.toNat],bh h2,?_⟩
 rw [EU,Qg h0 h1 .non,aq,af h2];rfl
theorem X0:bK "repr"=some (.builtin "repr"):=by decide +kernel
section
variable {X:Cx}
noncomputable def Wd:List V->Hp->VK->Prop:=fun xs H Q=>∃ v O d,xs=[v]/\Rep H O v d/\dp d<=40/\(pdD d).showable=true/\(pdD d).shown.length<=aM/\Q (.str (pdD d).shown) H
theorem wA (hg:X.A.guards=some [])(hu:X.A.units+64<fW):qG X (.builtin "repr") Wd:=by
 intro pins s σ H xs us Q I r h
 obtain ⟨v,O,d,rfl,rd,hd,hs,hz,q⟩:=h
 have hdp:=Jl d
 have I':∀ tk,Inv X pins σ H { s with toks:=tk }:=fun tk=>I.kept (h':=s.heap) (fun _ _ e=>e)
 have big:∀ a,v=.ref a->aK (aL X.prog X.w) X.A (call (.builtin "repr") us) (EP X pins σ Q) X.xe s:=fun a e=>by
  subst e
  obtain ⟨u,rfl,ru⟩:∃ u,us=[u]/\zv (.ref a) u:=by
   cases r with
   | cons p q=>cases q;exact ⟨_,rfl,p⟩
  cases ru
  obtain ⟨as,ha⟩:=WP I rd (by omega) _ rfl
  exact repr_of_reads' ha hs (b9.noDict_hsm (AL d)) hg (by omega) (fun _ _ e=>e) (fun h' u tk hk=>⟨.str _,H,I.kept hk,⟨_,rfl⟩,q⟩) hz
 cases rd with
 | non=>
  obtain ⟨u,rfl,ru⟩:∃ u,us=[u]/\zv .non u:=by
   cases r with
   | cons p q=>cases q;exact ⟨_,rfl,p⟩
  cases ru
  exact PySem.P.repr_of_none ⟨.str _,H,I' _,⟨_,rfl⟩,by simpa [pdD,b9.shown] using q⟩
 | @bl b=>
  obtain ⟨u,rfl,ru⟩:∃ u,us=[u]/\zv (.bl b) u:=by
   cases r with
   | cons p q=>cases q;exact ⟨_,rfl,p⟩
  cases ru
  exact PySem.P.repr_of_bool ⟨.str _,H,I' _,⟨_,rfl⟩,by cases b <;> simpa [pdD,b9.shown] using q⟩
 | @int i=>
  obtain ⟨u,rfl,ru⟩:∃ u,us=[u]/\zv (.int i) u:=by
   cases r with
   | cons p q=>cases q;exact ⟨_,rfl,p⟩
  obtain ⟨t,rfl⟩:=ru
  have hs:i.natAbs.log2<1920:=by rw [pdD,b9.showable] at hs;exact of_decide_eq_true hs
  exact PySem.P.repr_of_int hs ⟨.str _,H,I' _,⟨_,rfl⟩,by simpa [pdD,b9.shown] using q⟩
 | @str x=>
  obtain ⟨u,rfl,ru⟩:∃ u,us=[u]/\zv (.str x) u:=by
   cases r with
   | cons p q=>cases q;exact ⟨_,rfl,p⟩
  obtain ⟨t,rfl⟩:=ru
  exact PySem.P.repr_of_str ⟨.str _,H,I' _,⟨_,rfl⟩,by simpa [pdD,b9.shown] using q⟩ (by simpa [pdD,b9.shown] using hz)
 | ty=>rw [dp] at hd;omega
 | rng _ _=>rw [dp] at hd;omega
 | scr _ _=>rw [dp] at hd;omega
 | scrK _=>rw [dp] at hd;omega
 | lst h1 h2 h3 h4=>exact big _ rfl
 | tup h1 h2 h3 h4=>exact big _ rfl
end
noncomputable def Eb:List AV->MH->AK->Prop:=fun xs M Q=>∃ x d,xs=[x]/\ZA x M=some d/\dp d<=40/\(pdD d).showable=true/\(pdD d).shown.length<=aM/\Q (.d (.str (pdD d).shown)) M
theorem YY:vc Wd Eb:=⟨fun w r ⟨x,d,e,hx,h1,h3,h4,q⟩ k=>by
 subst e
 obtain ⟨v,rfl,rv⟩:=qV r
 obtain ⟨O',r'⟩:=vZ w rv hx
 exact ⟨v,O',d,rfl,r',h1,h3,h4,k _ _ _ _ _ q .refl w .str⟩⟩
section
open PySem.SeqAt
open PySem.AutoSeq1 (wpAny_loadPart')
open PySem.MeetsSeq PySem.MeetsSeq2 PySem.MeetsSeq3 PySem.SeqRoads2
end
section
variable {X:Cx}
end
section
variable {X:Cx}{pins:List (aw × Obj)}{σ:St}{H:Hp}{s:au}{a b:aw}{kvs:List (List Key × V)}{k:List Key}{v:V}{r:aj}{A:bj}{E:aj->au->Prop}
theorem VT {Q:Unit->au->Prop}(hu:A.units<fW)(I:Inv X pins σ H s)(e:H a=some (.dT kvs))(eb:H b=some (.tup (k.map kV)))(l:kvs.length<aM)(rv:zv v r)(h:∀ s',Inv X pins σ (upd H a (.dT (xJ kvs k v))) s'->Q () s') :
  aK (aL X.prog X.w) A (dictSet a (.ref b) r) Q E s:=by
 obtain ⟨z,hd,xs,rel,dd⟩:=D1 I.hok e
 have hz:xs.length<=aM:=by rw [<- gi.length rel];exact z
 have hl:(xJ kvs k v).length<=aM:=by have:=xf kvs k v;omega
 refine wpAny_dictSet_heap (hsz:=hz) (show (ii (qc X.prog X.w)).room A from hu) (ZQ I.hok eb) dd fun h' dd' hs=>h _ ?_
 obtain ⟨q,es,ep,hq,h2,h3,h4,_,h5⟩:=dd'
 refine ZY I (by rw [e];exact True.intro) hs ⟨q,hq⟩ ⟨hl,hd,_,(rel.put k eb rv).keeps fun c ys ec=>?_,q,es,ep,hq,h2,h3,h4,h5⟩
 rw [zg (wW ec e (fun z=>nomatch z))]
 exact ec
end
section
variable {prog:aX}{w:bB}{A:bj}{E:aj->au->Prop}{s:au}
theorem Q0 {vs:List aj}{Q:List aj->au->Prop}(hl:nH s.heap l vs.toArray)
  (h:Q vs { s with heap:=(s.heap.push (iE "list" #[] 0)).update s.heap.objs.size (eF (· ++ vs.toArray)) }) (hsz:vs.length<=aM:=by size_fits) :
  aK (aL prog w) A (collect (.ref l)) Q E s:=by
 obtain ⟨o,ho,hc,n,hd⟩:=id hl
 unfold collect
 refine am (wpAny_runValue (mz entry_proto_collect' ?_))
 show aK _ _ (do again (.builtin "list.__iadd__" ⟨[<- newList [],.ref l],[]⟩)) _ _ s
 refine am (wpAny_newList (aA ⟨iG _ (by decide +kernel),mz entry_list_iadd' ?_⟩))
 show aK _ _ (ic (.ref s.heap.objs.size) (.ref l) (.ref s.heap.objs.size)) _ _ { s with heap:=s.heap.push (iE "list" #[] 0) }
 unfold ic
 have ho':(s.heap.push (iE "list" #[] 0)).get? l=some o:=ay _ ho
 refine am (ib (T:="tuple") ⟨o,ho',hc⟩ ?_)
 have ht:(aj.type "tuple" == aj.type "tuple")=true:=by rfl
 rw [if_pos (by rw [ht];simp)]
 refine am (listItems_at ho' hd ?_)
 refine am (listItems_at (xs:=#[]) (n:=0) (aQ _ rfl) rfl ?_)
 rw [if_neg (by simp)]
 refine am (listUpdate_at (xs:=#[]) (n:=0) (aQ _ rfl) rfl ?_ (ci _) (by show (#[] ++ vs.toArray).size<=aM+1;simp only [Array.size_append,aG,bV];omega))
 refine aA ?_
 show aK (aL prog w) A (do
   let o <- load s.heap.objs.size
   match o.data with
   | .seq xs _=>pure xs.toList
   | _=>unsupported "internal:collect") Q E { s with heap:=(s.heap.push (iE "list" #[] 0)).update s.heap.objs.size (eF (· ++ vs.toArray)) }
 refine am (wpAny_load (get?_update_seq (aQ _ rfl) _) ?_)
 show aK _ _ (pure ((#[]:Array aj) ++ vs.toArray).toList) Q E _
 rw [show ((#[]:Array aj) ++ vs.toArray).toList=vs by simp]
 exact aA h
theorem QH {vs:List aj} {Q:aj->au->Prop}(hl:nH s.heap l vs.toArray)(hI:lQ vs ns)(h64:vs.length<64)
  (h:∀ (out:Array aj) (ns':List Int),lQ out.toList ns'->ns'.Perm ns->ns'.Pairwise (·<=·)->Q (.ref (s.heap.objs.size+1)) { s with heap:=sortedAll s.heap vs out }) :
  aK (aL prog w) A (call (.builtin "sorted") [.ref l]) Q E s:=by
 refine Calls.call_function_entry kind_sorted plain_sorted entry_sorted (args_sorted1 _) ?_
 unfold Builtin.«sorted»
 refine am (m:=checkCount "sorted" 1 1 _) (aA ?_)
 refine am (Q0 hl ?_)
 refine am (wpAny_newList ?_)
 have hsz:((s.heap.push (iE "list" #[] 0)).update s.heap.objs.size (eF (· ++ vs.toArray))).objs.size=s.heap.objs.size+1:=by
  rw [Heap.size_update,size_push']
 have hoL:(((s.heap.push (iE "list" #[] 0)).update s.heap.objs.size (eF (· ++ vs.toArray))).push (iE "list" vs.toArray 0)).get? (s.heap.objs.size+1)=some (iE "list" vs.toArray 0):=by
  rw [<- hsz];exact aQ _ rfl
 show aK _ _ _ _ _ { s with heap:=((s.heap.push (iE "list" #[] 0)).update s.heap.objs.size (eF (· ++ vs.toArray))).push (iE "list" vs.toArray 0) }
 rw [hsz]
 refine am (cq (df slot_list_sort ⟨_,hoL,rfl⟩ entry_list_sort (list_sort_tree hoL hI h64 fun out ns' a1 a2 a3=>⟨_,rfl,?_⟩) (args_list_sort _)))
 exact aA ⟨_,rfl,h out ns' a1 a2 a3⟩
end
section
variable {X:Cx}
theorem QD:qG X (.builtin "sorted") (fun xs H Q=>∃ p ns,xs=[.ref p]/\SqT X.K H p (bp V.int ns)/\ns.length<64/\∀ l ns',H l=none->ns'.Perm ns->ns'.Pairwise (·<=·)->Q (.ref l) (upd H l (.lst (bp V.int ns')))):=by
 intro pins s σ H xs us Q I r h
 obtain ⟨p,ns,rfl,hq,h64,q⟩:=h
 obtain ⟨u,rfl,rx⟩:=jZ r
 cases rx
 obtain ⟨its,rv,pl,hz⟩:=I.tuple hq
 have hlen:=rv.length
 rw [az] at hlen
 refine QH pl (vU rv) (by omega) fun out ns' a1 a2 a3=>?_
 obtain ⟨k,he⟩:=sortedAll_at s.heap its out
 refine ⟨.ref (s.heap.objs.size+1),_,I.laid (t':=s.toks) (fun _ _=>sortedAll_old) (gu _) (show zM X.prog X.w _ _ _ (.lst (bp V.int ns')) from ⟨?_,out.toList,k,xF a1,by simpa [iE] using he⟩),rfl,q _ _ (I.hok.fresh (gu _)) a2 a3⟩
 rw [az,a2.length_eq]
 exact fF (wZ (by omega))
end
theorem jC {α τ:Type}(R:τ->ASt)(g f:α->AV)(xs:List α) {N:List AV->ASt->MH->Prop} (h0:∃ o,ρ=R o)(hG:G M)(hl:xs.length<=100000)
  (hs:∀ (o:τ) (x:α) (Q:AV->ASt->MH->Prop),x ∈ xs->(∀ o',Q (f x) (R o') M)->ag (g x) (R o) M fun ρ2 M2=>ae ρ2 M2 fun y M3=>Q y ρ2 M3) (hN:∀ o,N (xs.map f) (R o) M):Wz ag vS (yX ae) G N (xs.map g) [] ρ M:=by
 have hsl:100000<aM:=by rw [cC];decide
 refine ⟨fun i acc ρ' M'=>i<=xs.length/\acc=(xs.take i).map f/\M'=M/\∃ o,ρ'=R o,⟨ci _,rfl,rfl,h0⟩,?_,?_⟩
 ·rintro i x acc ρ' M' hx ⟨hi,rfl,rfl,o,rfl⟩
  rw [aD] at hx
  cases e:xs[i]? with
  | none=>rw [e] at hx;cases hx
  | some y=>
   rw [e] at hx
   cases hx
   have hil:=(aF.mp e).1
   refine ⟨hG,?_⟩
   refine hs o y (fun z ρ2 M3=>((xs.take i).map f).length<aM/\(i+1<=xs.length/\(xs.take i).map f ++ [z]=(xs.take (i+1)).map f/\M3=M'/\∃ o,ρ2=R o)) (bJ e) fun o'=>⟨by rw [az,cg];omega,hil,?_,rfl,o',rfl⟩
   rw [nV,e,bX];rfl
 ·rintro acc ρ' M' ⟨_,rfl,rfl,o,rfl⟩
  rw [az,gQ]
  exact ⟨hG,hN o⟩
noncomputable def fl2 (o:Obj):Option aj:=match o.data with
 | .fields vs=>vs[2]?
 | _=>none
def SmD (h h':Heap):Prop:=∀ b o,h.get? b=some o->∃ o',h'.get? b=some o'/\o'.dict=o.dict/\fl2 o'=fl2 o
theorem SmD.refl (h:Heap):SmD h h:=fun _ o e=>⟨o,e,rfl,rfl⟩
theorem SmD.trans {h h1 h2:Heap}(a:SmD h h1)(b:SmD h1 h2):SmD h h2:=fun c o e=>
 let ⟨_,e1,d1,f1⟩:=a c o e
 let ⟨o2,e2,d2,f2⟩:=b c _ e1
 ⟨o2,e2,d2.trans d1,f2.trans f1⟩
theorem SmD.push (h:Heap)(o:Obj):SmD h (h.push o):=fun _ u e=>⟨u,ay _ e,rfl,rfl⟩
theorem SmD.up {h:Heap} {f:Obj->Obj}(k:∀ o,(f o).dict=o.dict/\fl2 (f o)=fl2 o/\(o.isFreed=false->(f o).isFreed=false)):SmD h (h.update a f):=fun b o e=>by
 by_cases c:a=b
 ·subst c
  exact ⟨_,cV f e ((k o).2.2 (Heap.get?_some_iff.mp e).2),(k o).1,(k o).2.1⟩
 ·exact ⟨o,(dS _ _ c).trans e,rfl,rfl⟩
structure Kd {α:Type}(t:Sem α):Prop where
 out:∀ (M:oG) (G:PySem.Ctx) (R:α->Pos->au->Prop) (Ee:aj->Pos->au->Prop) (p:Pos) (s:au),Sem.wp M G t R Ee p s->Sem.wp M G t (fun a p' s'=>R a p' s'/\SmD s.heap s'.heap) Ee p s
section
variable {α β:Type}
theorem Z5 (a:α):Kd (Pure.pure a:Sem α):=⟨fun _ _ _ _ _ s h=>⟨h,SmD.refl _⟩⟩
theorem HV (x:String):Kd (unsupported x:Sem α):=⟨fun _ _ _ _ _ _ h=>h⟩
theorem Yh {m:Sem α}{f:α->Sem β}(hm:Kd m)(hf:∀ a,Kd (f a)):Kd (m >>= f):=⟨fun M G R Ee p s h=>by
 rw [Sem.wp_bind'] at h ⊢
 refine Sem.wp_mono M G m (fun a p1 s1 h1=>?_) (fun _ _ _ z=>z) p s (hm.out M G _ Ee p s h)
 refine Sem.wp_mono M G (f a) (fun b p2 s2 h2=>⟨h2.1,h1.2.trans h2.2⟩) (fun _ _ _ z=>z) p1 s1 ((hf a).out M G R Ee p1 s1 h1.1)⟩
theorem IR {c:Prop}[Decidable c]{t u:Sem α}(ht:Kd t)(hu:Kd u):Kd (if c then t else u):=by split <;> assumption
theorem Gx (a:aw):Kd (PySem.load a):=⟨fun _ _ R _ p s h=>by
 unfold PySem.load at h ⊢
 rw [Sem.wp_load] at h ⊢
 obtain ⟨o,e,h⟩:=h
 exact ⟨o,e,h,SmD.refl _⟩⟩
theorem VU {f:Obj->Obj}(k:∀ o,(f o).dict=o.dict/\fl2 (f o)=fl2 o/\(o.isFreed=false->(f o).isFreed=false)):Kd (PySem.update a f):=⟨fun _ _ R _ p s h=>by
 unfold PySem.update at h ⊢
 rw [Sem.wp_update] at h ⊢
 exact ⟨h.1,h.2,SmD.up k⟩⟩
theorem W0:Kd PySem.stack:=⟨fun M G R Ee p s h=>by
 unfold PySem.stack at h ⊢
 rw [Sem.wp_stack] at h ⊢
 exact ⟨h,SmD.refl _⟩⟩
theorem Dp (o:Obj):Kd (PySem.alloc o):=⟨fun _ _ R _ p s h=>by
 unfold PySem.alloc at h ⊢
 rw [Sem.wp_alloc] at h ⊢
 exact ⟨h,SmD.push _ _⟩⟩
theorem Bo (v:aj)(i:Nat):Kd (PySem.field v i):=⟨fun _ G R Ee p s h=>by
 obtain ⟨a,o,vs,x,e1,e2,e3,e4,q⟩:=(wp_field_iff G v i R Ee p s).mp h
 exact (wp_field_iff G v i _ Ee p s).mpr ⟨a,o,vs,x,e1,e2,e3,e4,q,SmD.refl _⟩⟩
theorem Vw (hi:i ≠ 2)(x:aj)(o:Obj):(eJ (·.setIfInBounds i x) o).dict=o.dict/\fl2 (eJ (·.setIfInBounds i x) o)=fl2 o/\(o.isFreed=false->(eJ (·.setIfInBounds i x) o).isFreed=false):=by
 obtain ⟨c,d,dt,sl⟩:=o
 cases dt
 case fields vs=>exact ⟨rfl,Array.getElem?_setIfInBounds_ne hi,fun h=>h⟩
 all_goals exact ⟨rfl,rfl,fun h=>h⟩
theorem JC (v:aj)(i:Nat)(x:aj)(hi:i ≠ 2):Kd (PySem.setField v i x):=⟨fun _ G R Ee p s h=>by
 obtain ⟨a,o,vs,e1,e2,e3,e4,q⟩:=(wp_setField_iff G v i x R Ee p s).mp h
 exact (wp_setField_iff G v i x _ Ee p s).mpr ⟨a,o,vs,e1,e2,e3,e4,q,SmD.up (Vw hi x)⟩⟩
end
local macro_rules | `(tactic| walk_at "kd")=>`(tactic| repeat' with_reducible first
  | assumption
  | exact Z5 _
  | exact HV _
  | exact Bo _ _
  | exact JC _ _ _ (by decide)
  | exact Gx _
  | exact W0
  | exact Dp _
  | apply IR
  | apply Yh
  | intro _
  | split)
theorem VD (env:Env)(outer:List Env):Kd (behindIsImport env outer):=by
 unfold behindIsImport
 walk_at "kd"
theorem VG:Kd underTheClaimsCaller:=by
 unfold underTheClaimsCaller
 walk_at "kd"
theorem Ff (env:Env)(i:Bool)(l:List Env):Kd (keptBack env i l):=by
 have:=VG
 cases l <;> unfold keptBack <;> walk_at "kd"
theorem JB:∀ l:List Env,Kd (readyFrames l)
 | []=>Z5 _
 | env :: outer=>by
  have ih:=JB outer
  have h1:=VD env outer
  have h2:=fun i=>Ff env i outer
  unfold readyFrames
  walk_at "kd"
  all_goals first | exact h2 _ | exact VU fun o=>⟨rfl,rfl,fun z=>by obtain ⟨c,d,dt,sl⟩:=o;cases dt <;> exact z⟩ | skip
theorem Jb (l:List Env):Kd (frameObject l):=by
 cases l with
 | nil=>exact Z5 _
 | cons env outer=>
  have:=JB (env :: outer)
  unfold frameObject
  walk_at "kd"
theorem Qa:Kd frameEnvs:=by
 unfold frameEnvs
 walk_at "kd"
theorem JU (env:Env):Kd (PySem.frameOf env):=by
 have h1:=Qa
 have h2:=Jb
 unfold PySem.frameOf
 walk_at "kd"
 all_goals first | exact h2 _ | skip
theorem By (f:aw)(b:Bool):Kd (entryPlaceOf f b):=by
 unfold entryPlaceOf
 walk_at "kd"
theorem BQ (a b c d e:aj)(l:List aj):Kd (EntryCells.newEntry a b c d e l):=by
 unfold EntryCells.newEntry newFields newObj newObjAsIs
 walk_at "kd"
theorem ZD (e:aj)(env:Env):Kd (gL e env):=by
 have h1:=JU env
 have h2:=By
 have h3:=BQ
 unfold gL
 walk_at "kd"
 all_goals first | exact h2 _ _ | exact h3 _ _ _ _ _ _ | skip
theorem xw (e:aj)(f:Option aw):Kd (lI e f):=by
 unfold lI
 walk_at "kd"
theorem vX (env:Env)(e:aj):Kd (leaving env e):=Yh (ZD e env) fun _=>xw e none
theorem Kd.any {α:Type}{t:Sem α}(k:Kd t){M:oG} {Q:α->au->Prop}{E:aj->au->Prop} (h:aK M A t Q E s):aK M A t (fun a s'=>Q a s'/\SmD s.heap s'.heap) E s:=
 fun G p hG=>k.out M G _ _ p s (h G p hG)
theorem zM.here {P:aX}{w:bB}{H:Hp}{h:Heap}{a:aw}{o:HO}(x:zM P w H h a o):∃ u,h.get? a=some u:=by
 cases o with
 | lst xs=>obtain ⟨_,_,_,_,e⟩:=x;exact ⟨_,e⟩
 | tup xs=>obtain ⟨_,_,_,o,e,_⟩:=x;exact ⟨_,e⟩
 | dK kvs=>obtain ⟨_,_,_,_,o,_,_,e,_⟩:=x;exact ⟨_,e⟩
 | dT kvs=>obtain ⟨_,_,_,_,o,_,_,e,_⟩:=x;exact ⟨_,e⟩
 | set S n=>obtain ⟨o,_,_,_,e,_⟩:=x;exact ⟨_,e⟩
 | ins C dx fs=>obtain ⟨_,_,_,e,_⟩:=x;exact ⟨_,e⟩
 | own y=>exact x
 | xd fs=>obtain ⟨_,⟨_,_,_,e,_⟩,_⟩:=x;exact ⟨_,e⟩
 | rng lo hi=>obtain ⟨_,_,_,e⟩:=x;exact ⟨_,e⟩
 | frz ob u=>obtain ⟨e,_⟩:=x;exact ⟨_,e⟩
 | tbl ps=>exact ⟨_,x⟩
 | met f y=>exact ⟨_,x⟩
 | ext φ=>exact x.2.1
structure xS (P:aX)(w:bB)(outer:List Env)(H:Hp)(s:au)(B:Heap)(H':Hp)(s':au):Prop where
 os:s'.os=s.os
 bare:ia s'.gens
 stay:B.StaysIn s'.heap
 cov:∀ b o,s.heap.get? b=some o->b ∉ frs outer->∃ o',B.get? b=some o'/\(H b=none->o'=o)
 slot:∀ b o,s.heap.get? b=some o->b ∈ frs outer->∃ sl,s'.heap.get? b=some { o with slots:=sl }
 frf:∀ b ∈ frs outer,H b=none
 free:∀ b o,s.heap.get? b=some o->H b=none->H' b=none
 tups:∀ b xs,H b=some (.tup xs)->H' b=some (.tup xs)
 frzs:∀ b o u,H b=some (.frz o u)->H' b=some (.frz o u)
 tbls:∀ b ps,H b=some (.tbl ps)->∃ more,H' b=some (.tbl (ps ++ more))
 hok:HOk P w H' B
section
variable {P:aX}{w:bB}{outer:List Env}{H H':Hp}{s s':au}{B h':Heap}
theorem xS.un (a:xS P w outer H s B H' s'):Un (frs outer) [] H H' s.heap s'.heap where
 keep:=fun b o e n hb _=>by
  obtain ⟨o',e1,e2⟩:=a.cov b o e hb
  rw [e2 n] at e1
  exact a.stay b o e1
 slot:=fun b o e _ hb _=>a.slot b o e hb
 free:=fun b o e n _=>a.free b o e n
 there:=fun b o e _=>by
  by_cases hb:b ∈ frs outer
  ·obtain ⟨sl,z⟩:=a.slot b o e hb
   exact ⟨_,z⟩
  ·obtain ⟨o',e1,_⟩:=a.cov b o e hb
   exact ⟨_,a.stay b o' e1⟩
 tups:=a.tups
 frzs:=a.frzs
 tbls:=a.tbls
theorem xS.ok (a:xS P w outer H s B H' s'):HOk P w H' s'.heap:=a.hok.kept a.stay
theorem xS.step (a:xS P w outer H s B H' s'){B0:Heap}(fr:s'.heap.FunFrames B0 outer)(k:B.StaysIn h')(u:s'.heap.UpToSlots h'):xS P w outer H s B H' { s' with heap:=h' }:=
 ⟨a.os,a.bare,k,a.cov,fun b o e hb=>by
  obtain ⟨sl,z⟩:=a.slot b o e hb
  obtain ⟨_,o2,e2,nf⟩:=fr.mem hb
  rw [z] at e2;cases e2
  obtain ⟨sl2,z2⟩:=u b _ z nf
  exact ⟨sl2,z2⟩,a.frf,a.free,a.tups,a.frzs,a.tbls,a.hok⟩
end
section
variable {X:Cx}{pins:List (aw × Obj)}{σ:St}{H H':Hp}{s s':au}{B h':Heap}
theorem Inv.ltS (I:Inv X pins σ H s) {o:Obj}(e:X.s₀.heap.get? b=some o):b ≠ X.env.locals:=fun z=>by
 have h:=bw (aH e) I.ok.above
 rw [z] at h
 exact cW _ h
theorem Inv.notStk (I:Inv X pins σ H s) {o:Obj}(e:X.s₀.heap.get? b=some o)(hb:b ∉ frs X.outer):b ∉ frs X.stack:=fun z=>(aE.mp (I.stkSub b z)).elim (I.ltS e) hb
theorem yG {X:Cx}(hs:X.stack=X.env :: X.outer){b:aw}(hb:b ∈ frs X.outer):b ∈ frs X.stack:=by
 rw [hs];unfold frs;rw [fR]
 cases X.env.frame with
 | none=>exact hb
 | some f=>exact bD _ hb
theorem xS.out (I:Inv X pins σ H s)(hs:X.stack=X.env :: X.outer)(hex:X.ex=[])(a:xS X.prog X.w X.stack H s B H' s'):xS X.prog X.w X.outer X.H₀ X.s₀ B H' s':=by
 have nx:∀ b,b ∉ X.ex:=fun b=>by rw [hex];simp
 refine ⟨a.os.trans I.os,a.bare,a.stay,fun b o e hb=>?_,fun b o e hb=>?_,I.ok.frf,fun b o e n=>?_,fun b xs e=>a.tups b xs (I.base.tups b xs e),fun b o u e=>a.frzs b o u (I.base.frzs b o u e),fun b ps e=>?_,a.hok⟩
 ·obtain ⟨o1,e1⟩:=I.base.there b o e (nx b)
  obtain ⟨o',e2,e3⟩:=a.cov b o1 e1 (I.notStk e hb)
  refine ⟨o',e2,fun n=>?_⟩
  have:=I.base.keep b o e n hb (nx b)
  rw [e1] at this;cases this
  exact e3 (I.base.free b o e n (nx b))
 ·obtain ⟨sl,e1⟩:=I.base.slot b o e (I.ok.frf b hb) hb (nx b)
  obtain ⟨sl2,e2⟩:=a.slot b _ e1 (yG hs hb)
  exact ⟨sl2,e2⟩
 ·obtain ⟨o1,e1⟩:=I.base.there b o e (nx b)
  exact a.free b o1 e1 (I.base.free b o e n (nx b))
 ·obtain ⟨m1,e1⟩:=I.base.tbls b ps e
  obtain ⟨m2,e2⟩:=a.tbls b _ e1
  exact ⟨m1 ++ m2,by rw [e2,nl]⟩
noncomputable def je (X:Cx)(s:au)(x:aw):Heap:=PySem.W.hideAll s.heap (x :: frs X.stack)
theorem XW (I:Inv X pins σ H s){x:aw}(hx:H x=none):HOk X.prog X.w H (je X s x):=fun a o e=>by
 refine (I.hok a o e).stay (fun b u hb q=>fQ _ q fun z=>?_) (fun _ q=>q) fun _ _ q=>q
 have:H b=none:=by
  rcases aE.mp z with rfl | z
  ·exact hx
  ·exact I.stkFree b z
 rcases hb with rfl | hb
 ·rw [e] at this;cases this
 ·rw [hb] at this;cases this
theorem Xe (I:Inv X pins σ H s)(hs:X.stack=X.env :: X.outer)(hex:X.ex=[]){x:aw}(hx0:X.s₀.heap.get? x=none)(hx:H x=none)(st:(je X s x).StaysIn h')(us:s.heap.UpToSlots h') :
  xS X.prog X.w X.outer X.H₀ X.s₀ (je X s x) H { s with heap:=h' }:=by
 have nx:∀ b,b ∉ X.ex:=fun b=>by rw [hex];simp
 have hid:∀ b o o',X.s₀.heap.get? b=some o->b ∉ frs X.outer->s.heap.get? b=some o'->(je X s x).get? b=some o':=fun b o o' e hb e1=>fQ _ e1 fun z=>by
  rcases aE.mp z with rfl | z
  ·rw [hx0] at e;cases e
  ·exact I.notStk e hb z
 refine ⟨I.os,I.bare,st,fun b o e hb=>?_,fun b o e hb=>?_,I.ok.frf,fun b o e n=>I.base.free b o e n (nx b),I.base.tups,I.base.frzs,I.base.tbls,XW I hx⟩
 ·obtain ⟨o1,e1⟩:=I.base.there b o e (nx b)
  refine ⟨o1,hid b o o1 e hb e1,fun n=>?_⟩
  have:=I.base.keep b o e n hb (nx b)
  rw [e1] at this;cases this;rfl
 ·obtain ⟨sl,e1⟩:=I.base.slot b o e (I.ok.frf b hb) hb (nx b)
  obtain ⟨_,o2,e2,nf⟩:=I.stack.mem (yG hs hb)
  rw [e1] at e2;cases e2
  obtain ⟨sl2,e3⟩:=us b _ e1 nf
  exact ⟨sl2,e3⟩
end
def Two (d:Option aw)(H:Hp):Prop:=∃ dx fs,d=some dx/\H dx=some (.xd fs)/\2<=fs.length
structure Air (P:aX)(w:bB)(outer:List Env)(H:Hp)(s:au)(x C:aw)(d:Option aw)(H':Hp)(s':au):Prop where
 ex:∃ B a0,xS P w outer H s B H' s'/\fL B outer x (.ref C) a0 s'.heap
 dct:∃ o,s'.heap.get? x=some o/\o.dict=d/\(fl2 o=some .none \/ Two d H')
noncomputable def CX1 (P:aX)(w:bB):CXT:=fun outer H s E e s'=>∃ x C d H',e=.ref x/\Air P w outer H s x C d H' s'/\E (.ref C) d H'
theorem CX1.imp {s s':au}{E E':XK}{e:aj}(h:CX1 P w outer H s E e s')(k:∀ c d H',E c d H'->E' c d H'):CX1 P w outer H s E' e s':=
 let ⟨x,C,d,H',e1,a,q⟩:=h
 ⟨x,C,d,H',e1,a,k _ _ _ q⟩
structure DX (X:Cx)(E:XK):Prop where
 stk:X.stack=X.env :: X.outer
 ex:X.ex=[]
 fr:X.env.frame=some X.env.locals
 xe:X.xe=fun e s'=>aK (aL X.prog X.w) X.A (leaving X.env e) (fun _ s''=>CX1 X.prog X.w X.outer X.H₀ X.s₀ E e s'') (fun e' s''=>CX1 X.prog X.w X.outer X.H₀ X.s₀ E e' s'') s'
section
variable {X:Cx}{E:XK}{pins:List (aw × Obj)}{σ:St}{H H':Hp}{s s':au}
theorem DX.pass (D:DX X E):xr (CX1 X.prog X.w) X E:=by
 intro pins σ H s e s' I h
 obtain ⟨x,C,d,H',rfl,⟨⟨B,a0,a,fl⟩,o,ho,hd,h2⟩,q⟩:=h
 rw [D.xe]
 have hs:=D.stk
 rw [hs] at fl
 refine aO ((vX X.env (.ref x)).any (wpAny_leaves_onW (E:=fun _ _=>False) (Q:=fun _ s2=>∃ h',s2={ s' with heap:=h' }/\fL B X.outer x (.ref C) a0 h'/\s'.heap.UpToSlots h') (by rw [<- hs];exact I.ok.frames) D.fr fl fun h' f1 us=>⟨h',rfl,f1,us⟩)) (fun _ s2 h2=>?_) fun _ _ z=>z.elim
 obtain ⟨⟨h',rfl,f1,us⟩,sd⟩:=h2
 obtain ⟨o',ho',hd',hf'⟩:=sd x o ho
 exact ⟨x,C,d,H',rfl,⟨⟨B,a0,(a.out I hs D.ex).step (B0:=B) (by
  obtain ⟨_,_,f3,_⟩:=fl
  exact f3.2.2) f1.1 us,f1⟩,o',ho',hd'.trans hd,h2.imp (fun z=>hf'.trans z) id⟩,q⟩
theorem DX.raise (D:DX X E)(I:Inv X pins σ H s){x C:aw}{d:Option aw}{oe:Obj}{vs:Array aj}{a0:aj}{h1:Heap}(k:∀ b o,b ≠ x->s.heap.get? b=some o->h1.get? b=some o)(kx:∀ o,s.heap.get? x=some o->∃ vs,o.data=.fields vs)
  (he:h1.get? x=some oe) (hc:oe.cls=.ref C) (hd:oe.dict=d) (hf:oe.data=.fields vs) (hv1:vs[1]?=some .none) (hv0:vs[0]?=some a0) (hv2:vs[2]?=some .none \/ Two d H) (hx0:X.s₀.heap.get? x=none) (hx:H x=none) (q:E (.ref C) d H):X.xe (.ref x) { s with heap:=h1 }:=by
 rw [D.xe]
 have hs:=D.stk
 have st1:(je X s x).StaysIn h1:=fun b o e=>k b o (fun z=>by rw [z,je,dI _ (ck)] at e;cases e) (im _ e)
 have us1:s.heap.UpToSlots h1:=fun b o e nf=>by
  by_cases c:b=x
  ·rw [c] at e
   obtain ⟨vs,z⟩:=kx o e
   exact absurd z (nf vs)
  ·exact ⟨o.slots,k b o c e⟩
 have fr0:s.heap.FunFrames (je X s x) (X.env :: X.outer):=by
  have:=I.stack
  rw [hs] at this
  exact lZ this fun env he b hb=>bD _ (by rw [hs];exact eU.mpr ⟨env,he,hb⟩)
 have fr1:h1.FunFrames (je X s x) (X.env :: X.outer):=fr0.of_keeps fun b o e nf=>by
  obtain ⟨sl,z⟩:=us1 b o e nf
  exact ⟨_,z,rfl⟩
 have xn:(je X s x).get? x=none:=dI _ ck
 refine aO ((vX X.env (.ref x)).any (wpAny_leaving_firstW (s:={ s with heap:=h1 }) (E:=fun _ _=>False) (base:=je X s x) (Q:=fun _ s2=>∃ h',s2={ s with heap:=h' }/\Heap.LeftW (je X s x) (X.env :: X.outer) x oe.cls a0 h1 h') (by rw [<- hs];exact I.ok.frames) fr1 D.fr he st1 xn hf hv1 hv0 fun h' hl=>⟨h',rfl,hl⟩)) (fun _ s2 h2=>?_) fun _ _ z=>z.elim
 obtain ⟨⟨h',rfl,l1,l2,l3,l4⟩,sd⟩:=h2
 obtain ⟨o',ho',hd',hf'⟩:=sd x oe he
 have hff:fl2 oe=vs[2]?:=by unfold fl2;rw [hf]
 rw [hc] at l3
 exact ⟨x,C,d,H,rfl,⟨⟨je X s x,a0,Xe I hs D.ex hx0 hx l1 (us1.trans l4),l1,xn,l2.2.2,l3⟩,o',ho',hd'.trans hd,hv2.imp (fun z=>(hf'.trans hff).trans z) id⟩,q⟩
end
def yZ (CX:CXT)(X:Cx)(E:St->XK):Prop:=∀ (pins:List (aw × Obj)) (σ:St) (H:Hp) (s:au) (e:aj) (s':au),Inv X pins σ H s->CX X.stack H s (E σ) e s'->X.xe e s'
noncomputable def KB (sp:Sp)(E:St->XK)(t:TA):TE:=fun σ H Q=>t σ H fun vs H1=>sp vs H1 Q (E σ)
def DfX (P:aX)(w:bB)(K:ax)(mg:Str->Option aj)(base:Heap)(x:Str)(ps:List Str)(k:Nat)(sp:Sp):Prop:=
 ∃ f fd,js P w K mg base (CX1 P w) k f fd ps sp/\jt K fd ps []/\dh K (.ref f)=true/\mg x=some (.ref f)
theorem DfX.mono {x:Str} (D:DfX P w K mg base x ps j sp)(h:j<=k):DfX P w K mg base x ps k sp:=
 let ⟨f,fd,F,r⟩:=D
 ⟨f,fd,F.mono h,r⟩
section
variable {X:Cx}{k:Nat}{x:Str}{ps:List Str}{sp:Sp}{E:St->XK}{p pos:Pos}{e:Expr}{es:List Expr}{t:TA}
theorem Yq {CX:CXT}{f:aw}{fd:dE}{pins:List (aw × Obj)}{σ:St}{H:Hp}{s:au}{Q:VK}{us:List aj}{vs:List V}(F:js X.prog X.w X.K X.mg X.base CX k f fd ps sp)(hr:qk k X.A)(hb:jt X.K fd ps [])(hx:yZ CX X E)
  (I:Inv X pins σ H s) (r:zw vs us) (h:sp vs H Q (E σ)):aK (aL X.prog X.w) X.A (call (.ref f) us) (EP X pins σ Q) X.xe s:=by
 have hl:(us ++ []).length=ps.length:=by rw [cu,<- r.length];exact F.len _ _ _ _ h
 have b1:=hb s us I.kIn hl
 rw [cu] at b1
 refine iA (fH (F.run X.A X.stack s H ⟨us,[]⟩ us vs Q (E σ) hr I.env0 b1 r h) fun r s' hq=>?_)
 cases r with
 | error e=>exact hx pins σ H s e s' I hq
 | ok fl=>
  cases fl with
  | ret u=>exact I.after hq
  | next=>exact bU hq
  | brk=>exact bU hq
  | cont=>exact bU hq
theorem MK (D:DfX X.prog X.w X.K X.mg X.base x ps k sp)(hr:qk k X.A)(hg:Gl X x)(hx:yZ (CX1 X.prog X.w) X E)(ha:PA X (e :: es) t)(hdb:(x == ("__debug__":Str))=false:=by decide)
  (he:aW (e :: es) X.env=(false,eval e X.env) :: aW es X.env:=by rfl) (hpl:(cG pos (aW es X.env)).any (·.1)=false:=by rfl):PE X (.Call (.Name x p) (e :: es) [] pos) (KB sp E t):=by
 obtain ⟨f,fd,F,b,kp,m⟩:=D
 intro pins s σ H Q I h
 refine eV (jB I hg m ?_ hdb)
 refine eW (h₀:=X.base) I.ok.mod.kin kp (thn (ha pos pins s σ H _ I h) fun us s1 ⟨vs,H1,I1,r,q⟩=>⟨I1.kIn,?_⟩) he hpl
 exact Yq F hr b hx I1 r q
theorem DX.passX {E0:XK}(D:DX X E0):yZ (CX1 X.prog X.w) X fun _=>E0:=fun pins σ H s e s' I h=>D.pass pins σ H s e s' I h
end
theorem HG {x:Str} (a:At K mg x st)(S:zr N ps (zf st))
  (hb:∀ (kV doc pm:aj) (an:Option aw) (cdv ct:aj) (us:List aj),us.length=ps.length->fA (bY x x (qp st) (zP st) (zf st) .none kV doc pm an cdv ct) ⟨us,[]⟩=pure (ps.zip us))
  (len:∀ vs H Q E,sp vs H Q E->vs.length=ps.length)
  (hbody:∀ (f:aw) (cdv:aj) (A:bj) (outer:List Env) (s:au) (H:Hp) (vs:List V) (Q:VK) (E:XK),qk k (A.deeper (fT x (zf st) s.heap.objs.size f cdv))->sp vs H Q E ->
   ∃ t,(DX (jA (CX1 P w) P w K mg base N x (zf st) f cdv A outer s H E) E->PSs (jA (CX1 P w) P w K mg base N x (zf st) f cdv A outer s H E) (zP st) t)/\t { nx:=fun _ H'=>Q .non H',rt:=Q } (start N vs) H):DfX P w K mg base x ps (k+1) sp:=by
 obtain ⟨f,fd,F,m⟩:=a
 refine ⟨f,fd,?_,F.binds hb,F.kp,m⟩
 obtain ⟨oc,od,kV,doc,pm,an,cdv,ct,osl,rfl,lk,hcd⟩:=F.ex
 refine Wa lk hcd S len fun A outer s H vs Q E hr hsp=>?_
 obtain ⟨t,ht,q⟩:=hbody f cdv A outer s H vs Q E hr hsp
 exact ⟨t,ht ⟨rfl,rfl,rfl,rfl⟩,q⟩
abbrev vC:List aj:=[.type "ValueError",.type "Exception",.type "BaseException",.type "object"]
section
variable {X:Cx}{E:XK}{C:aw}{x:Str}{np cpos pos:Pos}{e:Expr}{es:List Expr}{t:TA}
end
theorem F7 {h:Heap} {d:Option aw}{o:Obj}{vs:Array aj}(e:h.get? a=some o)(hc:o.cls=.ref C)(hd:o.dict=d)(hf:o.data=.fields vs):zM P w H h a (Xa a C d):=
 ⟨⟨o,e,hc,hd,vs,hf⟩,⟨o,e⟩,fun _ _ ⟨o,e,r⟩ k=>⟨o,k o e,r⟩⟩
section
variable {X:Cx}{pins:List (aw × Obj)}{σ:St}{H H':Hp}{s s':au}
theorem Inv.track (I:Inv X pins σ H s){x:aw}{o:HO}(hx:H x=none)(h0:X.s₀.heap.get? x=none)(hl:x ≠ X.env.locals)(hc:∀ y c,X.env.cells.lookup y=some c->c ≠ x)(hp:∀ p ∈ X.pn ++ pins,p.1 ≠ x)(ok:zM X.prog X.w (upd H x o) s.heap x o):Inv X pins σ (upd H x o) s:=by
 refine ⟨I.ok,I.os,I.bare,⟨I.base.keep,I.base.slot,fun b u e n hb=>?_,I.base.there,fun b xs e=>?_,fun b u v e=>?_,fun b ps e=>?_⟩,I.loc,I.cell,?_,fun y c e=>?_,fun p hp'=>?_,fun b u e=>?_,I.len⟩
 ·rw [zg (fun z=>by rw [z,h0] at e;cases e)];exact I.base.free b u e n hb
 ·have:=I.base.tups b xs e;rw [zg (zo this hx)];exact this
 ·have:=I.base.frzs b u v e;rw [zg (zo this hx)];exact this
 ·obtain ⟨m,this⟩:=I.base.tbls b ps e;exact ⟨m,by rw [zg (zo this hx)];exact this⟩
 ·rw [zg (Ne.symm hl)];exact I.free
 ·rw [zg (hc y c e)];exact I.freeC y c e
 ·obtain ⟨e1,e2,e3⟩:=I.pin p hp'
  exact ⟨e1,by rw [zg (hp p hp')];exact e2,e3⟩
 ·by_cases c:b=x
  ·subst c;rw [zj] at e;cases e;exact ok
  ·rw [zg c] at e
   exact (I.hok b u e).stay (fun _ _ _ q=>q) (fun d q=>by rw [zg (zo q hx)];exact q) fun d xs q=>by rw [zg (zo q hx)];exact q
end
noncomputable abbrev Cx.tried (X:Cx)(pins:List (aw × Obj))(xe:aj->au->Prop):Cx:={ X with pn:=X.pn ++ pins,xe:=xe }
noncomputable abbrev Cx.inside (X:Cx)(x:aw):Cx:={ X with A:=X.A.mark (some (.ref x)),calm:=false,xe:=fun _ _=>False }
theorem Cx.Ok.tried (ok:X.Ok)(pins:List (aw × Obj))(xe:aj->au->Prop):(X.tried pins xe).Ok:=
 ⟨ok.mod,ok.kind,ok.glob,ok.blt,ok.above,ok.inj,ok.has,ok.cab,ok.hd,ok.frames,ok.stk,ok.exf,ok.bs,ok.bsz,ok.noex,ok.exfs,ok.funs,ok.frf⟩
variable {xe:aj->au->Prop}
theorem Cx.Ok.untried (ok:(X.tried pins xe).Ok):X.Ok:=
 ⟨ok.mod,ok.kind,ok.glob,ok.blt,ok.above,ok.inj,ok.has,ok.cab,ok.hd,ok.frames,ok.stk,ok.exf,ok.bs,ok.bsz,ok.noex,ok.exfs,ok.funs,ok.frf⟩
theorem Cx.Ok.inside (ok:X.Ok)(x:aw):(X.inside x).Ok:=
 ⟨ok.mod,ok.kind,ok.glob,ok.blt,ok.above,ok.inj,ok.has,ok.cab,(fun z=>nomatch z),ok.frames,ok.stk,ok.exf,ok.bs,ok.bsz,ok.noex,ok.exfs,ok.funs,ok.frf⟩
section
variable {X:Cx}{pins pins':List (aw × Obj)}{σ:St}{H:Hp}{s s':au}{xe:aj->au->Prop}
theorem Inv.tried (I:Inv X pins σ H s)(xe:aj->au->Prop):Inv (X.tried pins xe) [] σ H s:=⟨I.ok.tried pins xe,I.os,I.bare,I.base,I.loc,I.cell,I.free,I.freeC,fun p hp=>I.pin p (by rw [cu] at hp;exact hp),I.hok,I.len⟩
theorem Inv.untried (I:Inv (X.tried pins xe) pins' σ H s):Inv X pins σ H s:=⟨I.ok.untried,I.os,I.bare,I.base,I.loc,I.cell,I.free,I.freeC,fun p hp=>I.pin p (gX _ hp),I.hok,I.len⟩
theorem Inv.inside (I:Inv X pins σ H s)(x:aw):Inv (X.inside x) pins σ H s:=⟨I.ok.inside x,I.os,I.bare,I.base,I.loc,I.cell,I.free,I.freeC,I.pin,I.hok,I.len⟩
theorem Inv.outside {x:aw}(ok:X.Ok)(I:Inv (X.inside x) pins σ H s):Inv X pins σ H s:=⟨ok,I.os,I.bare,I.base,I.loc,I.cell,I.free,I.freeC,I.pin,I.hok,I.len⟩
theorem SP.untried {D:kl}{f:Flow}(h:SP (X.tried pins xe) [] D f s'):SP X pins D f s':=by
 cases f with
 | next=>obtain ⟨σ',H',I,q⟩:=h;exact ⟨σ',H',I.untried,q⟩
 | brk=>obtain ⟨σ',H',I,q⟩:=h;exact ⟨σ',H',I.untried,q⟩
 | cont=>obtain ⟨σ',H',I,q⟩:=h;exact ⟨σ',H',I.untried,q⟩
 | ret u=>obtain ⟨v,σ',H',I,r,q⟩:=h;exact ⟨v,σ',H',I.untried,r,q⟩
theorem Air.here (I:Inv X pins σ H s)(hs:X.stack=X.env :: X.outer)(hf:X.env.frame=some X.env.locals)(hex:X.ex=[]){B:Heap}{a0:aj}{x C:aw}{d:Option aw} (a:xS X.prog X.w X.stack H s B H' s')(fl:fL B X.stack x (.ref C) a0 s'.heap)(hd:∃ o,s'.heap.get? x=some o/\o.dict=d/\(fl2 o=some .none \/ Two d H')) :
  H' x=none/\Inv X pins σ (upd H' x (Xa x C d)) s':=by
 obtain ⟨f1,f2,f3,oe,vs,T,oT,ts,he,⟨hc,_⟩,hdt,_⟩:=fl
 obtain ⟨o',ho',hd',_⟩:=hd
 rw [he] at ho';cases ho'
 have hx:H' x=none:=by
  cases z:H' x with
  | none=>rfl
  | some o=>obtain ⟨u,e⟩:=(a.hok x o z).here;rw [f2] at e;cases e
 have I1:Inv X pins σ H' s':=I.call' (ch:=[]) a.os a.un a.ok a.bare (fun b z=>absurd z (by simp))
 have nB:∀ b o,s.heap.get? b=some o->b ∉ frs X.stack->b ≠ x:=fun b o e hb z=>by
  obtain ⟨o',e1,_⟩:=a.cov b o e hb
  rw [z,f2] at e1;cases e1
 refine ⟨hx,I1.track hx ?_ (fun z=>?_) (fun y c e z=>?_) (fun p hp z=>?_) (F7 he hc hd' hdt)⟩
 ·cases z:X.s₀.heap.get? x with
  | none=>rfl
  | some o=>
   obtain ⟨o1,e1⟩:=I.base.there x o z (by rw [hex];simp)
   by_cases hb:x ∈ frs X.stack
   ·obtain ⟨_,o2,e2,nf⟩:=f3.mem hb
    rw [he] at e2;cases e2
    exact absurd hdt (nf vs)
   ·exact absurd rfl (nB x o1 e1 hb)
 ·obtain ⟨m,⟨o,es,ep,ho,hdd,_⟩,_⟩:=I1.loc
  rw [<- z,he] at ho;cases ho
  rw [hdt] at hdd;cases hdd
 ·obtain ⟨v,o,ho,hdd⟩:=I1.cell y c e
  rw [z,he] at ho;cases ho
  rw [hdt] at hdd;cases hdd
 ·obtain ⟨e1,e2,e3,e4,_⟩:=I.pin p hp
  refine nB p.1 p.2 e1 (fun w=>?_) z
  rcases aE.mp (I.stkSub p.1 w) with q | q
  ·exact e3 q
  ·exact e4 q
end
noncomputable def eh2 (K:ax)(T:aw)(th:TS)(D:kl):St->XK:=fun σ1 c d H1=>∃ C,c=.ref C/\d9 K (.ref C) (.ref T)=some true/\∀ x,H1 x=none->th D σ1 (upd H1 x (Xa x C d))
noncomputable def Dx (K:ax)(T:aw)(tb:(St->XK)->TS)(th:TS):TS:=fun D σ H=>tb (eh2 K T th D) D σ H
def yQ (X:Cx)(H:Hp)(s:au)(B:Heap)(x C:aw)(d:Option aw)(a0:aj)(H':Hp)(s':au):Prop:=
 xS X.prog X.w X.stack H s B H' s'/\fL B X.stack x (.ref C) a0 s'.heap/\∃ o,s'.heap.get? x=some o/\o.dict=d/\(fl2 o=some .none \/ Two d H')
section
variable {X:Cx}{pins:List (aw × Obj)}{σ:St}{H H':Hp}{s s':au}{B:Heap}{x C:aw}{d:Option aw}{a0:aj}
theorem yQ.lands {M:oG}{E:aj->au->Prop}{Q:Unit->au->Prop}(h:yQ X H s B x C d a0 H' s')(k:∀ s2,yQ X H s B x C d a0 H' s2->Q () s2):aK M A (lI (.ref x) none) Q E s':=by
 obtain ⟨a,fl,o,ho,hd,h2f⟩:=h
 refine aO ((xw (.ref x) none).any (lands_againW (E:=E) (Q:=fun _ s2=>∃ h',s2={ s' with heap:=h' }/\fL B X.stack x (.ref C) a0 h'/\s'.heap.UpToSlots h') fl fun h' f1 us=>⟨h',rfl,f1,us⟩)) (fun _ s2 h2=>?_) fun _ _ z=>z
 obtain ⟨⟨h',rfl,f1,us⟩,sd⟩:=h2
 obtain ⟨o',ho',hd',hf'⟩:=sd x o ho
 exact k _ ⟨a.step fl.2.2.1 f1.1 us,f1,o',ho',hd'.trans hd,h2f.imp (fun z=>hf'.trans z) id⟩
theorem yQ.noted {E:aj->au->Prop}{Q:Unit->au->Prop}(ok:X.Ok)(hs:X.stack=X.env :: X.outer)(hf:X.env.frame=some X.env.locals)(h:yQ X H s B x C d a0 H' s')(k:∀ s2,yQ X H s B x C d a0 H' s2->Q () s2) :
  aK (aL X.prog X.w) X.A (gL (.ref x) X.env) (fun _ s2=>aK (aL X.prog X.w) X.A (lI (.ref x) none) Q E s2) E s':=by
 obtain ⟨a,fl,o,ho,hd,h2f⟩:=h
 have fl':=fl
 rw [hs] at fl'
 refine aO ((ZD (.ref x) X.env).any (wpAny_looks_onW (E:=E) (Q:=fun _ s2=>∃ h',s2={ s' with heap:=h' }/\Heap.HeldW B (X.env :: X.outer) x (.ref C) a0 X.env.locals h'/\s'.heap.UpToSlots h') (by rw [<- hs];exact ok.frames) hf fl' fun h' f1 us=>⟨h',rfl,f1,us⟩)) (fun _ s2 h2=>?_) fun _ _ z=>z
 obtain ⟨⟨h',rfl,f1,us⟩,sd⟩:=h2
 obtain ⟨o',ho',hd',hf'⟩:=sd x o ho
 have a2:=a.step fl.2.2.1 f1.1 us
 refine aO ((xw (.ref x) none).any (wpAny_landsW (E:=E) (Q:=fun _ s3=>∃ h'',s3={ s' with heap:=h'' }/\fL B (X.env :: X.outer) x (.ref C) a0 h''/\h'.UpToSlots h'') f1 fun h'' f2 us2=>⟨h'',rfl,f2,us2⟩)) (fun _ s3 h3=>?_) fun _ _ z=>z
 obtain ⟨⟨h'',rfl,f2,us2⟩,sd2⟩:=h3
 obtain ⟨o'',ho'',hd'',hf''⟩:=sd2 x o' ho'
 refine k _ ⟨a2.step (s':={ s' with heap:=h' }) (by rw [hs];exact f1.2.2.1) f2.1 us2,by rw [hs];exact f2,o'',ho'',(hd''.trans hd').trans hd,h2f.imp (fun z=>(hf''.trans hf').trans z) id⟩
variable {body suite:List de}{b₀:de}{n tx:Str}{i:Nat}{T:aw}{np hpos pos:Pos}{tb:(St->XK)->TS}{th:TS}
theorem Fo (hs:X.stack=X.env :: X.outer)(hf:X.env.frame=some X.env.locals)(hex:X.ex=[])(hg:Gl X tx)(hm:X.mg tx=some (.ref T))
  (hb:∀ (pins:List (aw × Obj)) (xe:aj->au->Prop) (Eh:St->XK),yZ (CX1 X.prog X.w) (X.tried pins xe) Eh->PSs (X.tried pins xe) body (tb Eh)) (hh:∀ x,PSs (X.inside x) (b₀ :: suite) th)
  (hdb:(tx == ("__debug__":Str))=false:=by decide):PS X (.Try body [.ExceptHandler (some (.Name tx np)) none (b₀ :: suite) hpos] [] [] pos) (Dx X.K T tb th):=by
 intro pins s σ H D I h
 refine wpAny_Try_except (aO (hb pins (fun e s'=>∃ σ1 H1 s1,Inv X pins σ1 H1 s1/\CX1 X.prog X.w X.stack H1 s1 (eh2 X.K T th D σ1) e s') (eh2 X.K T th D) (fun pins' σ1 H1 s1 e s' I1 c=>⟨σ1,H1,s1,I1.untried,c⟩) [] s σ H D (I.tried _) h) (fun f s1 q=>?_) fun e s1 q=>?_)
 ·have q:=q.untried
  cases f with
  | next=>exact fY q
  | brk=>exact q
  | cont=>exact q
  | ret u=>exact q
 ·obtain ⟨σ1,H1,s1',I1,x,C,d,H',rfl,⟨⟨B,a0,a,fl⟩,hd⟩,C',eC,hx,q⟩:=q
  cases eC
  refine yQ.noted I.ok hs hf ⟨a,fl,hd⟩ fun s3 h3=>?_
  obtain ⟨hx0,I3⟩:=Air.here I1 hs hf hex h3.1 h3.2.1 h3.2.2
  refine wpAny_handleBy_cons (codeAny_handlers_test (jB (I3.inside x) hg hm ?_ hdb)) (by intro z;cases z)
  obtain ⟨oe,vs,he,hc,_⟩:=h3.2.1.first
  have LT:e9 (aL X.prog X.w) s3.heap (typeOf (.ref x)) (.ref C):=hc ▸ (e9.ld he).andThen .now
  refine (PySem.W.exm_one I3.kIn LT hx).here ?_
  refine codeAny_handlers_suite (h3.lands fun s4 h4=>?_)
  obtain ⟨_,I4⟩:=Air.here I1 hs hf hex h4.1 h4.2.1 h4.2.2
  refine aO (hh x pins s4 _ _ _ (I4.inside x) (q x hx0)) (fun f s6 h6=>?_) fun _ _ z=>z.elim
  cases f with
  | next=>obtain ⟨σ',H',J,z⟩:=h6;exact ⟨σ',H',J.outside I.ok,z⟩
  | brk=>obtain ⟨σ',H',J,z⟩:=h6;exact ⟨σ',H',J.outside I.ok,z⟩
  | cont=>obtain ⟨σ',H',J,z⟩:=h6;exact ⟨σ',H',J.outside I.ok,z⟩
  | ret u=>obtain ⟨v,σ',H',J,r,z⟩:=h6;exact ⟨v,σ',H',J.outside I.ok,r,z⟩
end
open PySem.W (Looks InstAt findIn findObj subIn mroIn)
section
variable {prog:aX}{w:bB}{A:bj}{E:aj->au->Prop}{h:Heap}{g:Array GenState}{d:Drawn}{t:Nat}{os:OsState}{K:ax}{x C:aw}{ox:Obj}{od:Option Obj}{name:Str}
theorem F5 {tk : Tok}{R : nu -> au -> Prop}(X : K.In h)(I : InstAt h x ox C od)(hb : nc K (.ref C) (.type "BaseException") = some true)(k : aK (aL prog w) A.in1 (Builtin.«object.__getattribute__» ⟨[.ref x, .str name tk], []⟩)
      (fun fin s'=>match fin with | .done (.ret v)=>R (.ok (.ret v)) s' | _=>False) (fun _ _=>False) ⟨h,g,d,t,os⟩) :
    dR (aL prog w) A (.call (.builtin "BaseException.__getattribute__") ⟨[.ref x,.str name tk],[]⟩) R ⟨h,g,d,t,os⟩:=by
  have L0:=I.type (M:=aL prog w)
  have L1:=PySem.W.looks_subIn (M:=aL prog w) X hb
  have hk:builtinKind "BaseException.__getattribute__"=some .slot:=by decide +kernel
  have hsplit:splitId "BaseException.__getattribute__"=some ("BaseException","__getattribute__"):=by decide +kernel
  have ha:=F.args_bexc_ga (.ref x) (.str name tk)
  refine codeAny_call_builtin F.excAttr_ValueError.ga.plain F.entry_bexc_ga ?_
  simp only [checkBuiltinCall,hk,hsplit]
  have LI:iH (aL prog w) h (isInstance (.ref x) (.type "BaseException")) true:=L0.andThen L1
  refine am (LI.at ?_)
  simp only [lh,nA,if_false]
  have fin:aK (aL prog w) A.in1 (Builtin.«object.__getattribute__» ⟨[.ref x,.str name tk],[]⟩) (fun fin s'=>match fin with | .done f=>R (.ok f) s' | .again c'=>c'.quiet=true/\dR (aL prog w) A c' R s') (fun e s'=>R (.error e) s') ⟨h,g,d,t,os⟩:=
    aO k (fun fin s' z=>by rcases fin with (_ | _ | _ | _) | _ <;> first | exact z | exact z.elim) fun _ _ z=>z.elim
  clear k L0 L1 LI
  repeat (any_goals (first | assumption | wp_step))
theorem L7 {tk:Tok}{fill expr:Bool}{Q:aj->au->Prop}(X:K.In h)(I:InstAt h x ox C od)(hb:nc K (.ref C) (.type "BaseException")=some true)
  (h1:fh K (.ref C) "__getattribute__"=some (some (.builtin "BaseException.__getattribute__"))) (h2:fh K (.ref C) "__getattr__"=some none)
  (k:aK (aL prog w) A.in1 (Builtin.«object.__getattribute__» ⟨[.ref x,.str name tk],[]⟩)
   (fun fin s'=>match fin with | .done (.ret v)=>aK (aL prog w) A (handedOut v) Q E s' | _=>False) (fun _ _=>False) ⟨h,g,d,t,os⟩) :
  aK (aL prog w) A (getAttrBy (.ref x) (.str name tk) fill expr) Q E ⟨h,g,d,t,os⟩:=by
 have L0:=I.type (M:=aL prog w)
 have L1:=fz (M:=aL prog w) X h1
 have L2:=fz (M:=aL prog w) X h2
 have f3:=F.excAttr_ValueError.ga.bind (.ref x)
 have hx0:(expr && onTheHeap (aj.builtin "BaseException.__getattribute__"))=false:=by cases expr <;> rfl
 have hx2:(aj.builtin "BaseException.__getattribute__" == aj.builtin "object.__getattribute__")=false:=by decide +kernel
 have hx1:(onTheHeap (aj.ref C) && aj.builtin "BaseException.__getattribute__" == aj.builtin "object.__getattribute__")=false:=by rw [hx2];rfl
 repeat (any_goals (first | assumption | with_reducible refine iH.at L0 ?_ | with_reducible refine iH.at L1 ?_ | with_reducible refine iH.at L2 ?_ | wp_step))
 exact F5 X I hb k
structure Iq (K:ax)(C:aw):Prop where
 bx:nc K (.ref C) (.type "BaseException")=some true
 ga:fh K (.ref C) "__getattribute__"=some (some (.builtin "BaseException.__getattribute__"))
 gt:fh K (.ref C) "__getattr__"=some none
 cl:fh K (.ref C) "__class__"=some (some (.builtin "object.__class__"))
 gs:gy K (.builtin "object.__class__") "__get__"=some (some (.builtin "getset_descriptor.__get__"))
 tk:mq K (.builtin "object.__class__")=some true
 mo:oJ K C (.type "object")=some true
 is:(ng K C).isSome=true
end
inductive D0 (X:Cx):List Expr->List aj->Prop
 | nil:D0 X [] []
 | own {x:Str} {p:Pos} {C:aw} {es:List Expr} {cs:List aj}:Gl X x->X.mg x=some (.ref C)->(x == ("__debug__":Str))=false->D0 X es cs->D0 X (.Name x p :: es) (.ref C :: cs)
 | blt {x:Str} {p:Pos} {T:String} {es:List Expr} {cs:List aj}:Gl X x->X.mg x=none->bK x=some (.type T)->x ≠ "__name__"->(x == ("__debug__":Str))=false->D0 X es cs->D0 X (.Name x p :: es) (.type T :: cs)
section
variable {X:Cx}{e c:Expr}{es:List Expr}{cs:List aj}{t:TE}{p pos tp:Pos}{kk:Nat}
end
abbrev AXK:=aw->List (Str × V)->MH->Prop
abbrev yq:=List AV->MH->AK->AXK->Prop
def JM (H:Hp)(O:Own)(M:MH)(d:Option aw)(fs:List (Str × V)):Prop:=d=none/\fs=[] \/ ∃ dx,d=some dx/\H dx=some (.xd fs)/\O dx/\M dx=none
theorem JM.ext {d:Option aw}{fs:List (Str × V)}(k:Ext H O M H' O' M')(x:JM H O M d fs):JM H' O' M' d fs:=by
 rcases x with x | ⟨dx,e,h1,h2,h3⟩
 ·exact .inl x
 ·obtain ⟨x1,x2,x3⟩:=k.prv dx h2 h3
  exact .inr ⟨dx,e,x1.trans h1,x2,x3⟩
noncomputable def jU (a:yq):Sp:=fun vs H Q E=>∃ xs M O Q' E',Wf H O M/\zi H O M vs xs/\a xs M Q' E'/\(∀ x M' v H' O',Q' x M'->Ext H O M H' O' M'->Wf H' O' M'->zq H' O' M' v x->Q v H') /\
 ∀ C fs M' H' O' d,E' C fs M'->Ext H O M H' O' M'->Wf H' O' M'->JM H' O' M' d fs->E (.ref C) d H'
noncomputable def cE (H0:Hp)(O0:Own)(M0:MH)(E':AXK):XK:=fun c d H'=>∃ C fs M' O',c=.ref C/\E' C fs M'/\Ext H0 O0 M0 H' O' M'/\Wf H' O' M'/\JM H' O' M' d fs
structure EXs (H0:Hp)(O0:Own)(M0:MH)(E:St->XK)(EA:ASt->AXK):Prop where
 go:∀ σ ρ C fs M' H' O' d,EA ρ C fs M'->Ext H0 O0 M0 H' O' M'->Wf H' O' M'->Er H' O' M' σ ρ->JM H' O' M' d fs->E σ (.ref C) d H'
theorem Xq {E':AXK}:EXs H0 O0 M0 (fun _=>cE H0 O0 M0 E') (fun _=>E'):=⟨fun _ _ C fs M' H' O' d q k w _ x=>⟨C,fs,M',O',rfl,q,k,w,x⟩⟩
structure kj (HX:Hp)(OX:Own)(MX:MH)(t:TS)(a:AS):Prop where
 go:∀ {H0:Hp} {O0:Own} {M0:MH} {D:kl} {D':xY} {σ:St} {H:Hp} {O:Own} {ρ:ASt} {M:MH},Ext HX OX MX H0 O0 M0->Wf H0 O0 M0->Wf H O M->Er H O M σ ρ->Ext H0 O0 M0 H O M->a M0 D' ρ M->ED H0 O0 M0 D D'->t D σ H
section
variable {HX:Hp}{OX:Own}{MX:MH}{t u:TS}{a b:AS}{E:St->XK}{EA:ASt->AXK}{sp:yq}{ta:TA}{aa:AA}
theorem FK (h:jg t a):kj HX OX MX t a:=⟨fun _ w0 w e x q E=>h.go w0 w e x q E⟩
theorem Dc (h1:kj HX OX MX t a)(h2:kj HX OX MX u b):kj HX OX MX (BV t u) (yp a b):=
 ⟨fun kx w0 w e x q E=>h1.go kx w0 w e x q ⟨fun σ H O ρ M w e x q=>h2.go kx w0 w e x q E,E.rt,E.bk,E.ct⟩⟩
theorem Aw (hc:kC c ac)(h1:kj HX OX MX t a)(h2:kj HX OX MX u b):kj HX OX MX (F9 c t u) (Ia ac a b):=
 ⟨fun kx w0 w e x q E=>hc.go w e q fun k M1 H1 O1 q1 k1 w1=>by
  cases k with
  | true=>exact h1.go kx w0 w1 (e.ext k1) (x.trans k1) q1 E
  | false=>exact h2.go kx w0 w1 (e.ext k1) (x.trans k1) q1 E⟩
theorem Bd (hi:y6 wi ai)(hg:xM g ag)(hb:kj HX OX MX t a):kj HX OX MX (Z4 wi g t) (Ft ai ag a):=⟨fun {H0 O0 M0 D D' σ H O ρ M} kx w0 w e x q E=>by
 rw [Z8]
 refine hi.go w e q fun l G M1 J H1 O1 q1 k1 w1 hj=>?_
 have E1:=E.tr (x.trans k1)
 have kx1:=kx.trans (x.trans k1)
 obtain ⟨Pv,p0,ps,pd⟩:=q1
 refine ⟨fun i m σ H=>m=l.length - i/\i<=l.length/\∃ O ρ M,Wf H O M/\Er H O M σ ρ/\Ext H1 O1 M1 H O M/\Pv i ρ M,⟨l.length,by simp,ci _,O1,ρ,M1,w1,e.ext k1,.refl,p0⟩,?_⟩
 rintro i m σ H ⟨rfl,hi,O,ρ,M,w,e,x,hf⟩
 by_cases hil:i<l.length
 ·have hy:l[i]?=some l[i]:=af hil
  obtain ⟨hG,q2⟩:=ps i l[i] ρ M hy hf
  obtain ⟨j1,j2⟩:=(hj H O M x.fix x.mst w hG i).2 l[i] hy
  refine .inr ⟨j1,fun σ' H'=>∃ O ρ M,Wf H' O M/\Er H' O M σ' ρ/\Ext H1 O1 M1 H' O M/\Pv (i+1) ρ M,fun σ' H' z=>⟨l.length - (i+1),by omega,rfl,hil,z⟩,fun v H' hv=>?_⟩
  obtain ⟨k2,w2,r2⟩:=j2 v H' hv
  refine hg.go w2 (e.ext k2) r2 q2 fun σ3 H3 O3 ρ3 M3 q3 k3 w3 e3=>?_
  exact hb.go kx1 w1 w3 e3 ((x.trans k2).trans k3) q3 ⟨fun σ H O ρ M w e x q=>⟨O,ρ,M,w,e,x,q⟩,E1.rt,E1.nx,fun σ H O ρ M w e x q=>⟨O,ρ,M,w,e,x,q⟩⟩
 ·have e0:i=l.length:=by omega
  subst e0
  obtain ⟨hG,q2⟩:=pd ρ M hf
  exact .inl ⟨(hj H O M x.fix x.mst w hG l.length).1 rfl,E1.nx _ _ _ _ _ w e x q2⟩⟩
noncomputable def KC (sp:yq)(EA:ASt->AXK)(b:AA):AE:=fun ρ M Q=>b ρ M fun xs M1=>sp xs M1 Q (EA ρ)
theorem Bl (hE:EXs HX OX MX E EA)(hu:jq ta aa) {Q':AK}(kx:Ext HX OX MX H O M)(w:Wf H O M)(e:Er H O M σ ρ)(q:KC sp EA aa ρ M Q')(k:∀ x M' v H' O',Q' x M'->Ext H O M H' O' M'->Wf H' O' M'->zq H' O' M' v x->Q v H'):KB (jU sp) E ta σ H Q:=
 hu.go w e q fun xs M1 vs H1 O1 q1 k1 w1 r1=>⟨xs,M1,O1,Q',EA ρ,w1,r1,q1,fun x M2 v H2 O2 q2 k2 w2 r2=>k x M2 v H2 O2 q2 (k1.trans k2) w2 r2,fun C fs M' H' O' d q2 k2 w2 xd=>hE.go σ ρ C fs M' H' O' d q2 ((kx.trans k1).trans k2) w2 (e.ext (k1.trans k2)) xd⟩
theorem BD (hE:EXs HX OX MX E EA)(hu:jq ta aa)(hg:xM g ag):kj HX OX MX (ZE (KB (jU sp) E ta) g) (Xi (KC sp EA aa) ag):=
 ⟨fun kx _ w e x q D=>Bl hE hu (kx.trans x) w e q fun y M1 v H1 O1 q1 k1 w1 r1=>hg.go w1 (e.ext k1) r1 q1 fun σ2 H2 O2 ρ2 M2 q2 k2 w2 e2=>D.nx _ _ _ _ _ w2 e2 ((x.trans k1).trans k2) q2⟩
end
noncomputable def GW (K:ax)(T:aw)(ab:(ASt->AXK)->AS)(ah:AS):AS:=fun B D ρ M=>
 ab (fun ρ1 C fs M1=>d9 K (.ref C) (.ref T)=some true/\∀ x,M1 x=none->ah B D ρ1 (mup M1 x (.exc C fs))) B D ρ M
theorem EV (w:Wf H O M){x C:aw}{d:Option aw}{fs:List (Str × V)}(hx:H x=none)(xd:JM H O M d fs) :
  Wf (upd H x (Xa x C d)) (xW O x) (mup M x (.exc C fs))/\Ext H O M (upd H x (Xa x C d)) (xW O x) (mup M x (.exc C fs)):=by
 have k:=vp w hx (Xa x C d) (.exc C fs)
 exact ⟨Kj w hx (fun _ z=>nomatch z) ⟨d,zj,xd.ext k⟩,k⟩
section
variable {K:ax}{i:Nat}{T:aw}{tb:(St->XK)->TS}{th:TS}{ab:(ASt->AXK)->AS}{ah:AS}
theorem AU (hb:∀ (H0:Hp) (O0:Own) (M0:MH) (E:St->XK) (EA:ASt->AXK),EXs H0 O0 M0 E EA->kj H0 O0 M0 (tb E) (ab EA))(hh:jg th ah):jg (Dx K T tb th) (GW K T ab ah):=
 ⟨fun {H0 O0 M0 D D' σ H O ρ M} w0 w e x q E=>(hb H0 O0 M0 _ _ ⟨fun σ1 ρ1 C fs M1 H1 O1 d q1 k1 w1 e1 xd=>⟨C,rfl,q1.1,fun y hy=>by
  obtain ⟨w2,k2⟩:=EV (C:=C) w1 hy xd
  exact hh.go w0 w2 (e1.ext k2) (k1.trans k2) (q1.2 y (w1.fresh hy).2) E⟩⟩).go .refl w0 w e x q E⟩
end
noncomputable def exA (M0:MH)(E:AXK):AXK:=fun C fs M'=>∃ M'',y4 M0 M' (.d .non) (.d .non) M''/\E C fs M''
theorem PSs.wish' {st:List de}{t:TS}(k:∀ e s,xe e s->X.xe e s)(h:PSs (X.wish xe) st t):PSs X st t:=fun pins s σ H D I hw=>
 aO (h pins s σ H D (I.wish _) hw) (fun _ _ q=>q.unwish) fun e s z=>k e s z
theorem Nb {P : aX}{w : bB}{K : ax}{mg : Str -> Option aj}{base : Heap}{x : Str}{st : de}{N ps : List Str}{k : Nat}{a : yq}(at_ : At K mg x st)(S : zr N ps (zf st))
    (hb:∀ (kV doc pm:aj) (an:Option aw) (cdv ct:aj) (us:List aj),us.length=ps.length->fA (bY x x (qp st) (zP st) (zf st) .none kV doc pm an cdv ct) ⟨us,[]⟩=pure (ps.zip us))
    (len:∀ xs M Q E,a xs M Q E->xs.length=ps.length)
    (hbody:∀ (f:aw) (cdv:aj) (A:bj) (outer:List Env) (s:au) (H:Hp) (HX:Hp) (OX:Own) (MX:MH) (E':AXK),qk k (A.deeper (fT x (zf st) s.heap.objs.size f cdv)) ->
      DX (jA (CX1 P w) P w K mg base N x (zf st) f cdv A outer s H (cE HX OX MX E')) (cE HX OX MX E') ->
      ∃ t,PSs (jA (CX1 P w) P w K mg base N x (zf st) f cdv A outer s H (cE HX OX MX E')) (zP st) t/\∃ b,kj HX OX MX t b/\∀ xs Q E0,E'=exA MX E0->a xs MX Q E0->b MX { nx:=fun _ M'=>rtA MX Q (.d .non) M',rt:=rtA MX Q } (zR N xs) MX):DfX P w K mg base x ps (k+1) (jU a):=by
  refine HG at_ S hb (fun vs H Q E h=>?_) (fun f cdv A outer s H vs Q E hr h=>?_)
  · obtain ⟨xs,M,O,Q',E',w,r,q,_⟩:=h
    rw [r.1];exact len xs M Q' E' q
  · obtain ⟨xs,M,O,Q',E',w0,r,q,kk,ke⟩:=h
    obtain ⟨t,ht,b,hb,hq⟩:=hbody f cdv A outer s H H O M (exA M E') hr ⟨rfl,rfl,rfl,rfl⟩
    refine ⟨t,fun D=>?_,?_⟩
    · have ce : ∀ c d H', cE H O M (exA M E') c d H' -> E c d H' := fun c d H' ⟨C, fs, M', O', e1, ⟨M'', f, q2⟩, k1, w1, xd⟩ => by
        subst e1
        obtain ⟨O'',w2,k2,-,ko⟩:=ZZ w0 w1 k1 (show zq H' O' M' .non (.d .non) from .non) f
        refine ke C fs M'' H' O'' d q2 k2 w2 ?_
        rcases xd with xd | ⟨dx,e1,h1,h2,h3⟩
        · exact .inl xd
        · exact .inr ⟨dx,e1,h1,(ko dx h2 h3).1,(ko dx h2 h3).2⟩
      refine PSs.wish' (fun e s' z=>?_) ht
      exact aO z (fun _ s'' y=>y.imp ce) fun e' s'' y=>y.imp ce
    · refine hb.go .refl w0 w0 (yc r N) .refl (hq xs Q' E' rfl q) ⟨fun σ H' O' ρ M' w' e' x' q'=>?_,fun v y H' O' M' w' x' r' q'=>?_,fun _ _ _ _ _ _ _ _ z=>z.elim,fun _ _ _ _ _ _ _ _ z=>z.elim⟩
      · obtain ⟨y',M'',f,q2⟩:=q'
        obtain ⟨O'',w2,k2,r2⟩:=kK w0 w' x' (show zq H' O' M' .non (.d .non) from .non) f
        exact kk _ _ _ _ _ q2 k2 w2 r2
      · obtain ⟨y',M'',f,q2⟩:=q'
        obtain ⟨O'',w2,k2,r2⟩:=kK w0 w' x' r' f
        exact kk _ _ _ _ _ q2 k2 w2 r2
theorem DX.po (D:DX X E):dZ (aL X.prog X.w) X.A X.env X.xe:=by rw [D.xe];exact dZ.leaving
section
variable {X:Cx}{K:ax}{body suite:List de}{b₀:de}{n tx:Str}{i:Nat}{T:aw}{np hpos pos tp p:Pos}{tb:(St->XK)->TS}{th:TS}{e c:Expr}{es:List Expr}{cs:List aj}{t:TE}{kk:Nat}
theorem Dr (hk:X.K=K)(hs:X.stack=X.env :: X.outer)(hf:X.env.frame=some X.env.locals)(hex:X.ex=[])(hg:Gl X tx)(hm:X.mg tx=some (.ref T))
  (hb:∀ (pins:List (aw × Obj)) (xe:aj->au->Prop) (Eh:St->XK),yZ (CX1 X.prog X.w) (X.tried pins xe) Eh->PSs (X.tried pins xe) body (tb Eh)) (hh:∀ x,PSs (X.inside x) (b₀ :: suite) th)
  (hdb:(tx == ("__debug__":Str))=false:=by decide):PS X (.Try body [.ExceptHandler (some (.Name tx np)) none (b₀ :: suite) hpos] [] [] pos) (Dx K T tb th):=hk ▸ Fo hs hf hex hg hm hb hh hdb
end
theorem exX {HX:Hp}{OX:Own}{MX:MH}{t:TS} {b:AS}(h:kj HX OX MX t b)(k:q b):∃ b,kj HX OX MX t b/\q b:=⟨b,h,k⟩
section
variable {X:Cx}
end
end L2
namespace PySem
open Sem (wp)
section
variable {prog:aX}{w:bB}{A:bj}{E:aj->au->Prop}{h:Heap}{g:Array GenState}{d:Drawn}{t:Nat}{os:OsState}
variable {nm q:Str}{C N:aw}{bs bm bmB:List aj}{hdct:Bool}{sn:List Str}{sub:List aj}{ab:Bool}{col:Option Bool}{dd:Option aw}{k0 k1 k2 k3 k5:Option aj}{B Bn newId nid initId inN:String}{bmN:List aj}
variable {mN:Str->Option aj} {fI:aw} {oI:Obj}
theorem Qo (Fn:eY Bn newId inN bmN)(hBn:bmB.contains (.type Bn)=true)(F:eY B nid initId bmB)(T:oM h bmB bm) {qi:List aj} {Q:Fin->au->Prop}
  (hC:h.get? C=some (eQ nm q C N bs bm hdct sn sub ab col dd k0 k1 k2 k3 k5 newId)) (hn:h.Ns N mN) (hi:mN "__init__"=some (.ref fI)) (hfI:h.get? fI=some oI) (hfc:oI.cls=.type "function")
  (hq:∀ h' e,iI h h' e (.ref C) qi->aK (aL prog w) A (call (.ref fI) (.ref e :: qi)) (fun r s'=>r=.none/\Q (.done (.ret (.ref e))) s') E ⟨h',g,d,t,os⟩) (hrest:qi.length<=aM:=by size_fits) :
  aK (aL prog w) A (Builtin.«type.__call__» ⟨.ref C :: qi,[]⟩) Q E ⟨h,g,d,t,os⟩:=by
 repeat (first | with_reducible refine dN hC ?_ | with_reducible refine wpAny_madeBy_exc hC ?_ | wp_step)
 refine codeAny_call_builtin_code (iG _ Fn.quiet) (wpAny_check_new_subU Fn hBn T hC ?_)
 refine codeAny_exc_new_subU Fn hBn F T hC ?_ hrest
 show aK _ _ _ _ _ _
 have hC₁:=ay { cls:=.ref C,data:=.fields #[.ref h.objs.size,.none,.none,.none,.bool false,.none] }
  (ay { cls:=.type "tuple",data:=.seq qi.toArray } hC)
 have hfI₁:=ay { cls:=.ref C,data:=.fields #[.ref h.objs.size,.none,.none,.none,.bool false,.none] }
  (ay { cls:=.type "tuple",data:=.seq qi.toArray } hfI)
 have hn₁:((h.push { cls:=.type "tuple",data:=.seq qi.toArray }).push { cls:=.ref C,data:=.fields #[.ref h.objs.size,.none,.none,.none,.bool false,.none] }).Ns N mN:=
  let ⟨o,es,ep,e,r⟩:=hn;⟨o,es,ep,ay _ (ay _ e),r⟩
 have hget:((h.push { cls:=.type "tuple",data:=.seq qi.toArray }).push
   { cls:=.ref C,data:=.fields #[.ref h.objs.size,.none,.none,.none,.bool false,.none] }).get? (h.objs.size+1)=some
   { cls:=.ref C,data:=.fields #[.ref h.objs.size,.none,.none,.none,.bool false,.none] }:=by heap_get
 have hcC:(aj.ref C :: bm).contains (.ref C)=true:=by simp
 have T₁:=T.keeps (h':=(h.push { cls:=.type "tuple",data:=.seq qi.toArray }).push { cls:=.ref C,data:=.fields #[.ref h.objs.size,.none,.none,.none,.bool false,.none] })
  fun b o e=>ay _ (ay _ e)
 unfold isInstance
 repeat (first | with_reducible refine dN hget ?_ | (with_reducible refine h7 hC₁ ?_;rw [hcC]) | wp_step)
 show aK _ _ (typeLookup (.ref C) _) _ _ _
 refine wpAny_typeLookup_tail hC₁ hn₁ T₁ F.mroIs F.init.lookup ?_
 rw [hi]
 refine cq (am ?_)
 unfold bindSpecial
 refine am (ib (T:="function") ⟨_,hfI₁,hfc⟩ ?_)
 rw [if_pos (by decide)]
 refine aA (am (aO (hq _ (h.objs.size+1) ⟨fun b o hb=>ay _ (ay _ hb),fu (gu _),h.objs.size,hget,fu (aJ _),?_⟩) (fun r s' hr=>?_) fun _ _ x=>x))
 ·exact ay _ (Heap.get?_push_at rfl rfl)
 ·obtain ⟨rfl,hQ⟩:=hr
  wp_walk
  exact hQ
theorem YK (Fn:eY Bn newId inN bmN)(hBn:bmB.contains (.type Bn)=true)(F:eY B nid initId bmB)(T:oM h bmB bm) {qi:List aj} {Q:aj->au->Prop}
  (hC:h.get? C=some (eQ nm q C N bs bm hdct sn sub ab col dd k0 k1 k2 k3 k5 newId)) (hn:h.Ns N mN) (hi:mN "__init__"=some (.ref fI)) (hfI:h.get? fI=some oI) (hfc:oI.cls=.type "function")
  (hq:∀ h' e,iI h h' e (.ref C) qi->aK (aL prog w) (A.under (.builtin "type.__call__" ⟨.ref C :: qi,[]⟩)) (call (.ref fI) (.ref e :: qi)) (fun r s'=>r=.none/\Q (.ref e) s') E ⟨h',g,d,t,os⟩) (hrest:qi.length<=aM:=by size_fits) :
  aK (aL prog w) A (call (.ref C) qi) Q E ⟨h,g,d,t,os⟩:=by
 have f1:=tc_lookup
 have f2:=tc_bind (.ref C)
 have hT:(⟨h,g,d,t,os⟩:au).TypeIs (.ref C) "type":=⟨_,hC,rfl⟩
 refine iA (codeAny_of_tree ?_)
 show aK _ _ (callAny (.ref C) _) _ _ _
 repeat (any_goals (first | assumption | with_reducible refine dN hC ?_ | wp_step))
 refine ⟨rfl,?_⟩
 refine codeAny_call_builtin_at (iG _ (by decide +kernel)) entry_typeCall (wpAny_check_type_call_sub hC (Qo (hrest:=hrest) Fn hBn F T hC hn hi hfI hfc fun h' e hm=>?_))
 exact hq h' e hm
end
section
variable {M:oG}{A:bj}{E:aj->au->Prop}{env:Env}
variable {nm q:Str}{C N:aw}{bs bm:List aj}{hdct:Bool}{sn:List Str}{sub:List aj}{ab:Bool}{col:Option Bool}{dd:Option aw}{k0 k1 k2 k3 k5:Option aj}{newId:String}
theorem ZF {s:au}{x:Sem aj}{Q:Flow->au->Prop}(hbase:bm.contains (.type "BaseException")=true)(hh:A.handled=none)
  (h:aK M A x (fun v s₁=>∃ e t dx,v=.ref e/\s₁.heap.get? C=some (eQ nm q C N bs bm hdct sn sub ab col dd k0 k1 k2 k3 k5 newId) /\
   s₁.heap.get? e=some { cls:=.ref C,data:=.fields #[.ref t,.none,.none,.none,.bool false,.none],dict:=dx }/\E (.ref e) s₁) E s) :
  aK M A (oA env (some x) none) Q E s:=by
 have hcB:(aj.ref C :: bm).contains (.type "BaseException")=true:=by rw [nF,hbase,Bool.or_true]
 unfold oA
 refine am (aO h (fun v s₁ h₁=>?_) fun _ _ x=>x)
 obtain ⟨e,t,dx,rfl,hC,he,hE⟩:=h₁
 obtain ⟨hp,g,d,tk,os⟩:=s₁
 repeat (first | with_reducible refine dN he ?_ | with_reducible refine dN hC ?_ | (with_reducible refine h7 hC ?_;rw [hcB]) | wp_step)
 exact wpAny_raiseNew_none hh hE
end
section
variable {prog:aX}{w:bB}{A:bj}{E:aj->au->Prop}{s:au}{env:Env}
variable {nm q:Str}{C N:aw}{bs bm bmB:List aj}{hdct:Bool}{sn:List Str}{sub:List aj}{ab:Bool}{col:Option Bool}{dd:Option aw}{k0 k1 k2 k3 k5:Option aj}{B Bn newId nid initId inN:String}{bmN:List aj}
theorem BA (Fn:eY Bn newId inN bmN)(hBn:bmB.contains (.type Bn)=true)(F:eY B nid initId bmB){mN:Str->Option aj}{x:Str}{np cpos pos:Pos}{args:List Expr}{Q:Flow->au->Prop}{fI:aw}{oI:Obj}
  (hbase:bm.contains (.type "BaseException")=true) (hh:A.handled=none) (hplain:(cG cpos (aW args env)).any (·.1)=false) (hi:mN "__init__"=some (.ref fI)) (hfc:oI.cls=.type "function")
  (h:aK (aL prog w) A (eval (.Name x np) env) (fun f s₁=>f=.ref C/\aK (aL prog w) A (evalArgs (.ref C) true (cG cpos (aW args env)) [])
   (fun a s₂=>a.kw=[]/\a.pos.length<=aM/\s₂.heap.get? C=some (eQ nm q C N bs bm hdct sn sub ab col dd k0 k1 k2 k3 k5 newId)/\s₂.heap.Ns N mN/\oM s₂.heap bmB bm/\s₂.heap.get? fI=some oI /\
    ∀ h' e,iI s₂.heap h' e (.ref C) a.pos->aK (aL prog w) (A.under (.builtin "type.__call__" ⟨.ref C :: a.pos,[]⟩)) (call (.ref fI) (.ref e :: a.pos)) (fun r s'=>r=.none /\
     s'.heap.get? C=some (eQ nm q C N bs bm hdct sn sub ab col dd k0 k1 k2 k3 k5 newId)/\(∃ t dx,s'.heap.get? e=some { cls:=.ref C,data:=.fields #[.ref t,.none,.none,.none,.bool false,.none],dict:=dx })/\E (.ref e) s') E { s₂ with heap:=h' }) E s₁) E s) :
  aK (aL prog w) A (exec (.Raise (some (.Call (.Name x np) args [] cpos)) none pos) env) Q E s:=by
 rw [arm_exec_Raise]
 refine am (cz (ZF (C:=C) (nm:=nm) (q:=q) (N:=N) (bs:=bs) (bm:=bm) (hdct:=hdct) (sn:=sn) (sub:=sub) (ab:=ab) (col:=col) (dd:=dd) (k0:=k0) (k1:=k1) (k2:=k2) (k3:=k3) (k5:=k5) (newId:=newId) hbase hh (am (aO (wpAny_Call_ofName (aO h (fun f s₁ h₁=>?_) fun _ _ x=>x)) (fun v s₃ h₃=>am (cz (aA h₃))) fun _ _ x=>x))))
 obtain ⟨rfl,h₁⟩:=h₁
 unfold gY
 refine am (cq (aO h₁ (fun a s₂ h₂=>am (cz ?_)) fun _ _ x=>x))
 obtain ⟨apos,akw⟩:=a
 obtain ⟨hkw,hlen,hC,hn,T,hf,h₂⟩:=h₂
 obtain rfl:akw=[]:=hkw
 obtain ⟨hp,g,d,tk,os⟩:=s₂
 simp only [hplain]
 refine am (wpAny_keeperOf_exc hC ?_)
 refine am (YK (hrest:=hlen) Fn hBn F T hC hn hi hf hfc fun h' e hm=>aO (h₂ h' e hm) (fun r s' hr=>⟨hr.1,am (cq (wpAny_point (aA ?_)))⟩) fun _ _ x=>x)
 obtain ⟨_,hC',⟨t,dx,he⟩,hE⟩:=hr
 exact ⟨e,t,dx,rfl,hC',he,hE⟩
end
end PySem
namespace L2
open PySem PySem.Spec PyProof.Rows
open PySem.W (Looks InstAt findIn findObj subIn mroIn clsIn takerIn hasDictIn)
noncomputable def AN:aj->Bool
 | .ref _=>true
 | _=>false
noncomputable def WF (l:List aj):Bool:=l.dropWhile AN == vC
theorem BU {a:aj}(h:AN a=true):∃ c,a=.ref c:=by cases a <;> first | exact ⟨_,rfl⟩ | cases h
theorem yR (self:aj):∀ l:List aj,refuseLoop self "__setattr__" l=refuseLoop self "__setattr__" (l.dropWhile AN)
 | []=>rfl
 | a :: r=>by
  by_cases h:AN a=true
  ·obtain ⟨c,rfl⟩:=BU h
   rw [refuseLoop_ref,List.dropWhile_cons_of_pos h];exact yR self r
  ·rw [List.dropWhile_cons_of_neg h]
theorem Y0 (self:aj){l:List aj}(h:WF l=true):refuseLoop self "__setattr__" l=pure ():=by
 rw [yR,show l.dropWhile AN=vC from mS h];exact PySem.F.store_ValueError.passes self
structure yb (K:ax)(C:aw)(name:Str):Prop where
 s:fh K (.ref C) "__setattr__"=some (some (.builtin "object.__setattr__"))
 t:mV K C name=some none
 hd:fc K C=true
 mo:oJ K C (.type "object")=some true
 ve:(clsIn K C).any (fun cd=>WF cd.mro)=true
section
variable {prog:aX}{w:bB}{A:bj}{E:aj->au->Prop}{s:au}{K:ax}{x C:aw}{ox:Obj}{od:Option Obj}{name:Str}{v:aj}
theorem Yo {tk:Tok}{R:nu->au->Prop}(X:K.In s.heap)(I:InstAt s.heap x ox C od)(S:yb K C name)
  (h:∀ b,aK (aL prog w) A.in1 (Builtin.ObjectAttr.storeInOwnDict (.ref x) (.ref C) (.str name tk) name v b)
   (fun fin s'=>match fin with | .done f=>R (.ok f) s' | .again c'=>c'.quiet=true/\dR (aL prog w) A c' R s') (fun e s'=>R (.error e) s') s) :
  dR (aL prog w) A (.call (.builtin "object.__setattr__") ⟨[.ref x,.str name tk,v],[]⟩) R s:=by
 have SF:=PySem.F.store_object
 obtain ⟨cd,hc,ho⟩:=gJ S.ve
 have sub:iH (aL prog w) s.heap (isInstance (.ref x) (.type "object")) true:=I.type.andThen (PySem.W.looks_mroIn X S.mo)
 refine codeAny_call_builtin SF.slot.plain SF.entry (@PySem.W.check_slot (aL prog w) _ _ s "object.__setattr__" "object" "__setattr__" (.ref x) [.str name tk,v] [] _ SF.kind SF.split sub (SF.args (.ref x) (.str name tk) v) ?_)
 obtain ⟨attr,ha,hr⟩:=Option.bind_eq_some_iff.mp S.t
 have hm:iH (aL prog w) s.heap (mroOf (.ref C)) cd.mro:=(fS X hc).andThen .now
 have L3:iH (aL prog w) s.heap (Builtin.ObjectAttr.storeTaker? attr) none:=by
  cases attr with
  | none=>exact .now
  | some a=>
   obtain ⟨b,hb,hb2⟩:=bM.mp hr
   cases b with
   | true=>cases hb2
   | false=>exact (PySem.W.looks_takesIn X hb).andThen .now
 rw [PySem.W.osa_eq,refuse_eq]
 refine am (am (I.type.here (am (hm.here ?_))))
 rw [Y0 _ ho]
 refine aA (am (I.type.here (am ((fz X ha).here (am (L3.here ?_))))))
 exact h _
variable {vs:Array aj} {Q:Unit->au->Prop}
theorem DK (X:K.In s.heap)(hx:s.heap.get? x=some ox)(hc:ox.cls=.ref C)(hf:ox.data=.fields vs)(hd:ox.dict=none)(S:yb K C name)
  (h:∀ h' tk,h'.Ns1 s.heap.objs.size (fun y=>if y=name then some v else none)->h'.get? x=some { ox with dict:=some s.heap.objs.size }->(∀ b o,b ≠ x->s.heap.get? b=some o->h'.get? b=some o)->Q () { s with heap:=h',toks:=tk }) :
  aK (aL prog w) A (setAttr (.ref x) name v) Q E s:=by
 have I:InstAt s.heap x ox C none:=⟨hx,hc,by unfold mR;rw [hf],by rw [hd];trivial⟩
 obtain ⟨cd,hcd,hdd⟩:=gJ S.hd
 obtain ⟨oc,odt,oda,osl⟩:=ox
 dsimp only at hc hf hd
 subst hc hf hd
 have hx₁:(s.heap.push { cls:=.type "dict",data:=.dict #[] }).get? x=some ⟨.ref C,none,.fields vs,osl⟩:=ay _ hx
 have hxs:x ≠ s.heap.objs.size:=br (aH hx)
 refine iW X I S.s (Yo (s:={ s with toks:=s.toks+1 }) (od:=none) X I S fun b=>?_)
 refine am (aA (am (am (mG hx (am (e9.here (s:={ s with toks:=s.toks+1 }) (fS X hcd) ?_))))))
 rw [hdd]
 have htd:typeHasDict (aj.ref C)=true:=by simp [typeHasDict]
 dsimp only
 rw [if_neg (by decide),htd,if_neg (by decide)]
 refine am (wpAny_alloc' ?_)
 refine am (wpAny_update' hx₁ ?_)
 refine aA ?_
 have hgd:((s.heap.push { cls:=.type "dict",data:=.dict #[] }).update x fun o=>{ cls:=o.cls,dict:=some s.heap.objs.size,data:=o.data,slots:=o.slots }).get? s.heap.objs.size
  =some { cls:=.type "dict",data:=.dict #[] }:=
  (Heap.get?_update_ne _ _ _ _ hxs.symm).trans (Heap.get?_push_at rfl rfl)
 have hnd:((s.heap.push { cls:=.type "dict",data:=.dict #[] }).update x fun o=>{ cls:=o.cls,dict:=some s.heap.objs.size,data:=o.data,slots:=o.slots }).Ns s.heap.objs.size (fun _=>none):=
  ⟨_,#[],_,hgd,rfl,fun e he=>absurd he (by simp),fun _=>rfl⟩
 show aK _ _ (gS s.heap.objs.size (.str name s.toks) name v) _ _ _
 unfold gS Builtin.ObjectAttr.newKeyGuard
 refine am (aA (am (nK (Heap.Ns1.of_empty hnd) fun h' hn' hs=>?_)))
 obtain ⟨oD,esD,epD,hoD,hdD,hcD⟩:=hn'.count (Within.cons name v Within.nil)
 refine am (lv hoD (by rw [hdD];exact lA (aZ hcD (by rw [aN,bV,cC];omega))) ?_)
 refine aA (h h' _ hn' ?_ fun b o hb e=>?_)
 ·refine (hs.2 x hxs).trans (cV _ hx₁ rfl)
 ·exact (hs.2 b (br (aH e))).trans ((Heap.get?_update_ne _ _ _ _ hb).trans (ay _ e))
theorem FQ {dx:aw} {mA:Str->Option aj}{ns:List Str} (X:K.In s.heap)(hx:s.heap.get? x=some ox)(hc:ox.cls=.ref C)(hf:ox.data=.fields vs)(hd:ox.dict=some dx)(hn:s.heap.Ns1 dx mA)(S:yb K C name)(hw:Within mA ns)(hsz:ns.length<=1000)
  (h:∀ h' tk,h'.Ns1 dx (fun y=>if y=name then some v else mA y)->cR dx s.heap h'->Q () { s with heap:=h',toks:=tk }) :
  aK (aL prog w) A (setAttr (.ref x) name v) Q E s:=by
 obtain ⟨u,hu⟩:∃ u,s.heap.get? dx=some u:=let ⟨o,_,_,e,_⟩:=hn;⟨o,e⟩
 have I:InstAt s.heap x ox C (some u):=⟨hx,hc,by unfold mR;rw [hf],by rw [hd];exact hu⟩
 obtain ⟨cd,hcd,hdd⟩:=gJ S.hd
 obtain ⟨oc,odt,oda,osl⟩:=ox
 dsimp only at hc hf hd
 subst hc hf hd
 refine iW X I S.s (Yo (s:={ s with toks:=s.toks+1 }) (od:=some u) X I S fun b=>?_)
 refine am (aA (am (am (mG hx (am (e9.here (s:={ s with toks:=s.toks+1 }) (fS X hcd) ?_))))))
 rw [hdd]
 refine aA (a:=some dx) (am (aA (am ?_)))
 refine nK (s:={ s with toks:=s.toks+1 }) hn fun h' hn2 hs2=>?_
 obtain ⟨oD,esD,epD,hoD,hdD,hcD⟩:=hn2.count (h8.cons name v hw)
 refine am (lv hoD (by rw [hdD];exact lA (aZ hcD (by rw [aN,cC];omega))) ?_)
 exact aA (h h' _ hn2 hs2)
end
open PySem.W (Looks InstAt findIn findObj subIn mroIn clsIn takerIn hasDictIn)
noncomputable def VC (C t:aw)(d:Option aw):Obj:={ cls:=.ref C,data:=.fields #[.ref t,.none,.none,.none,.bool false,.none],dict:=d }
noncomputable def kh (a C t:aw)(d:Option aw):HO:=.ext fun h=>h.get? a=some (VC C t d)
noncomputable def XdE (dx:aw)(fs:List (Str × V)):HO:=.ext fun h=>∃ mA,h.Ns1 dx mA/\(∀ f,j8 (fs.lookup f) (mA f))/\Within mA (fs.map (·.1))
variable {P:aX} {w:bB} {H:Hp}
theorem ZV {h:Heap}{a C t:aw}{d:Option aw}(e:h.get? a=some (VC C t d)):zM P w H h a (kh a C t d):=⟨e,⟨_,e⟩,fun _ _ e k=>k _ e⟩
theorem BL {h:Heap}{dx:aw}{fs:List (Str × V)}{mA:Str->Option aj}(n:h.Ns1 dx mA)(r:∀ f,j8 (fs.lookup f) (mA f))(wi:Within mA (fs.map (·.1))):zM P w H h dx (XdE dx fs):=by
 refine ⟨⟨mA,n,r,wi⟩,?_,fun h1 h2 ⟨mA,⟨o,es,ep,e,c⟩,r⟩ k=>⟨mA,⟨o,es,ep,k _ e,c⟩,r⟩⟩
 obtain ⟨o,_,_,e,_⟩:=n
 exact ⟨o,e⟩
section
variable {X:Cx}{pins:List (aw × Obj)}{σ:St}{H:Hp}{s:au}
theorem Inv.drop (I:Inv X pins σ H s){x:aw}(mu:Mut (H x))(h0:X.s₀.heap.get? x=none):Inv X pins σ (fun b=>if b=x then none else H b) s:=by
 have ne1:∀ {b:aw} {y:aw},H b=some (.own y)->b ≠ x:=fun e z=>by rw [z] at e;rw [e] at mu;exact mu
 have ne2:∀ {b:aw} {xs:List V},H b=some (.tup xs)->b ≠ x:=fun e z=>by rw [z] at e;rw [e] at mu;exact mu
 refine ⟨I.ok,I.os,I.bare,⟨I.base.keep,I.base.slot,fun b u e n hb=>?_,I.base.there,fun b xs e=>?_,fun b u v e=>?_,fun b ps e=>?_⟩,I.loc,I.cell,?_,fun y c e=>?_,fun p hp'=>?_,fun b u e=>?_,I.len⟩
 ·show (if b=x then none else H b)=none
  split
  ·rfl
  ·exact I.base.free b u e n hb
 ·have:=I.base.tups b xs e
  show (if b=x then none else H b)=_
  rw [if_neg (ne2 this)];exact this
 ·have:=I.base.frzs b u v e
  show (if b=x then none else H b)=_
  rw [if_neg (fun z=>by rw [z] at this;rw [this] at mu;exact mu)];exact this
 ·obtain ⟨m,this⟩:=I.base.tbls b ps e
  refine ⟨m,?_⟩
  show (if b=x then none else H b)=_
  rw [if_neg (fun z=>by rw [z] at this;rw [this] at mu;exact mu)];exact this
 ·show (if _=x then none else H _)=none
  split
  ·rfl
  ·exact I.free
 ·show (if _=x then none else H _)=none
  split
  ·rfl
  ·exact I.freeC y c e
 ·obtain ⟨e1,e2,e3⟩:=I.pin p hp'
  refine ⟨e1,?_,e3⟩
  show (if _=x then none else H _)=none
  split
  ·rfl
  ·exact e2
 ·have e:(if b=x then none else H b)=some u:=e
  split at e
  ·cases e
  ·exact (I.hok b u e).stay (fun _ _ _ q=>q) (fun d q=>by show (if _=x then none else H _)=_;rw [if_neg (ne1 q)];exact q) fun d xs q=>by show (if _=x then none else H _)=_;rw [if_neg (ne2 q)];exact q
noncomputable def QZ (K:ax)(ta tv:TE)(f:Str):TS:=fun D σ H=>tv σ H fun y H1=>ta σ H1 fun x H2=>∃ a C t,x=.ref a/\yb K C f /\
 ((H2 a=some (kh a C t none)/\∀ dx,H2 dx=none->dx ≠ a->D.nx σ (upd (upd H2 a (kh a C t (some dx))) dx (XdE dx [(f,y)]))) \/
  ∃ dx fs,H2 a=some (kh a C t (some dx))/\H2 dx=some (XdE dx fs)/\fs.length<1000/\D.nx σ (upd H2 dx (XdE dx (jx f y fs))))
variable {o value:Expr}{f:Str}{ta tv:TE}{pos pos':Pos}
theorem yo (ha:PE X o ta)(hv:PE X value tv)(hs:ik value (some (.Attribute o f pos')) pos.line X.env=pure false):PS X (.Assign [.Attribute o f pos'] value pos) (QZ X.K ta tv f):=by
 intro pins s σ H D I h
 refine gH (thn (hv pins s σ H _ I h) fun u s1 ⟨y,H1,I1,ry,q⟩=>thn (ha pins s1 σ H1 _ I1 q) fun ov s2 ⟨x,H2,I2,rx,a,C,t,ex,S,q2⟩=>?_) hs
 subst ex
 obtain rfl:ov=aj.ref a:=rx
 rcases q2 with ⟨ea,q2⟩ | ⟨dx,fs,ea,ed,hl,q2⟩
 ·have ho:s2.heap.get? a=some (VC C t none):=(I2.hok a _ ea).1
  refine DK I2.kIn ho rfl rfl rfl S fun h' tk hn hx k=>?_
  have dn:H2 s2.heap.objs.size=none:=I2.hok.fresh (aJ _)
  have da:s2.heap.objs.size ≠ a:=eA (aH ho)
  have hd:∀ b o,s2.heap.get? b=some o->b ≠ s2.heap.objs.size:=fun b o e=>br (aH e)
  have na:∀ {b:aw} {u:HO},H2 b=some u->(∀ φ,u ≠ .ext φ)->b ≠ a:=fun e n z=>by rw [z,ea] at e;cases e;exact n _ rfl
  have I3:Inv X pins σ (upd (upd H2 a (kh a C t (some s2.heap.objs.size))) s2.heap.objs.size (XdE s2.heap.objs.size [(f,y)])) { s2 with heap:=h',toks:=tk }:=by
   refine I2.un ⟨fun b o e n _ _=>k b o (fun z=>by rw [z,ea] at n;cases n) e,fun b o e n _ _=>⟨o.slots,k b o (fun z=>by rw [z,ea] at n;cases n) e⟩,fun b o e n _=>?_,fun b o e _=>?_,fun b xs e=>?_,fun b o u e=>?_,fun b ps e=>?_⟩ fun b u' e=>?_
   ·rw [zg (hd b o e),zg (fun z=>by rw [z,ea] at n;cases n)];exact n
   ·by_cases c:b=a
    ·exact ⟨_,c ▸ hx⟩
    ·exact ⟨o,k b o c e⟩
   ·rw [zg (zo e dn),zg (na e fun _ z=>nomatch z)];exact e
   ·rw [zg (zo e dn),zg (na e fun _ z=>nomatch z)];exact e
   ·exact ⟨#[],by rw [zg (zo e dn),zg (na e fun _ z=>nomatch z),Array.append_empty];exact e⟩
   ·by_cases c:b=s2.heap.objs.size
    ·subst c
     rw [zj] at e
     cases e
     refine BL hn (fun g=>?_) fun g hg=>?_
     ·have e1:dv g [(f,y)]=if g=f then some y else none:=j3 f g y []
      rw [e1]
      by_cases q:g=f
      ·rw [if_pos q,if_pos q];exact ry
      ·rw [if_neg q,if_neg q];trivial
     ·by_cases q:g=f
      ·rw [q];simp
      ·exact absurd (if_neg q) hg
    ·rw [zg c] at e
     by_cases c2:b=a
     ·subst c2
      rw [zj] at e
      cases e
      exact ZV hx
     ·rw [zg c2] at e
      refine (I2.hok b u' e).stay (fun d v hd' q=>k d v (fun z=>?_) q) (fun d q=>?_) fun d xs q=>?_
      ·rcases hd' with rfl | hd'
       ·exact c2 z
       ·exact na hd' (fun _ z=>nomatch z) z
      ·rw [zg (zo q dn),zg (na q fun _ z=>nomatch z)];exact q
      ·rw [zg (zo q dn),zg (na q fun _ z=>nomatch z)];exact q
  exact ⟨σ,_,I3,q2 _ dn da⟩
 ·have ho:s2.heap.get? a=some (VC C t (some dx)):=(I2.hok a _ ea).1
  obtain ⟨⟨mA,hn,r,wi⟩,_,_⟩:=I2.hok dx _ ed
  refine FQ I2.kIn ho rfl rfl rfl hn S wi (by rw [az];omega) fun h' tk hn' sb=>?_
  have hd:∃ o,h'.get? dx=some o:=let ⟨o,_,_,e',_⟩:=hn';⟨o,e'⟩
  refine ⟨σ,_,I2.write (x:=dx) (e:=dx) (by rw [ed];exact True.intro) (.inl rfl) (fun b q hb z=>(sb.2 b hb).trans z) hd (BL hn' (fun g=>?_) fun g hg=>?_),q2⟩
  ·rw [j3]
   by_cases q:g=f
   ·rw [if_pos q,if_pos q];exact ry
   ·rw [if_neg q,if_neg q];exact r g
  ·by_cases q:g=f
   ·rw [q];exact (kA f y fs).1
   ·refine (kA f y fs).2 g (wi g fun z=>hg ?_)
    show (if g=f then some u else mA g)=none
    rw [if_neg q];exact z
end
variable {K:ax} {mg:Str->Option aj} {v:aj}
theorem J1 {h:Heap}{N:aw} {n:Str} (X:K.In h)(G:h.Ns N mg)(e:bH K N n=some (some v)):mg n=some v:=by
 obtain ⟨o,es,ep,ho,hd,_,hf⟩:=G
 unfold bH at e
 split at e
 ·rename_i c d es' n' sl q
  have:=X _ _ q
  rw [ho] at this
  cases this
  cases hd
  split at e
  ·rename_i en he
   cases e
   rw [<- hf]
   unfold nsFind findBy
   rw [<- nq,he]
   rfl
  ·split at e <;> cases e
 ·cases e
noncomputable def jM (K:ax)(C:aw)(bmB:List aj)(newId:String)(fI:aw):Bool:=match K.lookup C with
 | some ⟨.type "type",_,.cls cd,sl⟩=>(match cd.mro,sl.toList with
  | .ref C' :: bm,[_,_,_,_,some (.builtin n),_]=>C' == C && n == newId && !cd.hasDel && PySem.W.tailIn K bmB bm && PySem.W.nsOkIn K cd.ns && bH K cd.ns "__init__" == some (some (.ref fI))
  | _,_=>false)
 | _=>false
theorem Q3 {h:Heap}{C fI:aw}{bmB:List aj}{newId:String}(X:K.In h)(q:jM K C bmB newId fI=true) :
  ∃ bm N nm qn bs hdct sn sub ab col dd k0 k1 k2 k3 k5 mN,h.get? C=some (eQ nm qn C N bs bm hdct sn sub ab col dd k0 k1 k2 k3 k5 newId)/\h.Ns N mN/\mN "__init__"=some (.ref fI)/\oM h bmB bm:=by
 unfold jM at q
 split at q
 ·rename_i dd cd sl ho
  split at q
  ·rename_i C' bm k0 k1 k2 k3 n k5 hm hs
   simp only [b7,beq_iff_eq,nW] at q
   obtain ⟨⟨⟨⟨⟨z1,z2⟩,z3⟩,z4⟩,z5⟩,z6⟩:=q
   subst z1 z2
   obtain ⟨c1,c2,c3,c4,c5,c6,c7,c8,c9,c10,c11⟩:=cd
   dsimp only at hm z3 z5 z6
   subst hm z3
   have es:sl=#[k0,k1,k2,k3,some (.builtin n),k5]:=Array.ext' hs
   subst es
   exact ⟨bm,c4,c1,c5,c2,c6,c7,c8,c9,c10,dd,k0,k1,k2,k3,k5,_,X _ _ ho,.of_isNs (nG X z5),J1 X (.of_isNs (nG X z5)) z6,PySem.W.tail_of_in X z4⟩
  ·cases q
 ·cases q
noncomputable def spI (C:aw)(n:Nat)(fn:List V->List (Str × V)):Sp:=fun vs H Q E=>∃ a t us,vs=.ref a :: us/\us.length=n/\H a=some (kh a C t none)/\∀ dx,H dx=none->dx ≠ a->Q .non (upd (upd H a (kh a C t (some dx))) dx (XdE dx (fn us)))
def MkX (P:aX)(w:bB)(K:ax)(mg:Str->Option aj)(base:Heap)(C:aw)(k n:Nat)(fn:List V->List (Str × V)):Prop:=
 ∃ f fd ps,jM K C vC "ValueError.__new__" f=true/\js P w K mg base CX0 k f fd ps (spI C n fn)/\jt K fd ps []/\(∃ oI,K.lookup f=some oI/\oI.cls=.type "function")/\ps.length=n+1
noncomputable def Xr (C:aw)(n:Nat)(fn:List V->List (Str × V))(E:St->XK)(t:TA):TS:=fun _ σ H=>t σ H fun vs H1=>vs.length=n/\n<=1000/\∀ dx,H1 dx=none->E σ (.ref C) (some dx) (upd H1 dx (.xd (fn vs)))
section
variable {X:Cx}{E:XK}{C:aw}{x:Str}{np cpos pos:Pos}{e:Expr}{es:List Expr}{t:TA}{k n:Nat}{fn:List V->List (Str × V)}
theorem qw (D:DX X E)(hc:X.calm=true)(m:MkX X.prog X.w X.K X.mg X.base C k n fn)(hr:qk (k+1) X.A)(hg:Gl X x)(hm:X.mg x=some (.ref C))(ha:PA X (e :: es) t)(hdb:(x == ("__debug__":Str))=false:=by decide)
  (he:aW (e :: es) X.env=(false,eval e X.env) :: aW es X.env:=by rfl) (hpl:(cG cpos (aW es X.env)).any (·.1)=false:=by rfl) :
  PS X (.Raise (some (.Call (.Name x np) (e :: es) [] cpos)) none pos) (Xr C n fn (fun _=>E) t):=by
 intro pins s σ H De I h
 obtain ⟨fI,fd,ps,q,F,hb,⟨oI,lk,hfc⟩,hps⟩:=m
 obtain ⟨bm,N,nm,qn,bs,hdct,sn,sub,ab,col,dd,k0,k1,k2,k3,k5,mN,hC,hN,hi,T⟩:=Q3 I.ok.mod.kin q
 refine BA (C:=C) (nm:=nm) (q:=qn) (N:=N) (bs:=bs) (bm:=bm) (hdct:=hdct) (sn:=sn) (sub:=sub) (ab:=ab) (col:=col) (dd:=dd) (k0:=k0) (k1:=k1) (k2:=k2) (k3:=k3) (k5:=k5)
  cN (by decide) cN (mN:=mN) (T.hasType cN.hasBase) (I.ok.hd hc) (by rw [he];show (false || (cG cpos (aW es X.env)).any (·.1))=false;rw [hpl];rfl) hi hfc (jB I hg hm ⟨rfl,?_⟩ hdb)
 have:=ha cpos pins s σ H _ I h
 rw [he] at this ⊢
 refine fD (aO this (fun us s2 h2=>?_) fun _ _ y=>y)
 obtain ⟨vs,H1,I1,r,hl,hn,q1⟩:=h2
 have hlu:us.length=n:=by rw [<- r.length];exact hl
 refine ⟨rfl,by rw [hlu,cC];omega,I1.bk _ _ hC,hN.keeps I1.bk,T.keeps I1.bk,I1.kIn _ _ lk,fun h' x1 hx=>?_⟩
 obtain ⟨t1,ho,_,_⟩:=hx.there
 have nx:s2.heap.get? x1=none:=hx.new
 have hx0:X.s₀.heap.get? x1=none:=by
  cases z:X.s₀.heap.get? x1 with
  | none=>rfl
  | some o=>
   obtain ⟨o',e'⟩:=I1.base.there x1 o z (by rw [D.ex];simp)
   rw [nx] at e';cases e'
 have hx1:H1 x1=none:=by
  cases z:H1 x1 with
  | none=>rfl
  | some o=>
   obtain ⟨u,e'⟩:=(I1.hok x1 o z).here
   rw [nx] at e';cases e'
 have I2:Inv X pins σ H1 { s2 with heap:=h' }:=I1.kept (t':=s2.toks) hx.keeps
 have I3:Inv X pins σ (upd H1 x1 (kh x1 C t1 none)) { s2 with heap:=h' }:=I2.track hx1 hx0 (fun z=>by
   obtain ⟨mm,⟨o,_,_,e',_⟩,_⟩:=I1.loc
   rw [<- z,nx] at e';cases e') (fun y c e' z=>by
   obtain ⟨v,o,e2,_⟩:=I1.cell y c e'
   rw [z,nx] at e2;cases e2) (fun p hp z=>by
   have:=(I1.pin p hp).1
   rw [z,nx] at this;cases this) (ZV ho)
 have r2:zw (V.ref x1 :: vs) (aj.ref x1 :: us):=.cons rfl r
 have hl2:(aj.ref x1 :: us ++ []).length=ps.length:=by rw [cu,aN,hlu,hps]
 have b1:=hb { s2 with heap:=h' } (aj.ref x1 :: us) I3.kIn hl2
 rw [cu] at b1
 refine iA (fH (F.run _ X.stack _ _ ⟨aj.ref x1 :: us,[]⟩ (aj.ref x1 :: us) (V.ref x1 :: vs) (fun v H2=>v=.non/\∃ dx,H1 dx=none/\dx ≠ x1/\H2=upd (upd H1 x1 (kh x1 C t1 (some dx))) dx (XdE dx (fn vs))) E (hr.make C us []) (I3.env0.make C us []) b1 r2 ⟨x1,t1,vs,rfl,hl,zj,fun dx hd hne=>⟨rfl,dx,?_,hne,by rw [xy]⟩⟩) fun r s' hq'=>?_)
 ·rw [zg hne] at hd;exact hd
 cases r with
 | error e=>exact bU hq'
 | ok fl=>
  cases fl with
  | ret u=>
   obtain ⟨v,H',I4,rv,ev,dx,d1,d2,eH⟩:=I3.after hq'
   subst ev eH
   have hcl:=I4.bk _ _ hC
   have hex:s'.heap.get? x1=some (VC C t1 (some dx)):=by
    have:=I4.hok x1 (kh x1 C t1 (some dx)) (by rw [zg (Ne.symm d2),zj])
    exact this.1
   refine ⟨rv,hcl,⟨t1,some dx,hex⟩,?_⟩
   have I5:=I4.drop (x:=x1) (by rw [zg (Ne.symm d2),zj];exact True.intro) hx0
   have eH:(fun b=>if b=x1 then none else upd (upd H1 x1 (kh x1 C t1 (some dx))) dx (XdE dx (fn vs)) b)=upd H1 dx (XdE dx (fn vs)):=by
    funext b
    by_cases c:b=x1
    ·rw [if_pos c,c,zg (Ne.symm d2)];exact hx1.symm
    ·rw [if_neg c]
     by_cases c2:b=dx
     ·rw [c2,zj,zj]
     ·rw [zg c2,zg c,zg c2]
   rw [eH] at I5
   obtain ⟨⟨mA,hn1,hr1,_⟩,⟨od,hod⟩,_⟩:=I5.hok dx (XdE dx (fn vs)) zj
   have I6:=I5.write (x:=dx) (e:=dx) (h':=s'.heap) (t':=s'.toks) (o:=.xd (fn vs)) (by rw [zj];exact True.intro) (.inl rfl) (fun _ _ _ z=>z) ⟨od,hod⟩ ⟨mA,hn1,hr1⟩
   rw [xy] at I6
   exact D.raise (C:=C) (d:=some dx) I6 (x:=x1) (h1:=s'.heap) (fun b o _ z=>z) (fun o z=>by rw [hex] at z;cases z;exact ⟨_,rfl⟩) hex rfl rfl rfl rfl rfl (.inl rfl) hx0 (by rw [zg (Ne.symm d2)];exact hx1) (q1 dx d1)
  | next=>exact bU hq'
  | brk=>exact bU hq'
  | cont=>exact bU hq'
end
open PySem.W (Looks InstAt findIn findObj subIn mroIn clsIn takerIn hasDictIn)
def DmX (P:aX)(w:bB)(K:ax)(mg:Str->Option aj)(base:Heap)(C:aw)(m:Str)(ps:List Str)(k:Nat)(sp:Sp):Prop:=
 ∃ f fd,js P w K mg base (CX1 P w) k f fd ps sp/\jt K fd ps []/\Kk K C m f
variable {base:Heap} {C:aw} {m:Str} {ps:List Str} {sp:Sp}
theorem DmX.mono {j k:Nat} (D:DmX P w K mg base C m ps j sp)(h:j<=k):DmX P w K mg base C m ps k sp:=
 let ⟨f,fd,F,r⟩:=D
 ⟨f,fd,F.mono h,r⟩
noncomputable def wk (C:aw)(m:Str)(sp:Sp)(E:St->XK)(ta:TE)(t:TA):TE:=fun σ H Q=>ta σ H fun x H1=>∃ a dx fs,x=.ref a/\H1 a=some (.ins C dx fs)/\fs.lookup m=none/\t σ H1 fun vs H2=>sp (x :: vs) H2 Q (E σ)
section
variable {X:Cx}{k:Nat}{C:aw}{m x:Str}{ps:List Str}{sp:Sp}{E:St->XK}{p pos apos:Pos}{o e:Expr}{es:List Expr}{t:TA}{to:TE}
theorem xP {pl:Sem Bool}(c:Cls X.K C)(D:DmX X.prog X.w X.K X.mg X.base C m ps k sp)(hr:qk k X.A)(hx:yZ (CX1 X.prog X.w) X E)(ho:PE X o to)(ha:PA X (e :: es) t)
  (hst:aW (e :: es) X.env=(false,eval e X.env) :: aW es X.env:=by rfl) (hpl:(cG pos (aW es X.env)).any (·.1)=false:=by rfl)
  (ht:eval (.Call (.Attribute o m apos) (e :: es) [] pos) X.env=(do
   let ov <- eval o X.env
   iS apos.atName
   let (f,first) <- holding [ov] (getMethod ov m pl)
   gY pos f first (cG pos (aW (e :: es) X.env)) (fV pos (dU [] X.env))):=by rfl) :
  PE X (.Call (.Attribute o m apos) (e :: es) [] pos) (wk C m sp E to t):=by
 obtain ⟨f,fd,F,b,hm⟩:=D
 intro pins s σ H Q I h
 refine ff (pl:=pl) (thn (ho pins s σ H _ I h) fun u s1 ⟨x,H1,I1,rx,a,dx,fs,ex,ea,l,q⟩=>?_) ht
 subst ex
 obtain rfl:u=aj.ref a:=rx
 refine kI I1 ea c hm l ?_
 refine eW (first:=[.ref a]) (h₀:=X.base) I.ok.mod.kin hm.kp (thn (ha pos pins s1 σ H1 _ I1 q) fun us s2 ⟨vs,H2,I2,r,q2⟩=>⟨I2.kIn,?_⟩) hst hpl
 exact Yq (us:=.ref a :: us) (vs:=.ref a :: vs) F hr b hx I2 (.cons rfl r) q2
end
variable {qual:Str} {st:de} {N:List Str} {k:Nat}
theorem II (a:AtM K C m qual st)(S:zr N ps (zf st))
  (hb:∀ (kV doc pm:aj) (an:Option aw) (cdv ct:aj) (us:List aj),us.length=ps.length->fA (bY m qual (qp st) (zP st) (zf st) .none kV doc pm an cdv ct) ⟨us,[]⟩=pure (ps.zip us))
  (len:∀ vs H Q E,sp vs H Q E->vs.length=ps.length)
  (hbody:∀ (f:aw) (cdv:aj) (A:bj) (outer:List Env) (s:au) (H:Hp) (vs:List V) (Q:VK) (E:XK),qk k (A.deeper (fT qual (zf st) s.heap.objs.size f cdv))->sp vs H Q E ->
   ∃ t,(DX (jA (CX1 P w) P w K mg base N qual (zf st) f cdv A outer s H E) E->PSs (jA (CX1 P w) P w K mg base N qual (zf st) f cdv A outer s H E) (zP st) t)/\t { nx:=fun _ H'=>Q .non H',rt:=Q } (start N vs) H):DmX P w K mg base C m ps (k+1) sp:=by
 obtain ⟨f,fd,F,mt⟩:=a
 refine ⟨f,fd,?_,F.binds hb,mt⟩
 obtain ⟨oc,od,kV,doc,pm,an,cdv,ct,osl,rfl,lk,hcd⟩:=F.ex
 refine Wa lk hcd S len fun A outer s H vs Q E hr hsp=>?_
 obtain ⟨t,ht,q⟩:=hbody f cdv A outer s H vs Q E hr hsp
 exact ⟨t,ht ⟨rfl,rfl,rfl,rfl⟩,q⟩
theorem JH {u:Obj}{name:Str} (hh:fc K C=true)(ha:fh K (.ref C) name=some none)(hl:gw name u=some (some v)):i5 K C (some u) name=some (.value v):=mW hh ha rfl hl
section
variable {prog:aX}{w:bB}{A:bj}{E:aj->au->Prop}{s:au}{K:ax}{x C:aw}{ox u:Obj}{name:Str}{v:aj}
theorem Lm {expr:Bool}{Q:aj->au->Prop}(X:K.In s.heap)(I:InstAt s.heap x ox C (some u))(hb:nc K (.ref C) (.type "BaseException")=some true)
  (h1:fh K (.ref C) "__getattribute__"=some (some (.builtin "BaseException.__getattribute__"))) (h2:fh K (.ref C) "__getattr__"=some none)
  (hf:i5 K C (some u) name=some (.value v)) (hh:lu v=true) (q:Q v { s with toks:=s.toks+1 }) :
  aK (aL prog w) A (oK (.ref x) name expr) Q E s:=by
 obtain ⟨h,g,d,t,os⟩:=s
 unfold oK
 refine am (wpAny_mkText ?_)
 refine L7 X I hb h1 h2 ?_
 have L0:=I.type (M:=aL prog w)
 have L1:=PySem.W.looks_find (M:=aL prog w) X I hf
 have fin:aK (aL prog w) A (handedOut v) Q E ⟨h,g,d,t+1,os⟩:=by rw [PySem.W.handedOut_of hh];exact aA q
 unfold Builtin.«object.__getattribute__»
 repeat (any_goals (first | assumption | with_reducible refine iH.at L0 ?_ | with_reducible refine iH.at L1 ?_ | wp_step))
end
section
variable {X:Cx}{e:Expr}{ta:TE}{f:Str}{pos:Pos}
end
variable {n:Nat}
theorem DR {C f:aw}{fd:dE} {fn:List V->List (Str × V)}(F:Fun K "__init__" qual st f fd)(S:zr N ps (zf st))
  (hb:∀ (kV doc pm:aj) (an:Option aw) (cdv ct:aj) (us:List aj),us.length=ps.length->fA (bY "__init__" qual (qp st) (zP st) (zf st) .none kV doc pm an cdv ct) ⟨us,[]⟩=pure (ps.zip us))
  (q:jM K C vC "ValueError.__new__" f=true) (hf:dF K (.ref f)=true) (hl:ps.length=n+1)
  (hbody:∀ (cdv:aj) (A:bj) (outer:List Env) (s:au) (H:Hp) (E:XK),∃ t,PSs (jA CX0 P w K mg base N qual (zf st) f cdv A outer s H E).nox (zP st) t /\
   ∀ (a t0:aw) (us:List V) (Q:VK),us.length=n->H a=some (kh a C t0 none)->(∀ dx,H dx=none->dx ≠ a->Q .non (upd (upd H a (kh a C t0 (some dx))) dx (XdE dx (fn us))))->t { nx:=fun _ H'=>Q .non H',rt:=Q } (start N (.ref a :: us)) H):MkX P w K mg base C (k+1) n fn:=by
 have hfc:∃ oI,K.lookup f=some oI/\oI.cls=.type "function":=by
  obtain ⟨oc,od,kV,doc,pm,an,cdv,ct,osl,rfl,lk,hcd⟩:=F.ex
  refine ⟨_,lk,?_⟩
  have hf':=beq_iff_eq.mp hf
  have hf':Option.map (fun x:Obj=>x.cls) (K.lookup f)=some (.type "function"):=hf'
  rw [lk] at hf'
  exact bC hf'
 refine ⟨f,fd,ps,q,F.ok S (fun vs H Q E ⟨a,t,us,e,l,_⟩=>by rw [e,aN,l,hl]) fun cdv A outer s H vs Q E hr ⟨a,t0,us,e,l,ha,hq⟩=>?_,F.binds hb,hfc,hl⟩
 obtain ⟨t,h1,h2⟩:=hbody cdv A outer s H E
 subst e
 exact ⟨t,h1,h2 a t0 us Q l ha hq⟩
open PySem.W (findIn hasDictIn)
theorem vg {H:Hp}{O:Own}{M:MH}:∀ {xs:List (Str × V)} {l:List (Str × AV)},jr H O M xs l->∀ f,(xs.lookup f=none/\l.lookup f=none) \/ ∃ v x,xs.lookup f=some v/\l.lookup f=some x/\zq H O M v x
 | [],[],_,f=>.inl ⟨rfl,rfl⟩
 | [],_ :: _,r,f=>by have:=r.1;simp at this
 | _ :: _,[],r,f=>by have:=r.1;simp at this
 | (g,v) :: xs,(g',x) :: l,r,f=>by
  have h1:=r.1
  rw [aY,aY] at h1
  obtain ⟨e0,h2⟩:=dX h1
  have e0:g=g':=e0
  subst e0
  have r0:zq H O M v x:=r.2.2 0 v x rfl rfl
  have r1:jr H O M xs l:=⟨h2,by have:=r.2.1;simp at this;simpa using this,fun i a b e1 e2=>r.2.2 (i+1) a b e1 e2⟩
  by_cases c:f=g
  ·subst c
   exact .inr ⟨v,x,by simp [dv],by simp [dv],r0⟩
  ·have e:(f == g)=false:=by simpa using c
   simp only [dv,e]
   exact vg r1 f
noncomputable def xH (f:Str)(v:AV):List (Str × AV)->List (Str × AV)
 | []=>[(f,v)]
 | (g,x) :: r=>if g=f then (g,v) :: r else (g,x) :: xH f v r
theorem Am {H:Hp}{O:Own}{M:MH}{f:Str}{v:V}{x:AV}(rv:zq H O M v x):∀ {xs:List (Str × V)} {l:List (Str × AV)},jr H O M xs l->jr H O M (jx f v xs) (xH f x l)
  | [], [], _ => ⟨rfl, rfl, fun i a b e1 e2 => by
      cases i with
      | zero=>cases e1;cases e2;exact rv
      | succ i=>cases e1⟩
  | [],_ :: _,r=>by have:=r.1;simp at this
  | _ :: _,[],r=>by have:=r.1;simp at this
  | (g,v') :: xs,(g',x') :: l,r=>by
    have h1:=r.1
    rw [aY,aY] at h1
    obtain ⟨e0,h2⟩:=dX h1
    have e0:g=g':=e0
    subst e0
    have r0:zq H O M v' x':=r.2.2 0 v' x' rfl rfl
    have ll:xs.length=l.length:=by have:=r.2.1;simp at this;exact this
    have r1:jr H O M xs l:=⟨h2,by simpa using ll,fun i a b e1 e2=>r.2.2 (i+1) a b e1 e2⟩
    unfold jx xH
    by_cases c:g=f
    · rw [if_pos c,if_pos c]
      exact ⟨by rw [aY,aY,h2],by simpa using ll,fun i a b e1 e2=>by
        cases i with
        | zero=>cases e1;cases e2;exact rv
        | succ i=>exact r1.2.2 i a b e1 e2⟩
    · rw [if_neg c,if_neg c]
      have ih:=Am (f:=f) rv r1
      exact ⟨by rw [aY,aY,ih.1],by have:=ih.2.1;simpa using this,fun i a b e1 e2=>by
        cases i with
        | zero=>cases e1;cases e2;exact r0
        | succ i=>exact ih.2.2 i a b e1 e2⟩
variable {O:Own} {M:MH}
theorem Hk {xs:List (Str × V)}{l:List (Str × AV)}(r:jr H O M xs l):xs.length=l.length:=by simpa using r.2.1
theorem Yi (w:Wf H O M){p C:aw}{fs:List (Str × AV)}(hp:M p=some (.ins C fs))(f:Str){v:V}{y:AV}(rv:zq H O M v y) :
  ∃ dx xs,H p=some (.ins C dx xs)/\xs.length=fs.length/\Ext H O M (upd H p (.ins C dx (jx f v xs))) O (mup M p (.ins C (xH f y fs)))/\Wf (upd H p (.ins C dx (jx f v xs))) O (mup M p (.ins C (xH f y fs))):=by
 obtain ⟨dx,xs,g1,g2,g3,g4,g5⟩:=w.mo p _ hp
 have np:=qY hp
 have ks:=jY w np (.ins C dx (jx f v xs)) (.ins C (xH f y fs))
 have kp:=Am (f:=f) rv g2
 refine ⟨dx,xs,g1,Hk g2,ks,Qq w np (fun _ z=>nomatch z) (show qX _ _ _ p (.ins C (xH f y fs)) from ⟨dx,_,zj,⟨kp.1,kp.2.ext ks⟩,g3,(ks.prv dx g3 g4).2.2,?_⟩)⟩
 rw [(ks.prv dx g3 g4).1];exact g5
noncomputable def LS (K:ax)(a:AE)(f:Str):AE:=fun ρ M Q=>a ρ M fun x M1=>∃ p C fs v,x=.ref p/\M1 p=some (.ins C fs)/\Cls K C/\jR K C f/\fs.lookup f=some v/\Q v M1
variable {a:AE} {f:Str}
theorem FD {t:TE} (h:zD t a):zD (IM K t f) (LS K a f):=⟨fun w e q k=>h.go w e q fun x M1 v H1 O1 q1 k1 w1 r1=>by
 obtain ⟨p,C,fs,y,rfl,hp,c,n,hl,q2⟩:=q1
 obtain ⟨dx,xs,h1,h2,_⟩:=w1.mo p _ hp
 rcases vg h2 f with ⟨_,z⟩ | ⟨u,z,h3,h4,h5⟩
 ·rw [z] at hl;cases hl
 ·rw [hl] at h4;cases h4
  exact ⟨p,C,dx,xs,u,r1.1,h1,c,n,h3,k _ _ _ _ _ q2 k1 w1 h5⟩⟩
noncomputable def BN (K:ax)(a b:AE)(f:Str):AS:=fun _ D ρ M=>b ρ M fun y M1=>a ρ M1 fun x M2=>∃ p C fs,x=.ref p/\M2 p=some (.ins C fs)/\Cls K C/\jR K C f/\fs.length<1000/\D.nx ρ (mup M2 p (.ins C (xH f y fs)))
theorem Ad {t u:TE}{a b:AE} (h1:zD t a)(h2:zD u b):jg (F0 K t u f) (BN K a b f):=⟨fun _ w e x q E=>h2.go w e q fun y M1 v H1 O1 q1 k1 w1 r1=>h1.go w1 (e.ext k1) q1 fun z M2 v2 H2 O2 q2 k2 w2 r2=>by
 obtain ⟨p,C,fs,rfl,hp,c,n,hl,q3⟩:=q2
 obtain ⟨dx,xs,g1,g2,ks,w3⟩:=Yi w2 hp f (r1.ext k2)
 exact ⟨p,C,dx,xs,r2.1,g1,c,n,by rw [g2];exact hl,E.nx _ _ _ _ _ w3 ((e.ext k1).ext (k2.trans ks)) ((x.trans k1).trans (k2.trans ks)) q3⟩⟩
noncomputable def G6 (C:aw)(m:Str)(sp:ASp)(a:AE)(b:AA):AE:=fun ρ M Q=>a ρ M fun x M1=>∃ p fs,x=.ref p/\M1 p=some (.ins C fs)/\fs.lookup m=none/\b ρ M1 fun xs M2=>sp (.ref p :: xs) M2 Q
theorem Qm {H:Hp}{O:Own}{M:MH}{v:V}{x:AV}{vs:List V}{xs:List AV}(r:zq H O M v x)(rs:zi H O M vs xs):zi H O M (v :: vs) (x :: xs):=⟨by rw [aN,aN,rs.1],fun i a b e1 e2=>by
 cases i with
 | zero=>cases e1;cases e2;exact r
 | succ i=>exact rs.2 i a b e1 e2⟩
variable {u:TA} {b:AA}
theorem DO {sp:ASp}{t:TE} (h1:zD t a)(h2:jq u b):zD (Zf C m (cSp sp) [] E0 t u) (G6 C m sp a b):=⟨fun w e q k=>h1.go w e q fun x M1 v H1 O1 q1 k1 w1 r1=>by
 obtain ⟨p,fs,rfl,hp,hl,q2⟩:=q1
 obtain ⟨dx,xs,g1,g2,_⟩:=w1.mo p _ hp
 have hn:xs.lookup m=none:=by
  rcases vg g2 m with z | ⟨_,_,_,z,_⟩
  ·exact z.1
  ·rw [hl] at z;cases z
 refine ⟨p,dx,xs,r1.1,g1,hn,h2.go w1 (e.ext k1) q2 fun ys M2 vs H2 O2 q3 k2 w2 r2=>?_⟩
 have rp:zq H2 O2 M2 v (.ref p):=r1.ext k2
 exact ⟨.ref p :: ys,M2,O2,_,w2,by rw [cu];exact Qm rp r2,q3,fun z M3 v3 H3 O3 q4 k3 w3 r3=>k z M3 v3 H3 O3 q4 ((k1.trans k2).trans k3) w3 r3⟩⟩
section
variable {HX:Hp}{OX:Own}{MX:MH}{E:St->XK}{EA:ASt->AXK}{sp:yq}{te:TE}{ae:AE}{ta:TA}{aa:AA}{C:aw}{m:Str}
noncomputable def v8 (C:aw)(m:Str)(sp:yq)(EA:ASt->AXK)(a:AE)(b:AA):AE:=fun ρ M Q=>a ρ M fun x M1=>∃ p fs,x=.ref p/\M1 p=some (.ins C fs)/\fs.lookup m=none/\b ρ M1 fun xs M2=>sp (.ref p :: xs) M2 Q (EA ρ)
theorem vy (hE:EXs HX OX MX E EA)(ho:zD te ae)(hu:jq ta aa){σ:St} {ρ:ASt} {Q:VK}{Q':AK}(kx:Ext HX OX MX H O M)(w:Wf H O M)(e:Er H O M σ ρ)(q:v8 C m sp EA ae aa ρ M Q')(k:∀ x M' v H' O',Q' x M'->Ext H O M H' O' M'->Wf H' O' M'->zq H' O' M' v x->Q v H'):wk C m (jU sp) E te ta σ H Q:=
 ho.go w e q fun x M1 v H1 O1 q1 k1 w1 r1=>by
  obtain ⟨p,fs,rfl,hp,hl,q2⟩:=q1
  obtain ⟨dx,xs,g1,g2,_⟩:=w1.mo p _ hp
  have hn:xs.lookup m=none:=by
   rcases vg g2 m with z | ⟨_,_,_,z,_⟩
   ·exact z.1
   ·rw [hl] at z;cases z
  refine ⟨p,dx,xs,r1.1,g1,hn,hu.go w1 (e.ext k1) q2 fun ys M2 vs H2 O2 q3 k2 w2 r2=>?_⟩
  have rp:zq H2 O2 M2 v (.ref p):=r1.ext k2
  exact ⟨.ref p :: ys,M2,O2,Q',EA ρ,w2,Qm rp r2,q3,fun x M3 v3 H3 O3 q4 k3 w3 r3=>k x M3 v3 H3 O3 q4 ((k1.trans k2).trans k3) w3 r3,fun C fs M' H' O' d q4 k3 w3 xd=>hE.go σ ρ C fs M' H' O' d q4 (((kx.trans k1).trans k2).trans k3) w3 (e.ext ((k1.trans k2).trans k3)) xd⟩
theorem JR (hE:EXs HX OX MX E EA)(ho:zD te ae)(hu:jq ta aa):kj HX OX MX (YM (wk C m (jU sp) E te ta)) (Jn (v8 C m sp EA ae aa)):=
 ⟨fun kx _ w e x q D=>vy hE ho hu (kx.trans x) w e q fun y M1 v H1 O1 q1 k1 w1 r1=>D.nx _ _ _ _ _ w1 (e.ext k1) (x.trans k1) q1⟩
theorem Y2 {to:TE}{ao:AE}(hE:EXs HX OX MX E EA)(ho:zD te ae)(hu:jq ta aa)(h1:zD to ao):kj HX OX MX (F0 K to (wk C m (jU sp) E te ta) f) (BN K ao (v8 C m sp EA ae aa) f):=
 ⟨fun kx _ w e x q D=>vy hE ho hu (kx.trans x) w e q fun y M1 v H1 O1 q1 k1 w1 r1=>h1.go w1 (e.ext k1) q1 fun z M2 v2 H2 O2 q2 k2 w2 r2=>by
  obtain ⟨p,C,fs,rfl,hp,c,n,hl,q3⟩:=q2
  obtain ⟨dx,xs,g1,g2,ks,w3⟩:=Yi w2 hp f (r1.ext k2)
  exact ⟨p,C,dx,xs,r2.1,g1,c,n,by rw [g2];exact hl,D.nx _ _ _ _ _ w3 ((e.ext k1).ext (k2.trans ks)) ((x.trans k1).trans (k2.trans ks)) q3⟩⟩
theorem Vd {g:TG}{ag:AG}(hE:EXs HX OX MX E EA)(ho:zD te ae)(hu:jq ta aa)(hg:xM g ag):kj HX OX MX (ZE (wk C m (jU sp) E te ta) g) (Xi (v8 C m sp EA ae aa) ag):=
 ⟨fun kx _ w e x q D=>vy hE ho hu (kx.trans x) w e q fun y M1 v H1 O1 q1 k1 w1 r1=>hg.go w1 (e.ext k1) r1 q1 fun σ2 H2 O2 ρ2 M2 q2 k2 w2 e2=>D.nx _ _ _ _ _ w2 e2 ((x.trans k1).trans k2) q2⟩
noncomputable def Dl:AV->Option V
 | .d (.int i)=>some (.int i)
 | .d (.str s)=>some (.str s)
 | .d .non=>some .non
 | .d (.bl b)=>some (.bl b)
 | _=>none
theorem Da {H:Hp}{O:Own}{M:MH}{v u:V}{x:AV}(r:zq H O M v x)(h:Dl x=some u):v=u:=by
 cases x with
 | ref a=>cases h
 | d d=>
  have r:Rep H O v d:=r
  cases d <;> first | (cases h;first | exact zQ r | exact Yv r | exact vm r | exact jH r) | cases h
theorem V2 {vs us:List V}{xs:List AV}(r:zi H O M vs xs)(h:xs.map Dl=us.map some):vs=us:=by
 have ll:xs.length=us.length:=by simpa using congrArg oH h
 refine lG (r.1.trans ll) fun i h1 h2=>?_
 have hi:i<xs.length:=by rw [<- r.1];exact h1
 have e:Dl xs[i]=some us[i]:=by
  have:=congrArg (fun z:List (Option V)=>z[i]?) h
  simpa [aD,af hi,af h2] using this
 exact Da (r.2 i vs[i] xs[i] (af h1) (af hi)) e
noncomputable def YG (C:aw)(n:Nat)(fn:List V->List (Str × V))(EA:ASt->AXK)(b:AA):AS:=fun _ _ ρ M=>b ρ M fun xs M1=>∃ vs,xs.map Dl=vs.map some/\vs.length=n/\n<=1000/\EA ρ C (fn vs) M1
theorem QV {fn:List V->List (Str × V)}(hE:EXs HX OX MX E EA)(hu:jq ta aa):kj HX OX MX (Xr C n fn E ta) (YG C n fn EA aa):=
 ⟨fun kx _ w e x q D=>hu.go w e q fun xs M1 vs H1 O1 q1 k1 w1 r1=>by
  obtain ⟨us,h1,h2,h3,h4⟩:=q1
  obtain rfl:=V2 r1 h1
  refine ⟨h2,h3,fun dx hd=>?_⟩
  have k2:=qv w1 hd (.xd (fn vs))
  exact hE.go _ _ C (fn vs) M1 _ (xW O1 dx) (some dx) h4 (((kx.trans x).trans k1).trans k2) (j6 w1 hd _ (fun _ z=>nomatch z)) (e.ext (k1.trans k2)) (.inr ⟨dx,rfl,zj,.inl rfl,(w1.fresh hd).2⟩)⟩
end
noncomputable def A0:V->Option Dat
 | .int i=>some (.int i)
 | .str s=>some (.str s)
 | .non=>some .non
 | .bl b=>some (.bl b)
 | _=>none
theorem VY {v:V}{d:Dat}(h:A0 v=some d):Rep H O v d:=by
 cases v <;> first | (cases h;constructor) | cases h
theorem dmA {a:ASp}(at_:AtM K C m qual st)(S:zr N ps (zf st))
  (hb:∀ (kV doc pm:aj) (an:Option aw) (cdv ct:aj) (us:List aj),us.length=ps.length->fA (bY m qual (qp st) (zP st) (zf st) .none kV doc pm an cdv ct) ⟨us,[]⟩=pure (ps.zip us))
  (len:∀ xs M Q,a xs M Q->xs.length=ps.length)
  (hbody:∀ (f:aw) (cdv:aj) (A:bj) (outer:List Env) (s:au) (H:Hp) (E:XK),qk k (A.deeper (fT qual (zf st) s.heap.objs.size f cdv)) ->
   ∃ t,PSs (jA CX0 P w K mg base N qual (zf st) f cdv A outer s H E).nox (zP st) t/\∃ b,jg t b/\∀ xs M Q,a xs M Q->b M { nx:=fun _ M'=>rtA M Q (.d .non) M',rt:=rtA M Q } (zR N xs) M):Dm P w K mg base C m ps (k+1) (cSp a):=by
 refine Hx at_ S hb (fun vs H Q E h=>?_) (fun f cdv A outer s H vs Q E hr h=>?_)
 ·obtain ⟨xs,M,O,Q',w,r,q,_⟩:=h
  rw [r.1];exact len xs M Q' q
 ·obtain ⟨t,ht,b,hb,hq⟩:=hbody f cdv A outer s H E hr
  refine ⟨t,ht,?_⟩
  obtain ⟨xs,M,O,Q',w,r,q,kk⟩:=h
  refine hb.go w w (yc r N) .refl (hq xs M Q' q) ⟨fun σ H' O' ρ M' w' e' x' q'=>?_,fun v y H' O' M' w' x' r' q'=>?_,fun _ _ _ _ _ _ _ _ z=>z.elim,fun _ _ _ _ _ _ _ _ z=>z.elim⟩
  ·obtain ⟨y',M'',f,q2⟩:=q'
   obtain ⟨O'',w2,k2,r2⟩:=kK w w' x' (show zq H' O' M' .non (.d .non) from .non) f
   exact kk _ _ _ _ _ q2 k2 w2 r2
  ·obtain ⟨y',M'',f,q2⟩:=q'
   obtain ⟨O'',w2,k2,r2⟩:=kK w w' x' r' f
   exact kk _ _ _ _ _ q2 k2 w2 r2
theorem V0 {P : aX}{w : bB}{K : ax}{mg : Str -> Option aj}{base : Heap}{C : aw}{m qual : Str}{st : de}{N ps : List Str}{k : Nat}{a : yq}(at_ : AtM K C m qual st)(S : zr N ps (zf st))
    (hb:∀ (kV doc pm:aj) (an:Option aw) (cdv ct:aj) (us:List aj),us.length=ps.length->fA (bY m qual (qp st) (zP st) (zf st) .none kV doc pm an cdv ct) ⟨us,[]⟩=pure (ps.zip us))
    (len:∀ xs M Q E,a xs M Q E->xs.length=ps.length)
    (hbody:∀ (f:aw) (cdv:aj) (A:bj) (outer:List Env) (s:au) (H:Hp) (HX:Hp) (OX:Own) (MX:MH) (E':AXK),qk k (A.deeper (fT qual (zf st) s.heap.objs.size f cdv)) ->
      DX (jA (CX1 P w) P w K mg base N qual (zf st) f cdv A outer s H (cE HX OX MX E')) (cE HX OX MX E') ->
      ∃ t,PSs (jA (CX1 P w) P w K mg base N qual (zf st) f cdv A outer s H (cE HX OX MX E')) (zP st) t/\∃ b,kj HX OX MX t b/\∀ xs Q E0,E'=exA MX E0->a xs MX Q E0->b MX { nx:=fun _ M'=>rtA MX Q (.d .non) M',rt:=rtA MX Q } (zR N xs) MX):DmX P w K mg base C m ps (k+1) (jU a):=by
  refine II at_ S hb (fun vs H Q E h=>?_) (fun f cdv A outer s H vs Q E hr h=>?_)
  · obtain ⟨xs,M,O,Q',E',w,r,q,_⟩:=h
    rw [r.1];exact len xs M Q' E' q
  · obtain ⟨xs,M,O,Q',E',w0,r,q,kk,ke⟩:=h
    obtain ⟨t,ht,b,hb,hq⟩:=hbody f cdv A outer s H H O M (exA M E') hr ⟨rfl,rfl,rfl,rfl⟩
    refine ⟨t,fun D=>?_,?_⟩
    · have ce : ∀ c d H', cE H O M (exA M E') c d H' -> E c d H' := fun c d H' ⟨C, fs, M', O', e1, ⟨M'', f, q2⟩, k1, w1, xd⟩ => by
        subst e1
        obtain ⟨O'',w2,k2,-,ko⟩:=ZZ w0 w1 k1 (show zq H' O' M' .non (.d .non) from .non) f
        refine ke C fs M'' H' O'' d q2 k2 w2 ?_
        rcases xd with xd | ⟨dx,e1,h1,h2,h3⟩
        · exact .inl xd
        · exact .inr ⟨dx,e1,h1,(ko dx h2 h3).1,(ko dx h2 h3).2⟩
      refine PSs.wish' (fun e s' z=>?_) ht
      exact aO z (fun _ s'' y=>y.imp ce) fun e' s'' y=>y.imp ce
    · refine hb.go .refl w0 w0 (yc r N) .refl (hq xs Q' E' rfl q) ⟨fun σ H' O' ρ M' w' e' x' q'=>?_,fun v y H' O' M' w' x' r' q'=>?_,fun _ _ _ _ _ _ _ _ z=>z.elim,fun _ _ _ _ _ _ _ _ z=>z.elim⟩
      · obtain ⟨y',M'',f,q2⟩:=q'
        obtain ⟨O'',w2,k2,r2⟩:=kK w0 w' x' (show zq H' O' M' .non (.d .non) from .non) f
        exact kk _ _ _ _ _ q2 k2 w2 r2
      · obtain ⟨y',M'',f,q2⟩:=q'
        obtain ⟨O'',w2,k2,r2⟩:=kK w0 w' x' r' f
        exact kk _ _ _ _ _ q2 k2 w2 r2
noncomputable def G3 (C:aw)(sp:ASp)(b:AA):AE:=fun ρ M Q=>b ρ M fun xs M1=>∀ p,M1 p=none->sp (.ref p :: xs) (mup M1 p (.ins C [])) fun v M2=>v=.d .non/\Q (.ref p) M2
theorem WW {sp:ASp} (h:jq u b):zD (Xo C (cSp sp) [] E0 u) (G3 C sp b):=⟨fun w e q k=>h.go w e q fun ys M1 vs H1 O1 q1 k1 w1 r1=>by
 intro x dx hx hd hne
 have k2:=qv w1 hd (.own x)
 have w2:=j6 w1 hd (.own x) (fun _ z=>nomatch z)
 have hx2:upd H1 dx (.own x) x=none:=by rw [zg (Ne.symm hne)];exact hx
 have k3:=vp w2 hx2 (.ins C dx []) (.ins C [])
 have w3:Wf (upd (upd H1 dx (.own x)) x (.ins C dx [])) (xW (xW O1 dx) x) (mup M1 x (.ins C [])):=Kj w2 hx2 (fun _ z=>nomatch z) (show qX _ _ _ x (.ins C []) from ⟨dx,[],zj,⟨rfl,rfl,fun i a b e1 _=>nomatch e1⟩,.inr (.inl rfl),by rw [zn hne];exact (w1.fresh hd).2,by rw [zg hne,zj]⟩)
 have mx:mup M1 x (.ins C []) x ≠ none:=by rw [zk];exact fun z=>nomatch z
 refine ⟨.ref x :: ys,mup M1 x (.ins C []),_,_,w3,?_,q1 x (w1.fresh hx).2,fun z M4 v4 H4 O4 q4 k4 w4 r4=>?_⟩
 ·rw [cu];exact Qm ⟨rfl,mx⟩ (r1.ext (k2.trans k3))
 ·obtain ⟨rfl,q5⟩:=q4
  exact ⟨vm r4,k _ _ _ _ _ q5 (((k1.trans k2).trans k3).trans k4) w4 ⟨rfl,k4.mst x mx⟩⟩⟩
noncomputable def G7 (kvs:List (Key × V))(a:AE):AE:=fun ρ M Q=>a ρ M fun x M1=>∃ s d,x=.d (.str s)/\A0 ((kQ kvs (cH s)).getD .non)=some d/\Q (.d d) M1
theorem An {kvs:List (Key × V)}{t:TE} (h:zD t a):zD (BZ kvs t) (G7 kvs a):=⟨fun w e q k=>h.go w e q fun x M1 v H1 O1 q1 k1 w1 r1=>by
 obtain ⟨s,d,rfl,hd,q2⟩:=q1
 exact ⟨cH s,Yv r1,k _ _ _ _ _ q2 k1 w1 (show Rep _ _ _ _ from VY hd)⟩⟩
end L2
namespace PySem
open Sem (wp)
theorem wH:entryFor table "proto.unchain"=some Builtin.«proto.unchain»:=entryFor_of_fast (by kernel_rfl)
section
variable {prog:aX}{w:bB}{A:bj}{E:aj->au->Prop}{s:au}
theorem VN {α:Type}{e x:aw}{oe ox:Obj}{vs vx:Array aj}{Q:α->au->Prop}(hh:A.handled=some (.ref x))(hne:x ≠ e)(hx:s.heap.get? x=some ox)(hxd:ox.data=.fields vx)(hx2:vx[2]?=some .none)(he:s.heap.get? e=some oe)(hed:oe.data=.fields vs)(h2:2<vs.size)
  (h:E (.ref e) { s with heap:=s.heap.update e (eJ (·.setIfInBounds 2 (.ref x))) }):aK (aL prog w) A (raiseNew (.ref e):Sem α) Q E s:=by
 unfold raiseNew
 refine am (wpAny_handled ?_)
 rw [hh]
 dsimp only
 rw [if_pos (by simpa using hne)]
 refine am (cq (wpAny_runValue (mz wH ?_)))
 unfold Builtin.«proto.unchain»
 dsimp only
 refine am (bO hx hxd hx2 ?_)
 rw [if_pos (show (aj.none == aj.none)=true from by decide)]
 refine aA ?_
 dsimp only
 refine am ?_
 obtain ⟨c,d,dt,sl⟩:=oe
 simp only at hed
 subst hed
 unfold updateField
 refine am (wpAny_load he ?_)
 dsimp only
 rw [if_pos h2]
 exact wpAny_update he (wpAny_throw h)
end
section
variable {prog:aX}{w:bB}{A:bj}{E:aj->au->Prop}{env:Env}
variable {nm q:Str}{C N:aw}{bs bm bmB:List aj}{hdct:Bool}{sn:List Str}{sub:List aj}{ab:Bool}{col:Option Bool}{dd:Option aw}{k0 k1 k2 k3 k5:Option aj}{B Bn newId nid initId inN:String}{bmN:List aj}
variable {s:au} {Q:Flow->au->Prop}
theorem K1 {xx:Sem aj}{x:aw} (hbase:bm.contains (.type "BaseException")=true)(hh:A.handled=some (.ref x))
  (h:aK (aL prog w) A xx (fun v s₁=>∃ e t dx ox vx,v=.ref e/\x ≠ e/\s₁.heap.get? C=some (eQ nm q C N bs bm hdct sn sub ab col dd k0 k1 k2 k3 k5 newId) /\
   s₁.heap.get? e=some { cls:=.ref C,data:=.fields #[.ref t,.none,.none,.none,.bool false,.none],dict:=dx }/\s₁.heap.get? x=some ox/\ox.data=.fields vx/\vx[2]?=some .none /\
   E (.ref e) { s₁ with heap:=s₁.heap.update e (eJ (·.setIfInBounds 2 (.ref x))) }) E s) :
  aK (aL prog w) A (oA env (some xx) none) Q E s:=by
 have hcB:(aj.ref C :: bm).contains (.type "BaseException")=true:=by rw [nF,hbase,Bool.or_true]
 unfold oA
 refine am (aO h (fun v s₁ h₁=>?_) fun _ _ x=>x)
 obtain ⟨e,t,dx,ox,vx,rfl,hne,hC,he,hx,hxd,hx2,hE⟩:=h₁
 obtain ⟨hp,g,d,tk,os⟩:=s₁
 repeat (first | with_reducible refine dN he ?_ | with_reducible refine dN hC ?_ | (with_reducible refine h7 hC ?_;rw [hcB]) | wp_step)
 exact VN hh hne hx hxd hx2 he rfl (by simp) hE
theorem Lr (Fn:eY Bn newId inN bmN)(hBn:bmB.contains (.type Bn)=true)(F:eY B nid initId bmB) {mN:Str->Option aj}{cx:Str}{x:aw}{np cpos pos:Pos}{args:List Expr} {fI:aw}{oI:Obj}
  (hbase:bm.contains (.type "BaseException")=true) (hh:A.handled=some (.ref x)) (hplain:(cG cpos (aW args env)).any (·.1)=false) (hi:mN "__init__"=some (.ref fI)) (hfc:oI.cls=.type "function")
  (h:aK (aL prog w) A (eval (.Name cx np) env) (fun f s₁=>f=.ref C/\aK (aL prog w) A (evalArgs (.ref C) true (cG cpos (aW args env)) [])
   (fun a s₂=>a.kw=[]/\a.pos.length<=aM/\s₂.heap.get? C=some (eQ nm q C N bs bm hdct sn sub ab col dd k0 k1 k2 k3 k5 newId)/\s₂.heap.Ns N mN/\oM s₂.heap bmB bm/\s₂.heap.get? fI=some oI /\
    ∀ h' e,iI s₂.heap h' e (.ref C) a.pos->aK (aL prog w) (A.under (.builtin "type.__call__" ⟨.ref C :: a.pos,[]⟩)) (call (.ref fI) (.ref e :: a.pos)) (fun r s'=>r=.none/\x ≠ e /\
     s'.heap.get? C=some (eQ nm q C N bs bm hdct sn sub ab col dd k0 k1 k2 k3 k5 newId)/\(∃ t dx,s'.heap.get? e=some { cls:=.ref C,data:=.fields #[.ref t,.none,.none,.none,.bool false,.none],dict:=dx }) /\
     (∃ ox vx,s'.heap.get? x=some ox/\ox.data=.fields vx/\vx[2]?=some .none)/\E (.ref e) { s' with heap:=s'.heap.update e (eJ (·.setIfInBounds 2 (.ref x))) }) E { s₂ with heap:=h' }) E s₁) E s) :
  aK (aL prog w) A (exec (.Raise (some (.Call (.Name cx np) args [] cpos)) none pos) env) Q E s:=by
 rw [arm_exec_Raise]
 refine am (cz (K1 (C:=C) (nm:=nm) (q:=q) (N:=N) (bs:=bs) (bm:=bm) (hdct:=hdct) (sn:=sn) (sub:=sub) (ab:=ab) (col:=col) (dd:=dd) (k0:=k0) (k1:=k1) (k2:=k2) (k3:=k3) (k5:=k5) (newId:=newId) hbase hh (am (aO (wpAny_Call_ofName (aO h (fun f s₁ h₁=>?_) fun _ _ x=>x)) (fun v s₃ h₃=>am (cz (aA h₃))) fun _ _ x=>x))))
 obtain ⟨rfl,h₁⟩:=h₁
 unfold gY
 refine am (cq (aO h₁ (fun a s₂ h₂=>am (cz ?_)) fun _ _ x=>x))
 obtain ⟨apos,akw⟩:=a
 obtain ⟨hkw,hlen,hC,hn,T,hf,h₂⟩:=h₂
 obtain rfl:akw=[]:=hkw
 obtain ⟨hp,g,d,tk,os⟩:=s₂
 simp only [hplain]
 refine am (wpAny_keeperOf_exc hC ?_)
 refine am (YK (hrest:=hlen) Fn hBn F T hC hn hi hf hfc fun h' e hm=>aO (h₂ h' e hm) (fun r s' hr=>⟨hr.1,am (cq (wpAny_point (aA ?_)))⟩) fun _ _ x=>x)
 obtain ⟨_,hne,hC',⟨t,dx,he⟩,⟨ox,vx,hx,hxd,hx2⟩,hE⟩:=hr
 exact ⟨e,t,dx,ox,vx,rfl,hne,hC',he,hx,hxd,hx2,hE⟩
end
end PySem
namespace L2
open PySem PySem.Spec PyProof.Rows
theorem yu {h h' base:Heap}(k:∀ b o,h.get? b=some o->(∀ vs,o.data ≠ .fields vs)->∃ o',h'.get? b=some o'/\∀ vs,o'.data ≠ .fields vs):∀ {l:List Env},h.FunFrames base l->h'.FunFrames base l
 | [],_=>trivial
 | _ :: _,⟨hk,⟨L,o,hf,hn,ho,hd⟩,hr⟩=>let ⟨o',e,d⟩:=k L o ho hd;⟨hk,⟨L,o',hf,hn,e,d⟩,yu k hr⟩
section
variable {M:oG}{A:bj}{E:aj->au->Prop}{s:au}
variable {base:Heap} {cls a0 fl:aj}
theorem Xp {l:List Env}{e L:aw} {Q:Unit->au->Prop}(hkb:base.StaysIn s.heap)(hl:s.heap.FunFrames base l)(ht:s.heap.TracedAtW base e cls a0 fl)
  (h:∀ h',base.StaysIn h'->h'.FunFrames base l->h'.TracedAtW base e cls a0 (iu L)->(∀ b o,s.heap.get? b=some o->(∀ vs,o.data ≠ .fields vs)->h'.get? b=some o)->h'.get? e=s.heap.get? e->Q () { s with heap:=h' }) :
  aK M A (lI (.ref e) (some L)) Q E s:=by
 obtain ⟨oe,vs,T,oT,ts,he,hcls,hd,h1,hnT,hTe,hT,hdT,h3⟩:=ht
 have hsz:3<ts.size:=(iJ.mp h3).1
 have other:∀ b,b ≠ T->(s.heap.update T (eJ (·.setIfInBounds 3 ((some L:Option aw).elim aj.none fun f=>iu f)))).get? b=s.heap.get? b:=fun b hb=>dS _ _ (Ne.symm hb)
 have noR:∀ b o,s.heap.get? b=some o->(∀ vs,o.data ≠ .fields vs)->b ≠ T:=fun b o hb hnf q=>by
  rw [q,hT] at hb;injection hb with hb;subst hb;exact hnf ts hdT
 unfold lI
 refine am (bO he hd h1 ?_)
 rw [if_pos (show (aj.ref T != aj.none)=true from by simp)]
 refine mM hT hdT hsz (h _ (fun b o hbo=>(other b fun q=>by rw [q,hnT] at hbo;cases hbo).trans (hkb b o hbo)) (hl.of_keeps fun b o hb hnf=>⟨o,(other b (noR b o hb hnf)).trans hb,rfl⟩) ?_ (fun b o hb hnf=>(other b (noR b o hb hnf)).trans hb) (other e (Ne.symm hTe)))
 exact ⟨oe,vs,T,_,_,(other e (Ne.symm hTe)).trans he,hcls,hd,h1,hnT,hTe,cV _ hT (Obj.isFreed_of_fields (gk hdT _)),gk hdT _,by simp [hsz]⟩
theorem yn {e:aw} {Q:aj->au->Prop}(ht:s.heap.TracedAtW base e cls a0 fl)(h:∀ T,Q (.ref T) s):aK M A (mL (.ref e) 1) Q E s:=by
 obtain ⟨oe,vs,T,oT,ts,he,hcls,hd,h1,_⟩:=ht
 exact bO he hd h1 (h T)
end
section
variable {X:Cx}{E:XK}{pins:List (aw × Obj)}{σ:St}{H:Hp}{s:au}
theorem A9 (I:Inv X pins σ H s)(hex:X.ex=[]){x:aw}{s':au}(hx0:X.s₀.heap.get? x=none)(hx:H x=none)(ho:s'.os=s.os)(hg:s'.gens=s.gens)(st:(je X s x).StaysIn s'.heap)
  (us:∀ b o,b ≠ X.env.locals->s.heap.get? b=some o->(∀ vs,o.data ≠ .fields vs)->∃ sl,s'.heap.get? b=some { o with slots:=sl }) (hs:X.stack=X.env :: X.outer):xS X.prog X.w X.outer X.H₀ X.s₀ (je X s x) H s':=by
 have nx:∀ b,b ∉ X.ex:=fun b=>by rw [hex];simp
 have hid:∀ b o o',X.s₀.heap.get? b=some o->b ∉ frs X.outer->s.heap.get? b=some o'->(je X s x).get? b=some o':=fun b o o' e hb e1=>fQ _ e1 fun z=>by
  rcases aE.mp z with rfl | z
  ·rw [hx0] at e;cases e
  ·exact I.notStk e hb z
 refine ⟨ho.trans I.os,by rw [hg];exact I.bare,st,fun b o e hb=>?_,fun b o e hb=>?_,I.ok.frf,fun b o e n=>I.base.free b o e n (nx b),I.base.tups,I.base.frzs,I.base.tbls,XW I hx⟩
 ·obtain ⟨o1,e1⟩:=I.base.there b o e (nx b)
  refine ⟨o1,hid b o o1 e hb e1,fun n=>?_⟩
  have:=I.base.keep b o e n hb (nx b)
  rw [e1] at this;cases this;rfl
 ·obtain ⟨sl,e1⟩:=I.base.slot b o e (I.ok.frf b hb) hb (nx b)
  obtain ⟨_,o2,e2,nf⟩:=I.stack.mem (yG hs hb)
  rw [e1] at e2;cases e2
  obtain ⟨sl2,e3⟩:=us b _ (I.ltS e) e1 nf
  exact ⟨sl2,e3⟩
theorem Ks (D:DX X E)(I:Inv X pins σ H s){x x1 C:aw}{d:Option aw}{oe:Obj}{vs:Array aj}{a0:aj}{h1:Heap}{n:Str}{hpos:Pos}(hl:X.env.kindOf n=some .local)
  (k:∀ b o,b ≠ x1->s.heap.get? b=some o->h1.get? b=some o) (kx:∀ o,s.heap.get? x1=some o->∃ vs,o.data=.fields vs) (he:h1.get? x1=some oe) (hc:oe.cls=.ref C) (hd:oe.dict=d) (hf:oe.data=.fields vs) (hv1:vs[1]?=some .none) (hv0:vs[0]?=some a0)
  (hx0:X.s₀.heap.get? x1=none) (hx:H x1=none) (two:Two d H) (q:E (.ref C) d H) :
  AsSuiteRaised (aL X.prog X.w) (X.A.mark (some (.ref x))) X.env n hpos (notedBy (aL X.prog X.w) (X.A.mark (some (.ref x))) X.env (cameBackBy (aL X.prog X.w) X.A X.env X.xe)) (.ref x1) { s with heap:=h1 }:=by
 have hs:=D.stk
 have hp:(X.env.scope.kind == .class || (X.env.scope.kind == .module && X.env.locals != X.env.globals))=false:=by rw [I.ok.kind];rfl
 have st1:(je X s x1).StaysIn h1:=fun b o e=>k b o (fun z=>by rw [z,je,dI _ (ck)] at e;cases e) (im _ e)
 have us1:s.heap.UpToSlots h1:=fun b o e nf=>by
  by_cases c:b=x1
  ·rw [c] at e
   obtain ⟨vs,z⟩:=kx o e
   exact absurd z (nf vs)
  ·exact ⟨o.slots,k b o c e⟩
 have fr0:s.heap.FunFrames (je X s x1) (X.env :: X.outer):=by
  have:=I.stack
  rw [hs] at this
  exact lZ this fun env he b hb=>bD _ (by rw [hs];exact eU.mpr ⟨env,he,hb⟩)
 have fr1:h1.FunFrames (je X s x1) (X.env :: X.outer):=fr0.of_keeps fun b o e nf=>by
  obtain ⟨sl,z⟩:=us1 b o e nf
  exact ⟨_,z,rfl⟩
 have xn:(je X s x1).get? x1=none:=dI _ ck
 have ln:(je X s x1).get? X.env.locals=none:=dI _ (bD _ (by rw [hs];exact eU.mpr ⟨X.env,ck,D.fr⟩))
 have hfr:(X.A.mark (some (.ref x))).frames=some (X.env :: X.outer):=by rw [<- hs];exact I.ok.frames
 have hfr':X.A.frames=some (X.env :: X.outer):=hfr
 have note1:aK (aL X.prog X.w) (X.A.mark (some (.ref x))) (gL (.ref x1) X.env) (fun _ s2=>∃ h',s2={ s with heap:=h' }/\Heap.NotedW (je X s x1) (X.env :: X.outer) x1 oe.cls a0 (iu X.env.locals) h1 h') (fun _ _=>False) { s with heap:=h1 }:=by
  unfold gL
  simp only [D.fr]
  refine am (bO he hf hv1 ?_)
  rw [if_neg (by decide)]
  exact wpAny_entryW hfr fr1 D.fr he st1 xn hf (iJ.mp hv1).1 hv0 fun h' hN=>⟨h',rfl,hN⟩
 refine aO ((ZD (.ref x1) X.env).any note1) (fun _ s2 h2=>?_) fun _ _ z=>z.elim
 obtain ⟨⟨h2,rfl,l1,l2,l3,l4⟩,sd⟩:=h2
 obtain ⟨o2,ho2,hd2,_⟩:=sd x1 oe he
 obtain ⟨m,⟨ol,es,ep,hol,hdl,rl⟩,_⟩:=id I.loc
 have lx:X.env.locals ≠ x1:=fun z=>by
  obtain ⟨vs,q⟩:=kx ol (z ▸ hol)
  rw [hdl] at q;cases q
 obtain ⟨sl,hol2⟩:=l4 _ ol (k _ ol lx hol) (fun vs q=>by rw [hdl] at q;cases q)
 refine wpAny_nameGoes_keeps hl ⟨_,es,ep,hol2,hdl,rl⟩ hp fun h3 v hn3 sb3=>?_
 have k3:∀ b,b ≠ X.env.locals->h3.get? b=h2.get? b:=fun b hb=>sb3.2 b hb
 have st3:(je X s x1).StaysIn h3:=fun b o e=>(k3 b (fun z=>by rw [z,ln] at e;cases e)).trans (l1 b o e)
 have fr3:h3.FunFrames (je X s x1) (X.env :: X.outer):=yu (fun b o e nf=>by
  by_cases c:b=X.env.locals
  ·obtain ⟨o',_,_,ho',hd',_⟩:=hn3
   exact ⟨o',c ▸ ho',fun vs q=>by rw [hd'] at q;cases q⟩
  ·exact ⟨o,(k3 b c).trans e,nf⟩) l2
 have tr3:h3.TracedAtW (je X s x1) x1 oe.cls a0 (iu X.env.locals):=by
  obtain ⟨oe',vs',T,oT,ts,g1,g2,g3,g4,g5,g6,g7,g8,g9⟩:=l3
  have lT:T ≠ X.env.locals:=fun z=>by
   rw [z,hol2] at g7;cases g7
   have g8:ol.data=.fields ts:=g8
   rw [hdl] at g8;cases g8
  exact ⟨oe',vs',T,oT,ts,(k3 _ (Ne.symm lx)).trans g1,g2,g3,g4,g5,g6,(k3 _ lT).trans g7,g8,g9⟩
 have us3:∀ b o,b ≠ X.env.locals->s.heap.get? b=some o->(∀ vs,o.data ≠ .fields vs)->∃ sl,h3.get? b=some { o with slots:=sl }:=fun b o hb e nf=>by
  obtain ⟨sl,e1⟩:=us1 b o e nf
  obtain ⟨sl2,e2⟩:=l4 b _ e1 nf
  exact ⟨sl2,(k3 b hb).trans e2⟩
 have ho3:h3.get? x1=some o2:=(k3 _ (Ne.symm lx)).trans ho2
 have hd3:o2.dict=d:=hd2.trans hd
 clear note1 sd l1 l2 l3 l4 hn3
 unfold PySem.passOn
 refine am (yn (s:=⟨h3,_,_,_,_⟩) tr3 fun T=>?_)
 rw [if_neg (show ¬ (aj.ref T == aj.none)=true from by simp)]
 rw [D.fr]
 refine am ?_
 refine Xp (s:=⟨h3,_,_,_,_⟩) st3 fr3 tr3 fun h4 st4 fr4 tr4 us4 e4=>wpAny_throw ?_
 have us4':∀ b o,b ≠ X.env.locals->s.heap.get? b=some o->(∀ vs,o.data ≠ .fields vs)->∃ sl,h4.get? b=some { o with slots:=sl }:=fun b o hb e nf=>by
  obtain ⟨sl,e1⟩:=us3 b o hb e nf
  exact ⟨sl,us4 b _ e1 nf⟩
 have ho4:h4.get? x1=some o2:=e4.trans ho3
 unfold notedBy
 refine ma D.fr tr4 ?_
 unfold cameBackBy
 refine am (yn (s:=⟨h4,_,_,_,_⟩) tr4 fun T=>?_)
 rw [if_neg (show ¬ (aj.ref T == aj.none)=true from by simp)]
 rw [D.fr]
 refine Xp (s:=⟨h4,_,_,_,_⟩) st4 fr4 tr4 fun h5 st5 fr5 tr5 us5 e5=>?_
 have us5':∀ b o,b ≠ X.env.locals->s.heap.get? b=some o->(∀ vs,o.data ≠ .fields vs)->∃ sl,h5.get? b=some { o with slots:=sl }:=fun b o hb e nf=>by
  obtain ⟨sl,e1⟩:=us4' b o hb e nf
  exact ⟨sl,us5 b _ e1 nf⟩
 have ho5:h5.get? x1=some o2:=e5.trans ho4
 rw [D.xe]
 unfold leaving
 refine am (ma D.fr tr5 ?_)
 refine aO ((xw (.ref x1) none).any (wpAny_landsW (s:=⟨h5,_,_,_,_⟩) (E:=fun _ _=>False) (Q:=fun _ s6=>∃ h6,s6=⟨h6,_,_,_,_⟩/\fL (je X s x1) (X.env :: X.outer) x1 oe.cls a0 h6/\h5.UpToSlots h6) ⟨st5,xn,fr5,tr5⟩ fun h6 f6 u6=>⟨h6,rfl,f6,u6⟩)) (fun _ s6 h6=>?_) fun _ _ z=>z.elim
 obtain ⟨⟨h6,rfl,f6,u6⟩,sd6⟩:=h6
 obtain ⟨o6,ho6,hd6,_⟩:=sd6 x1 o2 ho5
 rw [hc] at f6
 refine ⟨x1,C,d,H,rfl,⟨⟨je X s x1,a0,A9 I D.ex (s':=⟨h6,_,_,_,_⟩) hx0 hx rfl rfl f6.1 (fun b o hb e nf=>?_) hs,f6.1,xn,f6.2.2.1.2.2,f6.2.2.2⟩,o6,ho6,hd6.trans hd3,.inr two⟩,q⟩
 obtain ⟨sl,e1⟩:=us5' b o hb e nf
 obtain ⟨sl2,e2⟩:=u6 b _ e1 nf
 exact ⟨sl2,e2⟩
end
open PySem.W (Looks InstAt findIn findObj subIn mroIn clsIn takerIn hasDictIn)
structure yW (k:Nat)(A:bj):Prop where
 gd:A.guards=some []
 dp:A.depth+3 * k+5<gC
 un:A.units+16 * k+200<fW
theorem qk.h {k:Nat}{A:bj}(r:qk k A)(h:Option aj):yW k (A.mark h):=⟨r.gd,r.dp,r.un⟩
variable {j k:Nat} {A:bj}
theorem yW.mono (r:yW k A)(h:j<=k):yW j A:=⟨r.gd,by have:=r.dp;omega,by have:=r.un;omega⟩
theorem yW.make (r:yW (k+1) A)(C:aw)(us:List aj)(kw:List (Str × aj)):yW k (A.under (.builtin "type.__call__" ⟨.ref C :: us,kw⟩)):=
 ⟨(yU).trans r.gd,by have:=r.dp;rw [wb];omega,by have:=r.un;rw [vV];omega⟩
def FnH (P:aX)(w:bB)(K:ax)(mg:Str->Option aj)(base:Heap)(k:Nat)(f:aw)(fd:dE)(ps:List Str)(sp:Sp):Prop:=
 ∀ (A:bj) (x:aw) (outer:List Env) (s:au) (H:Hp) (args:Args) (us:List aj) (vs:List V) (Q:VK) (E:XK),A.handled=some (.ref x)->yW k A->Qy P w K mg base A outer s H->lM s fd args (ps.zip us)->zw vs us->sp vs H Q E ->
  dR (aL P w) A (.call (.ref f) args) (CR CX0 outer P w H s Q E) s
variable {P:aX} {w:bB} {K:ax} {mg:Str->Option aj} {base:Heap} {f:aw} {fd:dE} {ps:List Str}
theorem FnH.mono {sp:Sp}(F:FnH P w K mg base j f fd ps sp)(h:j<=k):FnH P w K mg base k f fd ps sp:=
 fun A x outer s H args us vs Q E hh hr=>F A x outer s H args us vs Q E hh (hr.mono h)
theorem Lx {P:aX}{w:bB}{K:ax}{mg:Str->Option aj}{base:Heap}{k:Nat}{f:aw}{name qual:Str}{params:Arguments}{body:List de}{scope:Scope}{dV kV doc pm cdv ct oc:aj}{an od:Option aw}
  {osl:Array (Option aj)} {N ps:List Str} {sp:Sp} (lk:K.lookup f=some ⟨oc,od,.func (bY name qual params body scope dV kV doc pm an cdv ct),osl⟩) (hcd:fB K cdv qual=true) (S:zr N ps scope)
  (len:∀ vs H Q E,sp vs H Q E->vs.length=ps.length)
  (hbody:∀ (A:bj) (outer:List Env) (s:au) (H:Hp) (vs:List V) (Q:VK) (E:XK) (x:aw),sp vs H Q E ->
   ∃ t,PSs ((jA CX0 P w K mg base N qual scope f cdv A outer s H E).inside x) body t/\t { nx:=fun _ H'=>Q .non H',rt:=Q } (start N vs) H) :
  FnH P w K mg base k f (bY name qual params body scope dV kV doc pm an cdv ct) ps sp:=by
 intro A x outer s H args us vs Q E hh hr e0 hb r hsp
 have hl:=len _ _ _ _ hsp
 obtain ⟨h0,dp,fr,gd,un⟩:=A
 obtain rfl:h0=some (.ref x):=hh
 have KX:K.In s.heap:=e0.mod.kin.keeps fun b o e=>(e0.bs b o e).1
 have lim:s.heap.NoLimit:=e0.mod.nolimit.keeps fun b o e=>(e0.bs b o e).1
 have hkind:∀ y ∈ ps.zip us,scope.names.lookup y.1=some .local \/ (scope.names.lookup y.1=some .cell/\((oj (s.heap.objs.size+1) scope.names []).lookup y.1).isSome=true):=fun ⟨n,v⟩ hy=>by
  rcases S.par n (hU hy).1 with q | q
  ·exact .inl q
  ·exact .inr ⟨q,gD _ _ _ (.inl q)⟩
 have hdp:dp<gC:=by have:dp+3 * k+5<gC:=hr.dp;omega
 refine codeAny_call_function hdp (KX _ _ lk) rfl S.co S.gen rfl (ny KX hcd) (hb _ _ _ _ ?_)
 refine wpAny_newFunctionEnv_cells S.kind hkind fun env he s1 xx=>?_
 subst he
 refine ⟨lim.keeps xx.toInCall.keep,codeAny_func ?_⟩
 obtain ⟨t,ht,hq⟩:=hbody ⟨none,dp,fr,gd,un⟩ outer s H vs Q E x hsp
 have e0':Qy P w K mg base ⟨none,dp,fr,gd,un⟩ outer s H:=⟨e0.frames,e0.mod,e0.bs,e0.bsz,e0.funs,e0.frf,e0.hok,e0.bare⟩
 have I:Inv ((jA CX0 P w K mg base N qual scope f cdv ⟨none,dp,fr,gd,un⟩ outer s H E).inside x) [] (start N vs) H s1:=(wM S rfl e0' hl r xx).inside x
 refine aO (ht [] s1 (start N vs) H _ I hq) (fun fl s' hs=>?_) fun e s' hs=>hs.elim
 have fin:∀ {σ':St} {H':Hp} {v:V} {u:aj},Inv ((jA CX0 P w K mg base N qual scope f cdv ⟨none,dp,fr,gd,un⟩ outer s H E).inside x) [] σ' H' s'->zv v u->Q v H'->CE outer P w H s Q u s':=
  fun {σ' H' v u} J rv q=>⟨v,H',J.os,J.bare,J.base,J.hok,rv,q⟩
 cases fl with
 | ret u=>
  obtain ⟨v,σ',H',J,rv,q⟩:=hs
  exact fin J rv q
 | next=>
  obtain ⟨σ',H',J,q⟩:=hs
  exact fin (v:=V.non) (u:=aj.none) J rfl q
 | brk=>
  obtain ⟨_,_,_,q⟩:=hs
  exact bU q
 | cont=>
  obtain ⟨_,_,_,q⟩:=hs
  exact bU q
def QK (P:aX)(w:bB)(K:ax)(mg:Str->Option aj)(base:Heap)(C:aw)(k n:Nat)(fn:List V->List (Str × V)):Prop:=
 ∃ f fd ps,jM K C vC "ValueError.__new__" f=true/\FnH P w K mg base k f fd ps (spI C n fn)/\jt K fd ps []/\(∃ oI,K.lookup f=some oI/\oI.cls=.type "function")/\ps.length=n+1
variable {C:aw} {n:Nat}
theorem QK.mono {fn:List V->List (Str × V)}(m:QK P w K mg base C j n fn)(h:j<=k):QK P w K mg base C k n fn:=
 let ⟨f,fd,ps,q,F,r⟩:=m
 ⟨f,fd,ps,q,F.mono h,r⟩
theorem Gi {qual:Str}{st:de}{N ps:List Str} {fn:List V->List (Str × V)}(F:Fun K "__init__" qual st f fd)(S:zr N ps (zf st))
  (hb:∀ (kV doc pm:aj) (an:Option aw) (cdv ct:aj) (us:List aj),us.length=ps.length->fA (bY "__init__" qual (qp st) (zP st) (zf st) .none kV doc pm an cdv ct) ⟨us,[]⟩=pure (ps.zip us))
  (q:jM K C vC "ValueError.__new__" f=true) (hf:dF K (.ref f)=true) (hl:ps.length=n+1)
  (hbody:∀ (cdv:aj) (A:bj) (outer:List Env) (s:au) (H:Hp) (E:XK) (x:aw),∃ t,PSs ((jA CX0 P w K mg base N qual (zf st) f cdv A outer s H E).inside x) (zP st) t /\
   ∀ (a t0:aw) (us:List V) (Q:VK),us.length=n->H a=some (kh a C t0 none)->(∀ dx,H dx=none->dx ≠ a->Q .non (upd (upd H a (kh a C t0 (some dx))) dx (XdE dx (fn us))))->t { nx:=fun _ H'=>Q .non H',rt:=Q } (start N (.ref a :: us)) H):QK P w K mg base C k n fn:=by
 have bd:=F.binds hb
 obtain ⟨oc,od,kV,doc,pm,an,cdv,ct,osl,rfl,lk,hcd⟩:=F.ex
 have hfc:∃ oI,K.lookup f=some oI/\oI.cls=.type "function":=by
  refine ⟨_,lk,?_⟩
  have hf':=beq_iff_eq.mp hf
  have hf':Option.map (fun x:Obj=>x.cls) (K.lookup f)=some (.type "function"):=hf'
  rw [lk] at hf'
  exact bC hf'
 refine ⟨f,_,ps,q,Lx lk hcd S (fun vs H Q E ⟨a,t,us,e,l,_⟩=>by rw [e,aN,l,hl]) fun A outer s H vs Q E x ⟨a,t0,us,e,l,ha,hq⟩=>?_,bd,hfc,hl⟩
 obtain ⟨t,h1,h2⟩:=hbody cdv A outer s H E x
 subst e
 exact ⟨t,h1,h2 a t0 us Q l ha hq⟩
open PySem.W (Looks InstAt findIn findObj subIn mroIn clsIn takerIn hasDictIn)
noncomputable def QI (a C:aw)(d:Option aw):HO:=.ext fun h=>∃ o,h.get? a=some o/\o.cls=.ref C/\o.dict=d/\∃ vs,o.data=.fields vs/\vs[2]?=some .none
theorem Gw {H:Hp}{h:Heap}{a C:aw}{d:Option aw}{o:Obj}{vs:Array aj}(e:h.get? a=some o)(hc:o.cls=.ref C)(hd:o.dict=d)(hf:o.data=.fields vs)(h2:vs[2]?=some .none):zM P w H h a (QI a C d):=
 ⟨⟨o,e,hc,hd,vs,hf,h2⟩,⟨o,e⟩,fun _ _ ⟨o,e,r⟩ k=>⟨o,k o e,r⟩⟩
noncomputable def ehR (K:ax)(i:Nat)(T C2:aw)(n:Nat)(fn:List V->List (Str × V))(E:XK)(ta:TA):St->XK:=fun σ1 c d H1=>∃ C,c=.ref C/\d9 K (.ref C) (.ref T)=some true/\¬ Two d H1 /\
 ∀ x,H1 x=none->ta (σ1.set i (some (.ref x))) (upd H1 x (QI x C d)) fun vs H2=>vs.length=n/\n<=1000/\H2 x=some (QI x C d)/\∀ dx,H2 dx=none->E (.ref C2) (some dx) (upd H2 dx (.xd (fn vs)))
noncomputable def Ar (K:ax)(i:Nat)(T C2:aw)(n:Nat)(fn:List V->List (Str × V))(E:XK)(tb:(St->XK)->TS)(ta:TA):TS:=fun D σ H=>tb (ehR K i T C2 n fn E ta) D σ H
section
variable {X:Cx}{E:XK}{body:List de}{n tx cx:Str}{i k nn:Nat}{T C2:aw}{np cp cpos rpos hpos pos:Pos}{tb:(St->XK)->TS}{ta:TA}{e1:Expr}{es:List Expr}{fn:List V->List (Str × V)}
theorem Fa (D:DX X E)(nd:X.N.Nodup)(hi:X.N[i]?=some n)(hl:X.env.kindOf n=some .local)(hg:Gl X tx)(hm:X.mg tx=some (.ref T))(m:QK X.prog X.w X.K X.mg X.base C2 k nn fn)(hr:qk (k+1) X.A)(hgc:Gl X cx)(hmc:X.mg cx=some (.ref C2))
  (hf2:∀ vs,2<=(fn vs).length) (hb:∀ (pins:List (aw × Obj)) (xe:aj->au->Prop) (Eh:St->XK),yZ (CX1 X.prog X.w) (X.tried pins xe) Eh->PSs (X.tried pins xe) body (tb Eh)) (ha:∀ x,PA (X.inside x) (e1 :: es) ta)
  (hdb:(tx == ("__debug__":Str))=false:=by decide) (hdc:(cx == ("__debug__":Str))=false:=by decide) (he:aW (e1 :: es) X.env=(false,eval e1 X.env) :: aW es X.env:=by rfl) (hpl:(cG cpos (aW es X.env)).any (·.1)=false:=by rfl) :
  PS X (.Try body [.ExceptHandler (some (.Name tx np)) (some n) [.Raise (some (.Call (.Name cx cp) (e1 :: es) [] cpos)) none rpos] hpos] [] [] pos) (Ar X.K i T C2 nn fn E tb ta):=by
 intro pins s σ H De I h
 have hs:=D.stk
 have hf:=D.fr
 have hex:=D.ex
 refine wpAny_Try_except (aO (hb pins (fun e s'=>∃ σ1 H1 s1,Inv X pins σ1 H1 s1/\CX1 X.prog X.w X.stack H1 s1 (ehR X.K i T C2 nn fn E ta σ1) e s') (ehR X.K i T C2 nn fn E ta) (fun pins' σ1 H1 s1 e s' I1 c=>⟨σ1,H1,s1,I1.untried,c⟩) [] s σ H De (I.tried _) h) (fun f s1 q=>?_) fun e s1 q=>?_)
 ·have q:=q.untried
  cases f with
  | next=>exact fY q
  | brk=>exact q
  | cont=>exact q
  | ret u=>exact q
 ·obtain ⟨σ1,H1,s1',I1,x,C,d,H',rfl,⟨⟨B,a0,a,fl⟩,hd⟩,C',eC,hx,ntw,q⟩:=q
  cases eC
  refine yQ.noted I.ok hs hf ⟨a,fl,hd⟩ fun s3 h3=>?_
  obtain ⟨hx0,I3⟩:=Air.here I1 hs hf hex h3.1 h3.2.1 h3.2.2
  refine wpAny_handleBy_cons (codeAny_handlers_test (jB (I3.inside x) hg hm ?_ hdb)) (by intro z;cases z)
  obtain ⟨oe,vs,he1,hc,_⟩:=h3.2.1.first
  have LT:e9 (aL X.prog X.w) s3.heap (typeOf (.ref x)) (.ref C):=hc ▸ (e9.ld he1).andThen .now
  refine (PySem.W.exm_one I3.kIn LT hx).here ?_
  refine codeAny_handlers_suite_as (h3.lands fun s4 h4=>?_)
  obtain ⟨_,I4⟩:=Air.here I1 hs hf hex h4.1 h4.2.1 h4.2.2
  have I4:Inv X pins σ1 (upd H' x (QI x C d)) s4:=by
   obtain ⟨o,ho,hdo,h2o⟩:=h4.2.2
   obtain ⟨o',vs',ho',hc',hd',_⟩:=h4.2.1.first
   rw [ho] at ho';cases ho'
   have h2o:fl2 o=some .none:=h2o.resolve_right ntw
   have h2v:vs'[2]?=some .none:=by unfold fl2 at h2o;rw [hd'] at h2o;exact h2o
   have:=I4.write (x:=x) (e:=x) (h':=s4.heap) (t':=s4.toks) (o:=QI x C d) (by rw [zj];exact True.intro) (.inl rfl) (fun _ _ _ z=>z) ⟨o,ho⟩ (Gw ho hc' hdo hd' h2v)
   rw [xy] at this
   exact this
  refine xg I4 nd hi (bf hl) (show zv (.ref x) (.ref x) from rfl) (fun s5 I5=>?_) (.inr hl)
  obtain ⟨fI,fd,ps,qI,F,hbI,⟨oI,lk,hfc⟩,hps⟩:=m
  obtain ⟨bm,N,nm,qn,bs,hdct,sn,sub,ab,col,dd,k0,k1,k2,k3,k5,mN,hC,hN,hii,TT⟩:=Q3 I.ok.mod.kin qI
  refine lr ?_
  refine Lr (C:=C2) (nm:=nm) (q:=qn) (N:=N) (bs:=bs) (bm:=bm) (hdct:=hdct) (sn:=sn) (sub:=sub) (ab:=ab) (col:=col) (dd:=dd) (k0:=k0) (k1:=k1) (k2:=k2) (k3:=k3) (k5:=k5)
   cN (by decide) cN (mN:=mN) (TT.hasType cN.hasBase) rfl (by rw [he];show (false || (cG cpos (aW es X.env)).any (·.1))=false;rw [hpl];rfl) hii hfc (jB (I5.inside x) hgc hmc ⟨rfl,?_⟩ hdc)
  have this:=ha x cpos pins s5 _ _ _ (I5.inside x) (q x hx0)
  have this:aK (aL X.prog X.w) (X.A.mark (some (.ref x))) (spliced (cG cpos (aW (e1 :: es) X.env))) _ (fun _ _=>False) s5:=this
  rw [he] at this ⊢
  refine fD (aO this (fun us s2 h2=>?_) fun _ _ y=>y.elim)
  obtain ⟨vs2,H2,I6,r,hlv,hnn,hxq,q1⟩:=h2
  have hlu:us.length=nn:=by rw [<- r.length];exact hlv
  refine ⟨rfl,by rw [hlu,cC];omega,I6.bk _ _ hC,hN.keeps I6.bk,TT.keeps I6.bk,I6.kIn _ _ lk,fun h' x1 hx1=>?_⟩
  obtain ⟨t1,ho,_,_⟩:=hx1.there
  have nx:s2.heap.get? x1=none:=hx1.new
  have hx10:X.s₀.heap.get? x1=none:=by
   cases z:X.s₀.heap.get? x1 with
   | none=>rfl
   | some o=>
    obtain ⟨o',e'⟩:=I6.base.there x1 o z (by show x1 ∉ X.ex;rw [D.ex];simp)
    rw [nx] at e';cases e'
  have hx11:H2 x1=none:=by
   cases z:H2 x1 with
   | none=>rfl
   | some o=>
    obtain ⟨u,e'⟩:=(I6.hok x1 o z).here
    rw [nx] at e';cases e'
  have J2:Inv (X.inside x) pins _ H2 { s2 with heap:=h' }:=I6.kept (t':=s2.toks) hx1.keeps
  have J3:Inv (X.inside x) pins _ (upd H2 x1 (kh x1 C2 t1 none)) { s2 with heap:=h' }:=J2.track hx11 hx10 (fun z=>by
    obtain ⟨mm,⟨o,_,_,e',_⟩,_⟩:=I6.loc
    rw [<- z,nx] at e';cases e') (fun y c e' z=>by
    obtain ⟨v,o,e2,_⟩:=I6.cell y c e'
    rw [z,nx] at e2;cases e2) (fun p hp z=>by
    have:=(I6.pin p hp).1
    rw [z,nx] at this;cases this) (ZV ho)
  have r2:zw (V.ref x1 :: vs2) (aj.ref x1 :: us):=.cons rfl r
  have hl2:(aj.ref x1 :: us ++ []).length=ps.length:=by rw [cu,aN,hlu,hps]
  have b1:=hbI { s2 with heap:=h' } (aj.ref x1 :: us) J3.kIn hl2
  rw [cu] at b1
  refine iA (fH (F _ x X.stack _ _ ⟨aj.ref x1 :: us,[]⟩ (aj.ref x1 :: us) (V.ref x1 :: vs2) (fun v H3=>v=.non/\∃ dx,H2 dx=none/\dx ≠ x1/\H3=upd (upd H2 x1 (kh x1 C2 t1 (some dx))) dx (XdE dx (fn vs2))) E rfl ((hr.h _).make C2 us []) (J3.env0.make C2 us []) b1 r2 ⟨x1,t1,vs2,rfl,hlv,zj,fun dx hd hne=>⟨rfl,dx,?_,hne,by rw [xy]⟩⟩) fun r s' hq'=>?_)
  ·rw [zg hne] at hd;exact hd
  cases r with
  | error e=>exact bU hq'
  | ok fl=>
   cases fl with
   | ret u=>
    obtain ⟨v,H3,J4,rv,ev,dx,d1,d2,eH⟩:=J3.after hq'
    subst ev eH
    have hcl:=J4.bk _ _ hC
    have hexo:s'.heap.get? x1=some (VC C2 t1 (some dx)):=by
     have:=J4.hok x1 (kh x1 C2 t1 (some dx)) (by rw [zg (Ne.symm d2),zj])
     exact this.1
    have xx1:x ≠ x1:=fun z=>by rw [z,hx11] at hxq;cases hxq
    have xdx:x ≠ dx:=fun z=>by rw [z,d1] at hxq;cases hxq
    have hxo:∃ ox vx,s'.heap.get? x=some ox/\ox.data=.fields vx/\vx[2]?=some .none:=by
     obtain ⟨⟨o,g1,_,_,vx,g2,g3⟩,_⟩:=J4.hok x (QI x C d) (by rw [zg xdx,zg xx1];exact hxq)
     exact ⟨o,vx,g1,g2,g3⟩
    refine ⟨rv,xx1,hcl,⟨t1,some dx,hexo⟩,hxo,?_⟩
    have J5:=J4.drop (x:=x1) (by rw [zg (Ne.symm d2),zj];exact True.intro) hx10
    have eH:(fun b=>if b=x1 then none else upd (upd H2 x1 (kh x1 C2 t1 (some dx))) dx (XdE dx (fn vs2)) b)=upd H2 dx (XdE dx (fn vs2)):=by
     funext b
     by_cases c:b=x1
     ·rw [if_pos c,c,zg (Ne.symm d2)];exact hx11.symm
     ·rw [if_neg c]
      by_cases c2:b=dx
      ·rw [c2,zj,zj]
      ·rw [zg c2,zg c,zg c2]
    rw [eH] at J5
    obtain ⟨⟨mA,hn1,hr1,_⟩,⟨od,hod⟩,_⟩:=J5.hok dx (XdE dx (fn vs2)) zj
    have J6:=J5.write (x:=dx) (e:=dx) (h':=s'.heap) (t':=s'.toks) (o:=.xd (fn vs2)) (by rw [zj];exact True.intro) (.inl rfl) (fun _ _ _ z=>z) ⟨od,hod⟩ ⟨mA,hn1,hr1⟩
    rw [xy] at J6
    have J7:Inv X pins _ (upd H2 dx (.xd (fn vs2))) s':=J6.outside I.ok
    have hup:=cV (eJ (·.setIfInBounds 2 (.ref x))) hexo rfl
    exact Ks D J7 hl (fun b o hb e'=>(dS _ _ (Ne.symm hb)).trans e') (fun o z=>by rw [hexo] at z;cases z;exact ⟨_,rfl⟩) hup rfl rfl rfl rfl rfl hx10 (by rw [zg (Ne.symm d2)];exact hx11) ⟨dx,_,rfl,zj,hf2 _⟩ (q1 dx d1)
   | next=>exact bU hq'
   | brk=>exact bU hq'
   | cont=>exact bU hq'
end
open PySem.W (Looks InstAt findIn findObj subIn mroIn clsIn takerIn hasDictIn)
noncomputable def Xh (K:ax)(ta:TE)(f:Str):TE:=fun σ H Q=>ta σ H fun x H1=>∃ a C dx fs v,x=.ref a/\H1 a=some (QI a C (some dx))/\H1 dx=some (.xd fs)/\Iq K C/\fc K C=true/\fh K (.ref C) f=some none/\fs.lookup f=some v/\Q v H1
section
variable {X:Cx}{e:Expr}{ta:TE}{f:Str}{pos:Pos}{K:ax}
theorem BX (he:PE X e ta)(hb:eE e f X.env (eval e X.env)=eval e X.env):PE X (.Attribute e f pos) (Xh X.K ta f):=by
 intro pins s σ H Q I h
 refine Xy hb (thn (he pins s σ H _ I h) fun u s1 ⟨x,H1,I1,rx,a,C,dx,fs,v,ex,ea,ed,c,hh,hn,l,q⟩=>?_)
 subst ex
 obtain rfl:u=aj.ref a:=rx
 obtain ⟨⟨oa,g1,g2,g3,vs,g4,_⟩,_,_⟩:=I1.hok a _ ea
 obtain ⟨mA,hns,hr⟩:=I1.hok dx _ ed
 obtain ⟨od,ho,hl⟩:=wL hns
 have hv:=hr f
 rw [l] at hv
 cases z:mA f with
 | none=>rw [z] at hv;exact hv.elim
 | some u'=>
  rw [z] at hv
  have J:InstAt s1.heap a oa C (some od):=⟨g1,g2,by unfold mR;rw [g4],by rw [g3];exact ho⟩
  refine Lm I1.kIn J c.bx c.ga c.gt (JH hh hn (by rw [hl,z])) (Zh hv) ⟨v,H1,I1.tok _,hv,q⟩
theorem Vm (h:X.K=K)(he:PE X e ta)(hb:eE e f X.env (eval e X.env)=eval e X.env):PE X (.Attribute e f pos) (Xh K ta f):=h ▸ BX he hb
end
noncomputable def GL (K:ax)(i j:Nat)(T C2:aw)(f:Str)(fn:List V->List (Str × V))(EA:ASt->AXK)(ab:(ASt->AXK)->AS):AS:=fun B D ρ M=>
 ab (fun ρ1 C fs M1=>d9 K (.ref C) (.ref T)=some true/\∃ (a:Int) (v:V),ρ1[j]?=some (some (.d (.int a)))/\fs=[(f,v)]/\Iq K C/\fc K C=true/\fh K (.ref C) f=some none/\i ≠ j/\i<ρ1.length/\EA ρ1 C2 (fn [.int a,v]) M1) B D ρ M
section
variable {HX:Hp}{OX:Own}{MX:MH}{K:ax}{i j:Nat}{T C2:aw}{f:Str}{fn:List V->List (Str × V)}{E:XK}{EA:ASt->AXK}{tb:(St->XK)->TS}{ab:(ASt->AXK)->AS}
theorem Ve (hE:EXs HX OX MX (fun _=>E) EA)(hb:∀ (H0:Hp) (O0:Own) (M0:MH) (E:St->XK) (EA:ASt->AXK),EXs H0 O0 M0 E EA->kj H0 O0 M0 (tb E) (ab EA)) :
  kj HX OX MX (Ar K i T C2 2 fn E tb (qW (qT j) (qW (Xh K (qT i) f) vF))) (GL K i j T C2 f fn EA ab):=
 ⟨fun {H0 O0 M0 D D' σ H O ρ M} kx w0 w e x q Dd=>(hb H0 O0 M0 _ _ ⟨fun σ1 ρ1 C fs M1 H1 O1 d q1 k1 w1 e1 xd=>by
  obtain ⟨hx,a,v,hj,rfl,xc,hh,hn,ij,il,q2⟩:=q1
  obtain ⟨dx,rfl,h1,h2,h3⟩:∃ dx,d=some dx/\H1 dx=some (.xd [(f,v)])/\O1 dx/\M1 dx=none:=by
   rcases xd with ⟨_,z⟩ | xd
   ·cases z
   ·exact xd
  refine ⟨C,rfl,hx,fun ⟨dx',fs',z1,z2,z3⟩=>?_,fun y hy=>?_⟩
  ·cases z1
   rw [h1] at z2;cases z2
   simp at z3
  obtain ⟨u,g1,g2⟩:=e1.get j _ hj
  obtain rfl:=zQ g2
  have ydx:dx ≠ y:=fun z=>by rw [z,hy] at h1;cases h1
  refine ⟨.int a,by rw [cL ij];exact g1,?_⟩
  refine ⟨.ref y,by rw [dg (by rw [e1.len];exact il)],y,C,dx,[(f,v)],v,rfl,zj,by rw [zg ydx];exact h1,xc,hh,hn,by simp,?_⟩
  refine ⟨rfl,by decide,zj,fun dx2 hd2=>?_⟩
  have k2:=qv w1 hy (QI y C (some dx))
  have w2:=j6 w1 hy (QI y C (some dx)) (fun _ z=>nomatch z)
  have k3:=qv w2 hd2 (.xd (fn [.int a,v]))
  have w3:=j6 w2 hd2 (.xd (fn [.int a,v])) (fun _ z=>nomatch z)
  exact hE.go _ _ C2 (fn [.int a,v]) M1 _ _ (some dx2) q2 (((kx.trans k1).trans k2).trans k3) w3 (e1.ext (k2.trans k3)) (.inr ⟨dx2,rfl,zj,.inl rfl,(w2.fresh hd2).2⟩)⟩).go .refl w0 w e x q Dd⟩
end
section
variable {X:Cx}{K:ax}{E:XK}{body:List de}{n tx cx:Str}{i k nn:Nat}{T C2:aw}{np cp cpos rpos hpos pos:Pos}{tb:(St->XK)->TS}{ta:TA}{e1:Expr}{es:List Expr}{fn:List V->List (Str × V)}
theorem AY (h:X.K=K)(D:DX X E)(nd:X.N.Nodup)(hi:X.N[i]?=some n)(hl:X.env.kindOf n=some .local)(hg:Gl X tx)(hm:X.mg tx=some (.ref T))(m:QK X.prog X.w X.K X.mg X.base C2 k nn fn)(hr:qk (k+1) X.A)(hgc:Gl X cx)(hmc:X.mg cx=some (.ref C2))
  (hf2:∀ vs,2<=(fn vs).length) (hb:∀ (pins:List (aw × Obj)) (xe:aj->au->Prop) (Eh:St->XK),yZ (CX1 X.prog X.w) (X.tried pins xe) Eh->PSs (X.tried pins xe) body (tb Eh)) (ha:∀ x,PA (X.inside x) (e1 :: es) ta)
  (hdb:(tx == ("__debug__":Str))=false:=by decide) (hdc:(cx == ("__debug__":Str))=false:=by decide) (he:aW (e1 :: es) X.env=(false,eval e1 X.env) :: aW es X.env:=by rfl) (hpl:(cG cpos (aW es X.env)).any (·.1)=false:=by rfl) :
  PS X (.Try body [.ExceptHandler (some (.Name tx np)) (some n) [.Raise (some (.Call (.Name cx cp) (e1 :: es) [] cpos)) none rpos] hpos] [] [] pos) (Ar K i T C2 nn fn E tb ta):=h ▸ Fa D nd hi hl hg hm m hr hgc hmc hf2 hb ha hdb hdc he hpl
end
noncomputable def GI (b:AA)(n:Nat)(ag:AGs):AS:=fun _ D ρ M=>b ρ M fun xs M1=>xs.length=n/\n<=aM/\ag xs ρ M1 fun ρ2 M3=>D.nx ρ2 M3
theorem Ei {u:TA}{b:AA} {gs:TGs}{ag:AGs}(h:jq u b)(hg:Q9 gs ag):jg (ZE (FT u) (Kr K n gs)) (GI b n ag):=⟨fun _ w e x q E=>h.go w e q fun xs M1 vs H1 O1 q1 k1 w1 r1=>
 ⟨by rw [r1.1,q1.1];exact q1.2.1,fun p hp=>
  have k2:=z0 w1 hp (.tup vs)
  ⟨p,vs,rfl,SqT.of zj,r1.1.trans q1.1,hg.go (jP w1 hp _) (e.ext (k1.trans k2)) (r1.ext k2) q1.2.2 fun σ3 H3 O3 ρ3 M3 q3 k3 w3 e3=>E.nx _ _ _ _ _ w3 e3 (((x.trans k1).trans k2).trans k3) q3⟩⟩⟩
section
variable {X:Cx}
end
structure Ba where
 nx:ASt->MH->Prop
 rt:List AV->MH->Prop
abbrev AST:=MH->Ba->ASt->MH->Prop
structure Nk (t:TS)(a:AST):Prop where
 go:∀ {H0:Hp} {O0:Own} {M0:MH} {Q:VK} {D':Ba} {σ:St} {H:Hp} {O:Own} {ρ:ASt} {M:MH} {nx:St->Hp->Prop},Wf H0 O0 M0->Wf H O M->Er H O M σ ρ->Ext H0 O0 M0 H O M->a M0 D' ρ M ->
  (∀ ys M' us H' O' p,D'.rt ys M'->Ext H0 O0 M0 H' O' M'->Wf H' O' M'->H' p=some (.tup us)->zi H' O' M' us ys->Q (.ref p) H')->t { nx:=nx,rt:=Q } σ H
end L2
namespace L2
open PySem PyProof.Rows
noncomputable def kn (p:cO):Int:=numOf p.1
def LEr (rk:cO->Int)(p q:cO):Prop:=kn p<kn q \/ (kn p=kn q/\rk p<=rk q)
section
variable {rk:cO->Int}{p q r:cO}
end
def IsI (p:cO):Prop:=∃ n t,p.1=aj.int n t
section
variable {prog:aX}{w:bB}{A:bj}{E:aj->au->Prop}{s:au}
end
noncomputable def byd (left:Bool)(key x:cO):Bool:=if left then decide (kn x<kn key) else !decide (kn key<kn x)
structure Cut (left:Bool)(key:cO)(f:Nat->cO)(n k:Nat):Prop where
 le:k<=n
 lo:∀ i,i<k->byd left key (f i)=true
 hi:∀ i,k<=i->i<n->byd left key (f i)=false
section
variable {prog:aX}{w:bB}{A:bj}{E:aj->au->Prop}{s:au}
end
end L2
namespace L2
open PySem PyProof.Rows
section
variable {rk:cO->Int}
structure MLo (rk:cO->Int)(X Y:List cO)(a b:Nat)(o:List cO):Prop where
 la:a<=X.length
 lb:b<=Y.length
 perm:o.Perm (X.take a ++ Y.take b)
 pw:o.Pairwise (LEr rk)
 lx:∀ x ∈ o,∀ y ∈ X.drop a,LEr rk x y
 ly:∀ x ∈ o,∀ y ∈ Y.drop b,LEr rk x y
structure Nm (rk:cO->Int)(X Y:List cO):Prop where
 px:X.Pairwise (LEr rk)
 py:Y.Pairwise (LEr rk)
 bel:∀ x ∈ X,∀ y ∈ Y,rk x<=rk y
 ix:∀ x ∈ X,IsI x
 iy:∀ y ∈ Y,IsI y
variable {X Y o:List cO}{a b:Nat}
end
section
variable {prog:aX}{w:bB}{A:bj}{E:aj->au->Prop}{s:au}{rk:cO->Int}
end
end L2
namespace L2
open PySem PyProof.Rows
section
variable {prog:aX}{w:bB}{A:bj}{E:aj->au->Prop}{s:au}{rk:cO->Int}
end
end L2
namespace L2
open PySem PyProof.Rows
section
variable {rk:cO->Int}{X Y o:List cO}{a b:Nat}
structure MHi (rk:cO->Int)(X Y:List cO)(a b:Nat)(o:List cO):Prop where
 la:a<=X.length
 lb:b<=Y.length
 perm:o.Perm (X.drop a ++ Y.drop b)
 pw:o.Pairwise fun p q=>LEr rk q p
 lx:∀ x ∈ o,∀ y ∈ X.take a,LEr rk y x
 ly:∀ x ∈ o,∀ y ∈ Y.take b,LEr rk y x
end
section
variable {prog:aX}{w:bB}{A:bj}{E:aj->au->Prop}{s:au}{rk:cO->Int}
end
end L2
namespace L2
open PySem PyProof.Rows
noncomputable def gK (xs:Array cO)(i:Nat):cO:=xs[i]?.getD (.none,.none)
structure Sg (xs ys:Array cO)(lo hi:Nat):Prop where
 perm:ys.Perm xs
 out:∀ i,i<lo \/ hi<=i->ys[i]?=xs[i]?
 inn:∀ i,lo<=i->i<hi->∃ j,lo<=j/\j<hi/\ys[i]?=xs[j]?
structure SoB (a₀:Array cO)(st:SortSt):Prop where
 perm:(arrOf st).Perm a₀
 kind:kindOf st=oneType'
 failed:failedOf st=none
section
variable {prog:aX}{w:bB}{A:bj}{E:aj->au->Prop}{s:au}{a₀:Array cO}{rk:cO->Int}
end
end L2
namespace L2
open PySem PyProof.Rows
section
variable {prog:aX}{w:bB}{A:bj}{E:aj->au->Prop}{s:au}{a₀:Array cO}{rk:cO->Int}
def Fal (rk:cO->Int)(xs:Array cO)(lo hi:Nat):Prop:=∀ i j,lo<=i->i<=j->j<hi->LEr rk (gK xs j) (gK xs i)
structure Dsc (rk:cO->Int)(xs:Array cO)(lo T hi:Nat):Prop where
 l:lo<=T
 t:T<hi
 a:Fal rk xs lo T
 b:∀ i,lo<=i->i<T->kn (gK xs (hi - 1))<kn (gK xs i)
 c:∀ i j,T<=i->i<=j->j<hi->kn (gK xs i)=kn (gK xs (hi - 1))/\rk (gK xs i)<=rk (gK xs j)
end
end L2
namespace L2
open PySem PyProof.Rows
section
variable {prog:aX}{w:bB}{A:bj}{E:aj->au->Prop}{s:au}{rk:cO->Int}
end
end L2
namespace L2
open PySem PyProof.Rows
noncomputable def Pnd:Nat->List (Nat × Nat × Nat)->List (List cO)->Prop
 | _,[],[]=>True
 | o,p :: ps,r :: rs=>p.1=o/\p.2.1=r.length/\Pnd (o+r.length) ps rs
 | _,_,_=>False
section
variable {prog:aX}{w:bB}{A:bj}{E:aj->au->Prop}{s:au}{a₀:Array cO}{rk:cO->Int}
structure Rns (rk:cO->Int)(a₀:Array cO)(rs:List (List cO))(qi:List cO)(st:SortSt):Prop where
 b:SoB a₀ st
 e:(arrOf st).toList=rs.flatten ++ qi
 ne:∀ r ∈ rs,0<r.length
 so:∀ r ∈ rs,r.Pairwise (LEr rk)
 bel:rs.Pairwise fun X Y=>∀ x ∈ X,∀ y ∈ Y,rk x<=rk y
 be:∀ x ∈ rs.flatten,∀ y ∈ qi,rk x<=rk y
 pn:Pnd 0 (pendingOf st).toList rs
end
end L2
namespace L2
open PySem PyProof.Rows
section
variable {prog:aX}{w:bB}{A:bj}{E:aj->au->Prop}{s:au}{a₀:Array cO}{rk:cO->Int}
end
end L2
namespace L2
open PySem PyProof.Rows
section
variable {prog:aX}{w:bB}{A:bj}{E:aj->au->Prop}{s:au}{a₀:Array cO}{rk:cO->Int}
end
end L2
namespace L2
open PySem PyProof.Rows
section
variable {prog:aX}{w:bB}{A:bj}{E:aj->au->Prop}{s:au}
end
section
variable {prog:aX}{w:bB}{A:bj}{E:aj->au->Prop}{s:au}
end
section
variable {X:Cx}
end
section
variable {X:Cx}
variable {o e:Expr}{es:List Expr}{to:TE}{t:TA}{name:Str}{apos cpos:Pos}{T1 id1 T2 id2:String}{r1 r2:V->List V->Hp->VK->Prop}{K:ax}
end
def j0 (prog:aX)(w:bB)(A:bj)(kx vx:Expr)(gens:List dG)(scope:Scope)(pos:Pos)(d:Nat)(acc:aj)(env:Env)(Q:au->Prop)(s:au):Prop:=
  match gens[d+1]? with
  | some g' => aK (aL prog w) A (eval g'.iter env) (fun x s1 => aK (aL prog w) A (cJ g'.iter env x) (fun x s2 => aK (aL prog w) A (pyIter x) (fun it s3 =>
      aK (aL prog w) A (runOwn (mX.compStart (.DictComp kx vx gens scope pos) (d+1) it acc env) env) (fun _ s4=>Q s4) (fun _ _=>False) s3) (fun _ _=>False) s2) (fun _ _=>False) s1) (fun _ _=>False) s
  | none=>aK (aL prog w) A (eval kx env) (fun k s1=>aK (aL prog w) A (eval vx env) (fun v s2=>∃ d,acc=.ref d/\aK (aL prog w) A (dictSet d k v) (fun _ s3=>Q s3) (fun _ _=>False) s2) (fun _ _=>False) s1) (fun _ _=>False) s
section
variable {prog:aX}{w:bB}{A:bj}{R:nu->au->Prop}{s:au}
theorem QJ {kx vx:Expr}{gens:List dG}{d:Nat}{scope:Scope}{pos:Pos}{acc:aj}{env:Env}{Q Q':au->Prop}(h:j0 prog w A kx vx gens scope pos d acc env Q s)(hq:∀ s,Q s->Q' s):j0 prog w A kx vx gens scope pos d acc env Q' s:=by
 unfold j0 at h ⊢
 cases e:gens[d+1]? with
 | none=>
  simp only [e] at h ⊢
  exact aO h (fun x s₄ h₄=>aO h₄ (fun _ s₅ ⟨d,e,h₅⟩=>⟨d,e,aO h₅ (fun _ s₆ h₆=>hq _ h₆) fun _ _ h'=>h'⟩) fun _ _ h'=>h') fun _ _ h'=>h'
 | some g'=>
  simp only [e] at h ⊢
  exact aO h (fun x s₄ h₄=>aO h₄ (fun x s₅ h₅=>aO h₅ (fun it s₆ h₆=>aO h₆ (fun _ s₇ h₇=>hq _ h₇) fun _ _ h'=>h') fun _ _ h'=>h') fun _ _ h'=>h') fun _ _ h'=>h'
theorem kS {kx vx target iter : Expr}{ifs : List Expr}{gens : List dG}{d : Nat}{scope : Scope}{pos : Pos}{it acc : aj}{env : Env}(hg : gens[d]? = some ⟨target, iter, ifs, 0⟩)(hn : ∀ g', gens[d + 1]? = some g' -> g'.is_async = 0)(I : Nat -> au -> Prop)
    (turn:∀ n s,I n s->aK (aL prog w) A (lK it) (fun r s₁=>match r with
      | none=>R (.ok .next) s₁
      | some v => aK (aL prog w) A (f7 target it v) (fun _ s₀ => aK (aL prog w) A (iq target env v) (fun _ s₂ =>
          aK (aL prog w) A (forIn ifs true fun c r=>if r=true then do let ok <- isTrue c env (eval c env);pure (dQ ok) else pure (dQ r)) (fun ok s₃=>
            if ok=true then j0 prog w A kx vx gens scope pos d acc env (fun s₅=>∃ m,m<n/\I m s₅) s₃
            else ∃ m,m<n/\I m s₃) (fun _ _=>False) s₂) (fun _ _=>False) s₀) (fun _ _=>False) s₁) (fun _ _=>False) s)
    (n:Nat) (h:I n s) :
    dR (aL prog w) A (.compLoop (.DictComp kx vx gens scope pos) d it acc env) R s:=by
  refine codeAny_loop rfl I (fun n s hI=>?_) n h
  show aK _ A ((compTurn (.DictComp kx vx gens scope pos) d it acc env).onRaise (fun x=>do gL x env;theTreesLotGoes x)) _ _ s
  refine wpAny_noted ?_
  unfold compTurn
  simp only [hg]
  refine am (cz ?_)
  rw [if_neg (by decide)]
  refine am (aO (turn n s hI) (fun r s₁ h₁=>?_) fun _ _ h'=>h'.elim)
  cases r with
  | none=>exact aA h₁
  | some v=>
    refine am (aO h₁ (fun _ s₀ h₀=>?_) fun _ _ h'=>h'.elim)
    refine am (aO h₀ (fun _ s₂ h₂=>am (aO h₂ (fun ok s₃ h₃=>?_) fun _ _ h'=>h'.elim)) fun _ _ h'=>h'.elim)
    cases ok with
    | false=>exact aA ⟨rfl,h₃⟩
    | true=>
      rw [if_pos rfl] at h₃ ⊢
      unfold j0 at h₃
      cases e:gens[d+1]? with
      | none=>
        simp only [e] at h₃ ⊢
        refine am (am (aO h₃ (fun x s₄ h₄=>am (cq (aO h₄ (fun y s₅ ⟨d,ea,h₅⟩=>?_) fun _ _ h'=>h'.elim))) fun _ _ h'=>h'.elim))
        subst ea
        exact am (cz (cq (aO h₅ (fun _ s₆ h₆=>aA ⟨rfl,h₆⟩) fun _ _ h'=>h'.elim)))
      | some g'=>
        simp only [e] at h₃ ⊢
        have ha:=hn g' e
        refine am (aO h₃ (fun x s₄ h₄=>?_) fun _ _ h'=>h'.elim)
        refine am (cz ?_)
        rw [if_neg (by rw [ha];decide)]
        refine am (aO h₄ (fun x s₅ h₅=>?_) fun _ _ h'=>h'.elim)
        refine am (cq ?_)
        rw [if_neg (by rw [ha];decide)]
        refine aO h₅ (fun it s₆ h₆=>?_) fun _ _ h'=>h'.elim
        exact am (aO h₆ (fun _ s₇ h₇=>aA ⟨rfl,h₇⟩) fun _ _ h'=>h'.elim)
theorem ja {kx vx target iter:Expr}{ifs:List Expr}{gens:List dG}{d:Nat}{scope:Scope}{pos:Pos}{it acc:aj}{env:Env}(hg:gens[d]?=some ⟨target,iter,ifs,0⟩)
  (h1:dR (aL prog w) A (.compLoop (.DictComp kx vx gens scope pos) d it acc env) R s)
  (h2:aK (aL prog w) A (pyIter it) (fun it' s'=>dR (aL prog w) A (.compLoop (.DictComp kx vx gens scope pos) d it' acc env) R s') (fun _ _=>False) s) :
  dR (aL prog w) A (.compStart (.DictComp kx vx gens scope pos) d it acc env) R s:=by
 refine codeAny_loop' rfl (fun _ s'=>s'=s) (fun n s' hI=>?_) 0 rfl
 subst hI
 show aK _ A ((compStart (.DictComp kx vx gens scope pos) d it acc env).onRaise (fun x=>do gL x env;iS theWindowsPlace)) _ _ _
 refine gW ?_
 unfold compStart
 have hc:(clausesOf (.DictComp kx vx gens scope pos))[d]?=some ⟨target,iter,ifs,0⟩:=hg
 simp only [hc]
 rw [if_neg (by show ¬ ((0:Nat) != 0)=true;decide)]
 refine am (wpAny_askSetting ?_)
 split
 ·exact aA (.inr ⟨rfl,h1⟩)
 ·refine am (lJ ?_)
  refine am (cz ?_)
  exact am (aO h2 (fun it' s' h'=>aA (.inr ⟨rfl,h'⟩)) fun _ _ h'=>h'.elim)
end
noncomputable def Qn (tk tv:TE)(D:aw):TR:=fun σ H N=>tk σ H fun y H4=>tv σ H4 fun v H5=>∃ kvs k b,y=.ref b/\H5 D=some (.dT kvs)/\H5 b=some (.tup (k.map kV))/\kvs.length<aM/\N σ (upd H5 D (.dT (xJ kvs k v)))
noncomputable def Qc (wi:TI)(g:TG)(tt:TT)(tr:aw->TR)(D:aw):TR:=fun σ H N=>wi σ H fun J H1=>CL J g tt (tr D) N σ H1
def PRd (C:Cx)(kx vx:Expr)(gens:List dG)(scope:Scope)(pos:Pos)(d:Nat)(D:aw)(tr:TR):Prop:=
 ∀ (pins:List (aw × Obj)) (s:au) (σ:St) (H:Hp) (N:St->Hp->Prop),Inv C pins σ H s->tr σ H N->j0 C.prog C.w C.A kx vx gens scope pos d (.ref D) C.env (fun s'=>∃ σ' H',Inv C pins σ' H' s'/\N σ' H') s
section
variable {C:Cx}{kx vx tg iter:Expr}{ifs:List Expr}{gens:List dG}{scope:Scope}{pos:Pos}{d:Nat}{D:aw}{g:TG}{tt:TT}{te:TE}{tr:TR}
theorem JF (hc:C.calm=true)(hgd:gens[d]?=some ⟨tg,iter,ifs,0⟩)(hn:∀ g',gens[d+1]?=some g'->g'.is_async=0)(hg:PG C tg g)(ht:PIf C ifs tt)(hr:PRd C kx vx gens scope pos d D tr)(hxe:∀ e s,¬ C.xe e s)
  {it:aw} {fp:List aw} {tn:Nat->Heap->Prop} {J:It} (T:Qv C.prog C.w C.K tg J fp it tn) {pins:List (aw × Obj)} {s:au} {σ:St} {H:Hp} (I:Inv C pins σ H s) (st:tn 0 s.heap) (hf:∀ b ∈ fp,xK C pins H b) {N:St->Hp->Prop} (h:CL J g tt tr N σ H)
  {R:nu->au->Prop} (fin:∀ s' σ' H',Inv C pins σ' H' s'->N σ' H'->R (.ok .next) s') :
  dR (aL C.prog C.w) C.A (.compLoop (.DictComp kx vx gens scope pos) d (.ref it) (.ref D) C.env) R s:=by
 obtain ⟨W,⟨m0,w0⟩,turn⟩:=h
 have no:∀ {α:Type} {m:Sem α} {Q:α->au->Prop} {s:au},aK (aL C.prog C.w) C.A m Q C.xe s->aK (aL C.prog C.w) C.A m Q (fun _ _=>False) s:=fun h=>aO h (fun _ _ q=>q) fun e s q=>hxe e s q
 have stat:∀ {H':Hp},(∀ b ∈ fp,H' b=none)->∀ b ∈ fp,xK C pins H' b:=fun hn b hb=>⟨hn b hb,(hf b hb).2⟩
 refine kS hgd hn (fun n s'=>∃ i τ H',Inv C pins τ H' s'/\tn i s'.heap/\(∀ b ∈ fp,H' b=none)/\W i n τ H') ?_ m0 ⟨0,σ,H,I,st,fun b hb=>(hf b hb).1,w0⟩
 rintro n s5 ⟨i,τ,H5,I5,st5,fr5,w5⟩
 rcases turn i n τ H5 w5 with ⟨stop,qn⟩ | ⟨go,N1,hN,step⟩
 ·refine thn (T.done C rfl rfl rfl hc i pins s5 τ H5 _ I5 (stat fr5) st5 stop) fun r s6 ⟨hr,I6⟩=>?_
  subst hr
  exact fin s6 τ H5 I6 qn
 ·refine thn (T.item C rfl rfl rfl hc i pins s5 τ H5 _ I5 (stat fr5) st5 go) fun r s6 ⟨u,hr',h6⟩=>?_
  subst hr'
  refine thn h6 fun _ s7 ⟨x,H7,I7,r7,y7,st7,fr7⟩=>?_
  have I7':=I7.pinned (stat fr7) (T.obj _ _ st7)
  refine thn (no (hg _ s7 τ H7 x u _ I7' r7 (step x H7 y7))) fun _ s8 ⟨τ8,H8,I8,q8⟩=>?_
  refine thn (no (ht _ s8 τ8 H8 _ I8 q8)) fun b s9 ⟨H9,I9,q9⟩=>?_
  have again:∀ {τ9:St} {H9:Hp} {s9:au},Inv C (pins ++ yJ fp s7.heap) τ9 H9 s9->N1 τ9 H9 ->
    ∃ m,m<n/\∃ i τ H',Inv C pins τ H' s9/\tn i s9.heap/\(∀ b ∈ fp,H' b=none)/\W i m τ H':=fun {τ9 H9 s9} I9 n9=>by
   obtain ⟨m',hm,w9⟩:=hN _ _ n9
   refine ⟨m',hm,i+1,τ9,H9,I9.unpinned,T.keep _ _ _ st7 fun b hb o e=>(I9.pin (b,o) (bE _ (bE _ (jf hb e)))).1,fun b hb=>?_,w9⟩
   obtain ⟨o,e,d⟩:=T.obj _ _ st7 b hb
   exact (I9.pin (b,o) (bE _ (bE _ (jf hb e)))).2.1
  cases b with
  | false=>
   rw [if_neg bL] at q9 ⊢
   exact again I9 q9
  | true=>
   rw [if_pos rfl] at q9 ⊢
   exact QJ (hr _ s9 τ8 H9 _ I9 q9) fun s11 ⟨τ9,H11,I11,n11⟩=>again I11 n11
theorem WC {tk tv:TE}(hu:C.A.units<fW)(hg2:gens[d+1]?=none)(hk:PE C kx tk)(hv:PE C vx tv)(hxe:∀ e s,¬ C.xe e s):PRd C kx vx gens scope pos d D (Qn tk tv D):=by
 intro pins s σ H N I h
 have no:∀ {α:Type} {m:Sem α} {Q:α->au->Prop} {s:au},aK (aL C.prog C.w) C.A m Q C.xe s->aK (aL C.prog C.w) C.A m Q (fun _ _=>False) s:=fun h=>aO h (fun _ _ q=>q) fun e s q=>hxe e s q
 unfold j0
 simp only [hg2]
 refine thn (no (hk pins s σ H _ I h)) fun y s1 ⟨k,H1,I1,r1,q1⟩=>?_
 refine thn (no (hv pins s1 σ H1 _ I1 q1)) fun z s2 ⟨v,H2,I2,r2,kvs,ks,b,e,e1,e2,l,n⟩=>⟨D,rfl,?_⟩
 subst e
 cases r1
 exact VT hu I2 e1 e2 l r2 fun s' I'=>⟨σ,_,I',n⟩
theorem WM {tr:aw->TR}{wi:TI}(hc:C.calm=true)(hgd:gens[d+1]?=some ⟨tg,iter,ifs,0⟩)(hn:∀ g',gens[d+2]?=some g'->g'.is_async=0)(hi:PI C tg iter wi)(hs:∀ x,cJ iter C.env x=pure x)(hg:PG C tg g)(ht:PIf C ifs tt)
  (hr:PRd C kx vx gens scope pos (d+1) D (tr D)) (hxe:∀ e s,¬ C.xe e s):PRd C kx vx gens scope pos d D (Qc wi g tt tr D):=by
 intro pins s σ H N I h
 have no:∀ {α:Type} {m:Sem α} {Q:α->au->Prop} {s:au},aK (aL C.prog C.w) C.A m Q C.xe s->aK (aL C.prog C.w) C.A m Q (fun _ _=>False) s:=fun h=>aO h (fun _ _ q=>q) fun e s q=>hxe e s q
 unfold j0
 simp only [hgd]
 refine thn (no (hi pins s σ H _ I h)) fun v s1 h1=>?_
 rw [hs v]
 refine aA (thn (no h1) fun itv s2 h2=>?_)
 obtain ⟨it,fp,tn,J,H2,e,I2,T,st2,f2,q2⟩:=h2
 subst e
 refine wpAny_runOwn ?_
 show dR _ C.A _ _ _
 have loop:=JF (R:=fun r s'=>match r with | .ok f=>(∃ σ' H',Inv C pins σ' H' s'/\N σ' H') | .error e=>cameBackBy (aL C.prog C.w) C.A C.env (fun _ _=>False) e s') hc hgd hn hg ht hr hxe T I2 st2 f2 q2 fun s' σ' H' I' n'=>⟨σ',H',I',n'⟩
 exact ja hgd loop (T.self _ 0 _ _ _ st2 loop)
end
noncomputable def JJ (ts:List Nat)(wi:TI)(g:TG)(tt:TT)(tr:aw->TR):TE:=fun σ H Q=>wi σ H fun J H1=>∀ D,H1 D=none->CL J g tt (tr D) (fun _ H2=>Q (.ref D) H2) (clr ts σ) (upd H1 D (.dT []))
section
variable {X:Cx}{ts:List Nat}{scope:Scope}{tg iter kx vx:Expr}{ifs:List Expr}{qi:List dG}{wi:TI}{g:TG}{tt:TT}{tr:aw->TR}{pos:Pos}
theorem V3 (hc:X.calm=true)(hsc:Jf X.N ts scope X.env.kindOf=true)(hi:PI X tg iter wi)(hn:∀ g',qi[0]?=some g'->g'.is_async=0)(hg:∀ cl s H fp,PG (cxC X scope cl s H fp) tg g)(ht:∀ cl s H fp,PIf (cxC X scope cl s H fp) ifs tt)
  (hr:∀ cl s H fp D,PRd (cxC X scope cl s H fp) kx vx (⟨tg,iter,ifs,0⟩ :: qi) scope pos 0 D (tr D))
  {pins:List (aw × Obj)} {s:au} {σ:St} {H:Hp} {Q:VK} (I:Inv X pins σ H s) (h:JJ ts wi g tt tr σ H Q) {use:Option (aj->Sem Unit)} {Q':aj->au->Prop}
  (fin:∀ (D C:aw) (H':Hp) (s':au),Inv X pins σ H' s'->(∃ m,s'.heap.Ns C m)->H' C=none->C ≠ X.env.locals->(∀ x c,X.env.cells.lookup x=some c->c ≠ C)->X.s₀.heap.objs.size<=C->(∀ p ∈ X.pn ++ pins,p.1 ≠ C)->C ∉ X.fs->Q (.ref D) H' ->
   compPost (aL X.prog X.w) X.A X.xe use Q' (.ref D) C (.ok .next) s')
  (hs:∀ x,cJ iter X.env x=pure x) :
  aK (aL X.prog X.w) X.A (i9 (.DictComp kx vx (⟨tg,iter,ifs,0⟩ :: qi) scope pos) scope X.env (firstIterPos (⟨tg,iter,ifs,0⟩ :: qi) pos) (newDict) false (eval iter X.env) use) Q' X.xe s:=by
 have S:=A7 hsc
 obtain ⟨cl,hcl,c1,c2⟩:=vO (scope:=scope) (env:=X.env) fun y hy e=>I.ok.has y.1 (S.free y hy e)
 refine kb (use:=use) rfl hs hcl S.kind S.loc ?_
 refine aO (hi pins s σ H _ I h) (fun v s1 h1=>aO h1 (fun itv s2 h2=>?_) fun _ _ e=>e) fun _ _ e=>e
 obtain ⟨it,fp,tn,J,H2,e,I2,T,st2,f2,q2⟩:=h2
 subst e
 have hD:H2 s2.heap.objs.size=none:=I2.hok.fresh (aJ _)
 have q3:=q2 _ hD
 refine bI (wpAny_newFunctionEnv S.cell (by intro y hy;simp at hy) (fun h₁ hns₁ hsb₁=>?_) S.kind)
 dsimp only at hns₁ hsb₁ ⊢
 generalize hh3:s2.heap.push { cls:=.type "dict",data:=.dict #[] }=g3 at hns₁ hsb₁ ⊢
 have I3:Inv X pins σ (upd H2 s2.heap.objs.size (.dT [])) { s2 with heap:=g3 }:=by
  rw [<- hh3]
  exact I2.laid (t':=s2.toks) (fun b u e=>ay _ e) (aJ _) (WB _ I2.big)
 have st3:tn 0 g3:=T.keep _ _ _ st2 fun b _ o e=>by rw [<- hh3];exact ay _ e
 have lt2:∀ b ∈ fp,b<s2.heap.objs.size:=fun b hb=>by obtain ⟨o,e,_⟩:=T.obj _ _ st2 b hb;exact aH e
 have hsz3:g3.objs.size=s2.heap.objs.size+1:=by rw [<- hh3,dj]
 have f3:∀ b ∈ fp,xK X pins (upd H2 s2.heap.objs.size (.dT [])) b:=fun b hb=>⟨by rw [zg (br (lt2 b hb))];exact (f2 b hb).1,(f2 b hb).2⟩
 have lt3:∀ b ∈ fp,b<g3.objs.size:=fun b hb=>by rw [hsz3];exact i4 (lt2 b hb)
 have old:∀ b o,g3.get? b=some o->h₁.get? b=some o:=fun b o e=>hsb₁.extBut b o (br (aH e)) (ay _ e)
 have hns:h₁.Ns g3.objs.size (fun x=>([]:List (Str × aj)).reverse.lookup x):=hns₁
 have I4:∀ t,Inv (cxC X scope cl { s2 with heap:=g3 } (upd H2 s2.heap.objs.size (.dT [])) fp) [] (clr ts σ) (upd H2 s2.heap.objs.size (.dT [])) { s2 with heap:=h₁,toks:=t }:=fun t=>wz I3 S f3 lt3 c1 c2 hns old
 have fpne:∀ b ∈ fp,b ∉ frs X.stack:=fun b hb z=>by
  obtain ⟨_,f1,f2,_⟩:=f3 b hb
  rcases aE.mp (I3.stkSub b z) with e | e
  ·exact f1 e
  ·exact f2 e
 have stat:∀ {H':Hp},(∀ b ∈ fp,H' b=none)->∀ b ∈ fp,xK (cxC X scope cl { s2 with heap:=g3 } (upd H2 s2.heap.objs.size (.dT [])) fp) [] H' b:=fun hn b hb=>
  ⟨hn b hb,br (lt3 b hb),fpne b hb,.inl hb,fun x c e=>(f2 b hb).2.2.2.2.1 x c (c1 x c e),fun p hp=>absurd hp (by simp)⟩
 have loop:∀ t,dR (aL X.prog X.w) X.A (.compLoop (.DictComp kx vx (⟨tg,iter,ifs,0⟩ :: qi) scope pos) 0 (.ref it) (.ref s2.heap.objs.size) (compEnvC scope cl g3.objs.size X.env))
   (compPost (aL X.prog X.w) X.A X.xe use Q' (.ref s2.heap.objs.size) g3.objs.size) { s2 with heap:=h₁,toks:=t }:=by
  intro t
  refine JF (C:=cxC X scope cl { s2 with heap:=g3 } (upd H2 s2.heap.objs.size (.dT [])) fp) hc rfl (fun g' e=>hn g' (by simpa using e)) (hg _ _ _ _) (ht _ _ _ _) (hr _ _ _ _ _) (fun _ _ z=>z) T (I4 t) (T.keep _ _ _ st3 fun b _ o e=>old b o e) (stat fun b hb=>(f3 b hb).1) q3 fun s6 σ6 H5 I6 qn=>?_
  have base:Un (frs X.stack) fp (upd H2 s2.heap.objs.size (.dT [])) H5 g3 s6.heap:=I6.base
  have J6:Inv X pins σ H5 s6:=I3.call' (ch:=fp) I6.os base I6.hok I6.bare fun b hb=>⟨(f3 b hb).2.2.2.1,(f3 b hb).2.1,(f3 b hb).2.2.2.2.1,(f3 b hb).2.2.2.2.2⟩
  obtain ⟨m6,n6,_⟩:=I6.loc
  refine fin _ g3.objs.size H5 s6 J6 ⟨m6,n6⟩ I6.free (eA I3.lt) (fun x c e z=>?_) I3.sz (fun p hp z=>?_) (I3.nofs (aJ _)) qn
  ·obtain ⟨v,q⟩:=I3.cell x c e
   exact absurd q.lt (by rw [z];exact cW _)
  ·exact absurd (aH (I3.pin p hp).1) (by rw [z];exact cW _)
 have LW:=loop (s2.toks+([]:List (Str × aj)).length)
 exact ja rfl LW (T.self _ 0 _ _ _ (T.keep _ _ _ st3 fun b _ o e=>old b o e) LW)
end
theorem Gn (a b c:aj):checkTypeCall "zip" ⟨[a,b,c],[]⟩=pure ():=by kernel_rfl
theorem Gc (a b c:aj):checkBuiltinCall "zip.__new__" ⟨[.type "zip",a,b,c],[]⟩=pure ():=by kernel_rfl
theorem GA (a b c d:aj):argsOk "object.__init__" ⟨[a,b,c,d],[]⟩:=by
 unfold argsOk;rw [signature?_of (id:="object.__init__") (n:=("__init__".toList).reverse) (o:=("object".toList).reverse) (by kernel_rfl) F.owner_object];kernel_rfl
abbrev Is3 (h:Heap)(T:aw)(a b c:aj):Prop:=h.get? T=some { cls:=.type "tuple",data:=.seq #[a,b,c] }
theorem ne3 {a b:Nat}(h:a ≠ b):@Ne aw a b:=h
section
variable {P:aX}{w:bB}{A:bj}{E:aj->au->Prop}{s:au}{n l1 l2 l3:Nat}{k:Nat}{xs ys zs:Array aj}{x y u a b c:aj}{Q:Option aj->au->Prop}
theorem HD {T:aw} {v:aj}{Q:Unit->au->Prop}(hT:Is3 s.heap T a b c)(h:∀ h',h'.get? T=some { cls:=.type "tuple",data:=.seq ((#[a,b,c]:Array aj).setIfInBounds k v) }->cR T s.heap h'->Q () { s with heap:=h' }):aK (aL P w) A (updateSeq T (·.setIfInBounds k v)) Q E s:=by
 refine wpAny_updateSeq hT rfl (h _ ?_ (cR.update ..))
 rw [cV _ hT rfl]
 simp [eF]
theorem Vp (q1:l1<n)(q2:l2<n)(q3:l3<n)(hz:mr s.heap (n+5) (n+3) (n+4) .none)(hTI:Is3 s.heap (n+3) (.ref n) (.ref (n+1)) (.ref (n+2)))(hTO:Is3 s.heap (n+4) a b c)(h1:s.heap.IsListIter n l1 k)(h2:s.heap.IsListIter (n+1) l2 k)(h3:s.heap.IsListIter (n+2) l3 k)
  (p1:s.heap.IsList l1 xs) (p2:s.heap.IsList l2 ys) (p3:s.heap.IsList l3 zs) (hx:xs[k]?=some x) (hy:ys[k]?=some y) (hu:zs[k]?=some u)
  (hQ:∀ h',mr h' (n+5) (n+3) (n+4) (iu s.heap.objs.size)->Is3 h' (n+4) x y u->h'.IsListIter n l1 (k+1)->h'.IsListIter (n+1) l2 (k+1)->h'.IsListIter (n+2) l3 (k+1)->Is3 h' s.heap.objs.size x y u->(∀ c o,c ≠ n+5->c ≠ n+4->c ≠ n->c ≠ n+1->c ≠ n+2->s.heap.get? c=some o->h'.get? c=some o)->Q (some (.ref s.heap.objs.size)) { s with heap:=h' }) :
  aK (aL P w) A (lK (.ref (n+5))) Q E s:=by
 have hT:s.TypeIs (.ref (n+5)) "zip":=⟨_,hz,rfl⟩
 unfold lK
 refine am (m8 (cy (name:=ap "__next__") hT F.slot_zip_next (df F.slot_zip_next hT F.entry_zip_next ?_ (F.args_zip_next_1 _))))
 refine am (m:=mL (.ref (n+5)) 2) (bO hz rfl (x:=.bool false) rfl ?_)
 refine am (m:=mL (.ref (n+5)) 3) (bO hz rfl (x:=.ref (n+3)) rfl ?_)
 refine am (m:=ou (.ref (n+3))) (d8 hTI rfl ?_)
 refine am (m:=cX (.ref (n+5))) ?_
 unfold cX
 refine am (bO hz rfl (x:=.none) rfl (aA ?_))
 refine am (m:=rule "zip.__next__.owned-tuple-again") (lJ ?_)
 refine am (m:=mL (.ref (n+5)) 4) (bO hz rfl (x:=.ref (n+4)) rfl ?_)
 refine am (m:=setField (.ref (n+5)) 0 .ellipsis) (eZ hz (by simp) fun g1 hz1 s1=>?_)
 replace hz1:mr g1 (n+5) (n+3) (n+4) .ellipsis:=hz1
 refine am ?_
 rw [show (#[aj.ref n,aj.ref (n+1),aj.ref (n+2)].toList.zipIdx:List (aj × Nat))=[(.ref n,0),(.ref (n+1),1),(.ref (n+2),2)] from rfl,gg]
 dsimp only
 refine am (am (gW ?_))
 show aK _ _ (ca (.ref n) >>= fun v=>pure (some v)) _ _ _
 refine am (gF (h1.extBut s1.extBut (ne3 (by omega))) (p1.extBut s1.extBut (ne3 (by omega))) hx fun g2 i1 s2=>aA ?_)
 dsimp only
 have t2:Is3 g2 (n+4) a b c:=s2.extBut _ _ (ne3 (by omega)) (s1.extBut _ _ (ne3 (by omega)) hTO)
 refine am (d8 t2 rfl ?_)
 dsimp only
 refine am (HD t2 fun g3 t3 s3=>?_)
 replace t3:Is3 g3 (n+4) x b c:=t3
 refine am (wpAny_letGo (aA ?_))
 dsimp only
 rw [gg]
 refine am (am (gW ?_))
 show aK _ _ (ca (.ref (n+1)) >>= fun v=>pure (some v)) _ _ _
 refine am (gF (((h2.extBut s1.extBut (ne3 (by omega))).extBut s2.extBut (ne3 (by omega))).extBut s3.extBut (ne3 (by omega))) (((p2.extBut s1.extBut (ne3 (by omega))).extBut s2.extBut (ne3 (by omega))).extBut s3.extBut (ne3 (by omega))) hy fun g4 i2 s4=>aA ?_)
 dsimp only
 have t4:Is3 g4 (n+4) x b c:=s4.extBut _ _ (ne3 (by omega)) t3
 refine am (d8 t4 rfl ?_)
 dsimp only
 refine am (HD t4 fun g5 t5 s5=>?_)
 replace t5:Is3 g5 (n+4) x y c:=t5
 refine am (wpAny_letGo (aA ?_))
 dsimp only
 rw [gg]
 refine am (am (gW ?_))
 show aK _ _ (ca (.ref (n+2)) >>= fun v=>pure (some v)) _ _ _
 refine am (gF (((((h3.extBut s1.extBut (ne3 (by omega))).extBut s2.extBut (ne3 (by omega))).extBut s3.extBut (ne3 (by omega))).extBut s4.extBut (ne3 (by omega))).extBut s5.extBut (ne3 (by omega))) (((((p3.extBut s1.extBut (ne3 (by omega))).extBut s2.extBut (ne3 (by omega))).extBut s3.extBut (ne3 (by omega))).extBut s4.extBut (ne3 (by omega))).extBut s5.extBut (ne3 (by omega))) hu fun g6 i3 s6=>aA ?_)
 dsimp only
 have t6:Is3 g6 (n+4) x y c:=s6.extBut _ _ (ne3 (by omega)) t5
 refine am (d8 t6 rfl ?_)
 dsimp only
 refine am (HD t6 fun g7 t7 s7=>?_)
 replace t7:Is3 g7 (n+4) x y u:=t7
 refine am (wpAny_letGo (aA ?_))
 dsimp only
 rw [List.forIn_nil]
 refine aA ?_
 dsimp only
 refine am (d8 t7 rfl ?_)
 dsimp only
 have sz:g7.objs.size=s.heap.objs.size:=by rw [s7.1,s6.1,s5.1,s4.1,s3.1,s2.1,s1.1]
 refine am (wpAny_newTuple ?_ (by show 3<=aM;decide))
 have z7:mr g7 (n+5) (n+3) (n+4) .ellipsis:=s7.extBut _ _ (ne3 (by omega)) (s6.extBut _ _ (ne3 (by omega)) (s5.extBut _ _ (ne3 (by omega)) (s4.extBut _ _ (ne3 (by omega)) (s3.extBut _ _ (ne3 (by omega)) (s2.extBut _ _ (ne3 (by omega)) hz1)))))
 have zlt:n+5<g7.objs.size:=aH z7
 have z8:mr (g7.push { cls:=aj.type "tuple",data:=lE #[x,y,u] }) (n+5) (n+3) (n+4) .ellipsis:=ay _ z7
 show aK _ _ (fU (.ref (n+5)) (.ref g7.objs.size) >>= _) _ _ { s with heap:=g7.push { cls:=aj.type "tuple",data:=lE #[x,y,u] } }
 unfold fU
 refine am (am (eZ z8 (by simp) fun g9 z9 s9=>?_))
 replace z9:mr g9 (n+5) (n+3) (n+4) (iu g7.objs.size):=z9
 refine eZ z9 (by simp) fun h9 z10 s10=>?_
 replace z10:mr h9 (n+5) (n+3) (n+4) (iu g7.objs.size):=z10
 have up:∀ c o,c ≠ n+5->g7.get? c=some o->h9.get? c=some o:=fun c o hc e=>s10.extBut _ _ hc (s9.extBut _ _ hc (ay _ e))
 have tn:Is3 h9 g7.objs.size x y u:=s10.extBut _ _ (ne3 (by omega)) (s9.extBut _ _ (ne3 (by omega)) (aQ _ rfl))
 refine aA ⟨_,rfl,aA ?_⟩
 rw [sz] at z10 tn ⊢
 refine hQ h9 z10 (up _ _ (ne3 (by omega)) t7) (mB.at ((((((i1.extBut s3.extBut (ne3 (by omega))).extBut s4.extBut (ne3 (by omega))).extBut s5.extBut (ne3 (by omega))).extBut s6.extBut (ne3 (by omega)))).extBut s7.extBut (ne3 (by omega))) fun o e=>up _ o (ne3 (by omega)) e)
  (mB.at (((i2.extBut s5.extBut (ne3 (by omega))).extBut s6.extBut (ne3 (by omega))).extBut s7.extBut (ne3 (by omega))) fun o e=>up _ o (ne3 (by omega)) e) (mB.at (i3.extBut s7.extBut (ne3 (by omega))) fun o e=>up _ o (ne3 (by omega)) e) tn fun c o c1 c2 c3 c4 c5 e=>?_
 exact up c o c1 (s7.extBut _ _ c2 (s6.extBut _ _ c5 (s5.extBut _ _ c2 (s4.extBut _ _ c4 (s3.extBut _ _ c2 (s2.extBut _ _ c3 (s1.extBut _ _ c1 e)))))))
theorem Bj (hh:A.handled=none)(q1:l1<n)(hz:mr s.heap (n+5) (n+3) (n+4) .none)(hTI:Is3 s.heap (n+3) (.ref n) (.ref (n+1)) (.ref (n+2)))(h1:s.heap.IsListIter n l1 k)(p1:s.heap.IsList l1 xs)(hx:xs[k]?=none)
  (hQ:∀ h',(∀ c o,c ≠ n+5->c ≠ n->s.heap.get? c=some o->h'.get? c=some o)->Q none { s with heap:=h' }):aK (aL P w) A (lK (.ref (n+5))) Q E s:=by
 have hT:s.TypeIs (.ref (n+5)) "zip":=⟨_,hz,rfl⟩
 unfold lK
 refine am (m8 (cy (name:=ap "__next__") hT F.slot_zip_next (df F.slot_zip_next hT F.entry_zip_next ?_ (F.args_zip_next_1 _))))
 refine am (m:=mL (.ref (n+5)) 2) (bO hz rfl (x:=.bool false) rfl ?_)
 refine am (m:=mL (.ref (n+5)) 3) (bO hz rfl (x:=.ref (n+3)) rfl ?_)
 refine am (m:=ou (.ref (n+3))) (d8 hTI rfl ?_)
 refine am (m:=cX (.ref (n+5))) ?_
 unfold cX
 refine am (bO hz rfl (x:=.none) rfl (aA ?_))
 refine am (m:=rule "zip.__next__.owned-tuple-again") (lJ ?_)
 refine am (m:=mL (.ref (n+5)) 4) (bO hz rfl (x:=.ref (n+4)) rfl ?_)
 refine am (m:=setField (.ref (n+5)) 0 .ellipsis) (eZ hz (by simp) fun g1 hz1 s1=>?_)
 replace hz1:mr g1 (n+5) (n+3) (n+4) .ellipsis:=hz1
 refine am ?_
 rw [show (#[aj.ref n,aj.ref (n+1),aj.ref (n+2)].toList.zipIdx:List (aj × Nat))=[(.ref n,0),(.ref (n+1),1),(.ref (n+2),2)] from rfl,gg]
 dsimp only
 refine am (am (gW ?_))
 show aK _ _ (ca (.ref n) >>= fun v=>pure (some v)) _ _ _
 refine am (wpAny_nextOf_list_end (by first | exact hh | (show A.in1.handled=none;exact hh)) (h1.extBut s1.extBut (ne3 (by omega))) (p1.extBut s1.extBut (ne3 (by omega))) hx fun g2 e s2 ⟨oe,hoe,hce⟩=>?_)
 have hz2:mr g2 (n+5) (n+3) (n+4) .ellipsis:=s2 _ _ (ne3 (by omega)) hz1
 have hez:e ≠ n+5:=fun q=>by
  subst q
  have hoe':g2.get? (n+5)=some oe:=hoe
  rw [hz2] at hoe'
  cases hoe'
  exact absurd (show aj.type "zip"=aj.type "StopIteration" from hce) (by decide)
 refine eZ hz2 (by simp) fun g3 _ s3=>?_
 dsimp only
 refine am (wpAny_isInstance (T:="StopIteration") (b:=true) ⟨oe,s3.extBut _ _ hez hoe,hce⟩ isSubtype_stop ?_)
 exact aA (hQ g3 fun c o c1 c2 q=>s3.extBut _ _ c1 (s2 c o c2 (s1.extBut _ _ c1 q)))
end
theorem Wn (l1 l2 l3:aw)(xs ys zs:Array aj) :
  Meets (Builtin.«zip.__new__» ⟨[.type "zip",.ref l1,.ref l2,.ref l3],[]⟩) (fun _ R s=>s.heap.IsList l1 xs/\s.heap.IsList l2 ys/\s.heap.IsList l3 zs /\
   ∀ g1 g2 g3 g4 g5 g6,g1=s.heap.push { cls:=.type "list_iterator",data:=.fields #[.ref l1,.int 0 0] }->g2=g1.push { cls:=.type "list_iterator",data:=.fields #[.ref l2,.int 0 0] }->g3=g2.push { cls:=.type "list_iterator",data:=.fields #[.ref l3,.int 0 0] }->g4=g3.push { cls:=.type "tuple",data:=.seq #[.ref s.heap.objs.size,.ref g1.objs.size,.ref g2.objs.size] }->g5=g4.push { cls:=.type "tuple",data:=.seq #[.none,.none,.none] }->g6=g5.push { cls:=.type "zip",data:=.fields #[.none,.bool false,.bool false,.ref g3.objs.size,.ref g4.objs.size] }->R (.ok (.ret (.ref g5.objs.size))) { s with heap:=g6 }):=
 .of_wp fun prog w A R s h=>by
  obtain ⟨hp,g,d,tk,os⟩:=s
  obtain ⟨hl1,hl2,hl3,h⟩:=h
  have hL1:gZ (au.heap ⟨hp,g,d,tk,os⟩) l1 xs:=hl1
  have hL2:gZ (hp.push { cls:=.type "list_iterator",data:=.fields #[.ref l1,.int 0 0] }) l2 ys:=gZ.push hl2 _
  have hL3:gZ ((hp.push { cls:=.type "list_iterator",data:=.fields #[.ref l1,.int 0 0] }).push { cls:=.type "list_iterator",data:=.fields #[.ref l2,.int 0 0] }) l3 zs:=gZ.push (gZ.push hl3 _) _
  have hsub:isSubtype (aj.type "zip") (aj.type "zip")=pure true:=by first | exact sub_zip | rfl
  wp_walk using fq hL1,fq hL2,fq hL3
  exact ⟨_,rfl,h _ _ _ _ _ _ rfl rfl rfl rfl rfl rfl⟩
variable {P:aX} {w:bB} {A:bj} {E Q:aj->au->Prop} {s:au}
theorem Vh {l1 l2 l3:aw}{xs ys zs:Array aj} (hl1:s.heap.IsList l1 xs)(hl2:s.heap.IsList l2 ys)(hl3:s.heap.IsList l3 zs)
  (h:∀ h',mr h' (s.heap.objs.size+5) (s.heap.objs.size+3) (s.heap.objs.size+4) .none->Is3 h' (s.heap.objs.size+3) (.ref s.heap.objs.size) (.ref (s.heap.objs.size+1)) (.ref (s.heap.objs.size+2))->Is3 h' (s.heap.objs.size+4) .none .none .none->h'.IsListIter s.heap.objs.size l1 0->h'.IsListIter (s.heap.objs.size+1) l2 0->h'.IsListIter (s.heap.objs.size+2) l3 0->(∀ b o,s.heap.get? b=some o->h'.get? b=some o)->Q (.ref (s.heap.objs.size+5)) { s with heap:=h' }) :
  aK (aL P w) A (call (.type "zip") [.ref l1,.ref l2,.ref l3]) Q E s:=by
 refine callType_new F.called_zip (by decide) (Gn _ _ _) (Gc _ _ _) (fun obj=>GA obj _ _ _) F.entry_zip_new (Wn l1 l2 l3 xs ys zs) ⟨hl1,hl2,hl3,?_⟩
 intro g1 g2 g3 g4 g5 g6 e1 e2 e3 e4 e5 e6
 have z1:g1.objs.size=s.heap.objs.size+1:=by rw [e1,dj]
 have z2:g2.objs.size=s.heap.objs.size+2:=by rw [e2,dj,z1]
 have z3:g3.objs.size=s.heap.objs.size+3:=by rw [e3,dj,z2]
 have z4:g4.objs.size=s.heap.objs.size+4:=by rw [e4,dj,z3]
 have z5:g5.objs.size=s.heap.objs.size+5:=by rw [e5,dj,z4]
 have k1:∀ b o,s.heap.get? b=some o->g1.get? b=some o:=fun b o x=>by rw [e1];exact ay _ x
 have k2:∀ b o,g1.get? b=some o->g2.get? b=some o:=fun b o x=>by rw [e2];exact ay _ x
 have k3:∀ b o,g2.get? b=some o->g3.get? b=some o:=fun b o x=>by rw [e3];exact ay _ x
 have k4:∀ b o,g3.get? b=some o->g4.get? b=some o:=fun b o x=>by rw [e4];exact ay _ x
 have k5:∀ b o,g4.get? b=some o->g5.get? b=some o:=fun b o x=>by rw [e5];exact ay _ x
 have k6:∀ b o,g5.get? b=some o->g6.get? b=some o:=fun b o x=>by rw [e6];exact ay _ x
 have p1:g1.get? s.heap.objs.size=some { cls:=.type "list_iterator",data:=.fields #[.ref l1,.int 0 0] }:=by rw [e1];exact aQ _ rfl
 have p2:g2.get? (s.heap.objs.size+1)=some { cls:=.type "list_iterator",data:=.fields #[.ref l2,.int 0 0] }:=by
  have:=aQ g1 (o:={ cls:=.type "list_iterator",data:=.fields #[.ref l2,.int 0 0] }) rfl
  rw [z1] at this;rw [e2];exact this
 have p3:g3.get? (s.heap.objs.size+2)=some { cls:=.type "list_iterator",data:=.fields #[.ref l3,.int 0 0] }:=by
  have:=aQ g2 (o:={ cls:=.type "list_iterator",data:=.fields #[.ref l3,.int 0 0] }) rfl
  rw [z2] at this;rw [e3];exact this
 have p4:g4.get? (s.heap.objs.size+3)=some { cls:=.type "tuple",data:=.seq #[.ref s.heap.objs.size,.ref (s.heap.objs.size+1),.ref (s.heap.objs.size+2)] }:=by
  have:=aQ g3 (o:={ cls:=.type "tuple",data:=.seq #[.ref s.heap.objs.size,.ref g1.objs.size,.ref g2.objs.size] }) rfl
  rw [z3] at this;rw [e4,this,z1,z2]
 have p5:g5.get? (s.heap.objs.size+4)=some { cls:=.type "tuple",data:=.seq #[.none,.none,.none] }:=by
  have:=aQ g4 (o:={ cls:=.type "tuple",data:=.seq #[.none,.none,.none] }) rfl
  rw [z4] at this;rw [e5,this]
 have p6:g6.get? (s.heap.objs.size+5)=some { cls:=.type "zip",data:=.fields #[.none,.bool false,.bool false,.ref (s.heap.objs.size+3),.ref (s.heap.objs.size+4)] }:=by
  have:=aQ g5 (o:={ cls:=.type "zip",data:=.fields #[.none,.bool false,.bool false,.ref g3.objs.size,.ref g4.objs.size] }) rfl
  rw [z5] at this;rw [e6,this,z3,z4]
 show _/\_
 rw [z5]
 exact ⟨⟨_,p6,rfl⟩,h _ p6 (k6 _ _ (k5 _ _ p4)) (k6 _ _ p5) ⟨_,k6 _ _ (k5 _ _ (k4 _ _ (k3 _ _ (k2 _ _ p1)))),rfl,rfl⟩ ⟨_,k6 _ _ (k5 _ _ (k4 _ _ (k3 _ _ p2))),rfl,rfl⟩ ⟨_,k6 _ _ (k5 _ _ (k4 _ _ p3)),rfl,rfl⟩ fun b o x=>k6 _ _ (k5 _ _ (k4 _ _ (k3 _ _ (k2 _ _ (k1 _ _ x)))))⟩
noncomputable def Mu (K:ax)(a b c:aw):It:=
 ⟨fun i H=>∃ xs ys zs x y u,SqL K H a xs/\SqL K H b ys/\SqL K H c zs/\xs[i]?=some x/\ys[i]?=some y/\zs[i]?=some u,fun i H z H'=>∃ p x y u,H p=none/\z=.ref p/\(∀ xs,SqL K H a xs->xs[i]?=some x)/\(∀ ys,SqL K H b ys->ys[i]?=some y)/\(∀ zs,SqL K H c zs->zs[i]?=some u)/\H'=upd H p (.tup [x,y,u]),
  fun i H=>∃ xs,SqL K H a xs/\xs.length<=i⟩
variable {K:ax}
theorem Y1 {es:List Expr}{kt:Nat}{tp:Pos}(l1 l2 l3 n:Nat)(q1:l1<n)(q2:l2<n)(q3:l3<n) :
  Qv P w K (.Tuple es kt tp) (Mu K l1 l2 l3) [n+5,n+3,n+4,n,n+1,n+2] (n+5) (fun i h=>mr h (n+5) (n+3) (n+4) .none/\Is3 h (n+3) (.ref n) (.ref (n+1)) (.ref (n+2))/\(∃ a b c,Is3 h (n+4) a b c)/\h.IsListIter n l1 i/\h.IsListIter (n+1) l2 i/\h.IsListIter (n+2) l3 i) where
 mem:=by simp
 obj:=fun i h st b hb=>by
  obtain ⟨hz,hTI,⟨a,c,d,hTO⟩,⟨o1,e1,c1,d1⟩,⟨o2,e2,c2,d2⟩,⟨o3,e3,c3,d3⟩⟩:=st
  simp only [aE,aT,or_false] at hb
  rcases hb with rfl | rfl | rfl | rfl | rfl | rfl
  ·exact ⟨_,hz,fun v q=>by have q':iU _=gq v:=q;cases q'⟩
  ·exact ⟨_,hTI,fun v q=>by have q':lE _ _=gq v:=q;cases q'⟩
  ·exact ⟨_,hTO,fun v q=>by have q':lE _ _=gq v:=q;cases q'⟩
  ·exact ⟨o1,e1,fun v q=>by rw [d1] at q;cases q⟩
  ·exact ⟨o2,e2,fun v q=>by rw [d2] at q;cases q⟩
  ·exact ⟨o3,e3,fun v q=>by rw [d3] at q;cases q⟩
 keep:=fun i h h' st k=>by
  obtain ⟨hz,hTI,⟨a,c,d,hTO⟩,h1,h2,h3⟩:=st
  exact ⟨k _ (by simp) _ hz,k _ (by simp) _ hTI,⟨a,c,d,k _ (by simp) _ hTO⟩,h1.at fun o e=>k _ (by simp) o e,h2.at fun o e=>k _ (by simp) o e,h3.at fun o e=>k _ (by simp) o e⟩
 item:=by
  intro X hP hw hK hc i pins s σ H E I hf st hg
  subst hP hw hK
  obtain ⟨hz,hTI,⟨a,c,d,hTO⟩,h1,h2,h3⟩:=st
  obtain ⟨xs,ys,zs,x,y,t,hq1,hq2,hq3,hx,hy,ht⟩:=hg
  obtain ⟨its1,rv1,p1,hz1⟩:=I.list hq1
  obtain ⟨its2,rv2,p2,hz2⟩:=I.list hq2
  obtain ⟨its3,rv3,p3,hz3⟩:=I.list hq3
  obtain ⟨u,hu,ru⟩:=rv1.get hx
  obtain ⟨v,hv,rv⟩:=rv2.get hy
  obtain ⟨r,hr,rr⟩:=rv3.get ht
  refine Vp q1 q2 q3 hz hTI hTO h1 h2 h3 p1.isList p2.isList p3.isList (x:=u) (y:=v) (u:=r) (by simpa using hu) (by simpa using hv) (by simpa using hr) fun g1 b1 b2 b3 b4 b5 b6 hk=>?_
  refine ⟨.ref s.heap.objs.size,rfl,iO b1 fun g2 hz2' hs2=>?_⟩
  replace hs2:cR (n+5) g1 g2:=hs2
  have zlt:n+5<s.heap.objs.size:=aH hz
  have I2:Inv X pins σ (upd H s.heap.objs.size (.tup [x,y,t])) { s with heap:=g2,toks:=s.toks }:=by
   refine I.yieldTup (us:=[u,v,r]) hf (fun b o hb e=>?_) (aJ _) ((hs2.2 _ (eA zlt)).trans b6) (.cons ru (.cons rv (.cons rr .nil))) (by show 3<=aM;decide)
   simp only [aE,aT,or_false,not_or] at hb
   exact (hs2.2 b hb.1).trans (hk b o hb.1 hb.2.2.1 hb.2.2.2.1 hb.2.2.2.2.1 hb.2.2.2.2.2 e)
  refine ⟨.ref s.heap.objs.size,_,I2,rfl,⟨s.heap.objs.size,x,y,t,I.hok.fresh (aJ _),rfl,fun xs' h'=>by rw [I.list_inj h' hq1];exact hx,fun ys' h'=>by rw [I.list_inj h' hq2];exact hy,fun zs' h'=>by rw [I.list_inj h' hq3];exact ht,rfl⟩,
   ⟨hz2',(hs2.2 _ (ne3 (by omega))).trans (hk _ _ (ne3 (by omega)) (ne3 (by omega)) (ne3 (by omega)) (ne3 (by omega)) (ne3 (by omega)) hTI),⟨_,_,_,(hs2.2 _ (ne3 (by omega))).trans b2⟩,b3.extBut hs2.extBut (ne3 (by omega)),b4.extBut hs2.extBut (ne3 (by omega)),b5.extBut hs2.extBut (ne3 (by omega))⟩,fun b hb=>?_⟩
  have hlt:b<s.heap.objs.size:=by
   simp only [aE,aT,or_false] at hb
   have zlt':(n+5:Nat)<(s.heap.objs.size:Nat):=zlt
   rcases hb with rfl | rfl | rfl | rfl | rfl | rfl
   ·exact zlt
   ·exact aH hTI
   ·exact aH hTO
   ·obtain ⟨o,e,_⟩:=h1;exact aH e
   ·obtain ⟨o,e,_⟩:=h2;exact aH e
   ·obtain ⟨o,e,_⟩:=h3;exact aH e
  rw [zg (br hlt)]
  exact (hf b hb).1
 done:=by
  intro X hP hw hK hc i pins s σ H E I hf st hg
  subst hP hw hK
  obtain ⟨hz,hTI,⟨a,c,d,hTO⟩,h1,h2,h3⟩:=st
  obtain ⟨xs,hq1,hend⟩:=hg
  obtain ⟨its1,rv1,p1,hz1⟩:=I.list hq1
  have l1:=rv1.length
  refine Bj (I.ok.hd hc) q1 hz hTI h1 p1.isList (by simp;omega) fun h' hk=>⟨rfl,I.turnedL (tk:=s.toks) hf fun b o hb e=>?_⟩
  simp only [aE,aT,or_false,not_or] at hb
  exact hk b o hb.1 hb.2.2.2.1 e
 self:=fun _ _ _ _ _ st h=>gM st.1 h
theorem ML {x y z:V}{us:List aj}(h:zw [x,y,z] us):∃ a b c,us=[a,b,c]/\zv x a/\zv y b/\zv z c:=by
 cases h with
 | cons p q=>
  cases q with
  | cons p' q'=>
   cases q' with
   | cons p3 q3=>cases q3;exact ⟨_,_,_,rfl,p,p',p3⟩
section
variable {X:Cx}{es:List Expr}{kt:Nat}{tp:Pos}
noncomputable def vL (K:ax)(ta:TA):TI:=fun σ H R=>ta σ H fun vs H1=>∃ a b c,vs=[.ref a,.ref b,.ref c]/\(∃ xs,SqL K H1 a xs)/\(∃ ys,SqL K H1 b ys)/\(∃ zs,SqL K H1 c zs)/\R (Mu K a b c) H1
theorem Fm {e1 e2 e3:Expr}{ta:TA}{p pos:Pos}(hg:Gl X "zip")(hm:X.mg "zip"=none)(ha:PA X [e1,e2,e3] ta)(hs:aW [e1,e2,e3] X.env=[(false,eval e1 X.env),(false,eval e2 X.env),(false,eval e3 X.env)]:=by rfl)(hs2:aW [e2,e3] X.env=[(false,eval e2 X.env),(false,eval e3 X.env)]:=by rfl) :
  PI X (.Tuple es kt tp) (.Call (.Name "zip" p) [e1,e2,e3] [] pos) (vL X.K ta):=by
 intro pins s σ H R I h
 refine Call_ (xt I hg hm Zo (cI (thn (ha pos pins s σ H _ I h) fun us s1 ⟨vs,H1,I1,r1,q1⟩=>?_) (by rw [hs,hs2]) (by rw [hs2];rfl)))
 obtain ⟨a,b,c,e,⟨xs,hq1⟩,⟨ys,hq2⟩,⟨zs,hq3⟩,q⟩:=q1
 subst e
 obtain ⟨u,v,t,rfl,ru,rv,rt⟩:=ML r1
 cases ru
 cases rv
 cases rt
 obtain ⟨its1,rv1,p1,hz1⟩:=I1.list hq1
 obtain ⟨its2,rv2,p2,hz2⟩:=I1.list hq2
 obtain ⟨its3,rv3,p3,hz3⟩:=I1.list hq3
 have la:a<s1.heap.objs.size:=by obtain ⟨o,e,_⟩:=p1.isList;exact aH e
 have lb:b<s1.heap.objs.size:=by obtain ⟨o,e,_⟩:=p2.isList;exact aH e
 have lc:c<s1.heap.objs.size:=by obtain ⟨o,e,_⟩:=p3.isList;exact aH e
 refine Vh p1.isList p2.isList p3.isList fun h' b1 b2 b3 b4 b5 b6 hk=>gM b1 ?_
 have I2:Inv X pins σ H1 { s1 with heap:=h' }:=I1.kept (t':=s1.toks) hk
 refine ⟨s1.heap.objs.size+5,_,_,_,H1,rfl,I2,Y1 a b c s1.heap.objs.size la lb lc,⟨b1,b2,⟨_,_,_,b3⟩,b4,b5,b6⟩,fun c hb=>?_,q⟩
 have hb':s1.heap.objs.size<=c:=by
  simp only [aE,aT,or_false] at hb
  rcases hb with rfl | rfl | rfl | rfl | rfl | rfl <;> first | exact aJ _ | exact oq _ _
 exact I1.fpOk hb' (I1.hok.fresh hb')
end
noncomputable def qK (K:ax)(td ty:TE):TE:=fun σ H Q=>td σ H fun x H1=>ty σ H1 fun y H2=>∃ (a b:aw) (kvs:List (List Key × V)) (k:List Key) (v:V),x=.ref a/\y=.ref b/\H2 a=some (.dT kvs)/\SqT K H2 b (k.map kV)/\kQ kvs k=some v/\Q v H2
section
variable {X:Cx}{o i:Expr}{pos:Pos}{td ty:TE}
theorem vI (hu:X.A.units+1<fW)(ho:PE X o td)(hi:PE X i ty)(hs:Ih i):PE X (.Subscript o i pos) (qK X.K td ty):=by
 intro pins s σ H Q I h
 refine Ya iM.lookup hs (thn (ho pins s σ H _ I h) fun u s1 ⟨x,H1,I1,rx,q1⟩=>thn (hi pins s1 σ H1 _ I1 q1) fun iv s2 ⟨y,H2,I2,ry,a,b,kvs,k,v,ex,ey,e,hk,hv,q2⟩=>?_)
 subst ex ey
 obtain rfl:u=aj.ref a:=rx
 obtain rfl:iv=aj.ref b:=ry
 obtain ⟨z,hd,xs,rel,dd⟩:=D1 I2.hok e
 obtain ⟨its,rv,⟨ob,h1,h2,n,h3⟩,hz⟩:=I2.tuple hk
 have key:(ii (qc X.prog X.w)).is s2.heap k b:=⟨ob,its.toArray,n,h1,h2,h3,by simpa using yI rv⟩
 obtain ⟨w',hw,rw'⟩:=j8.some_of (v:=v) (o:=(nR xs k).map (·.2)) (by rw [<- hv];exact rel.val k)
 obtain ⟨p,hp,hp2⟩:=bM.mp hw
 refine ⟨dd.typeIs,wpAny_getItem_heap (iC hu) key dd hp ?_⟩
 rw [hp2]
 exact ⟨v,H2,I2.tok _,rw',q2⟩
end
noncomputable def setAll:List Nat->List V->St->St
 | i :: is,v :: vs,σ=>setAll is vs (σ.set i (some v))
 | _,_,σ=>σ
noncomputable def Jo (n:Nat)(is:List Nat)(b:List V->TS):List (List V)->TS
 | []=>fun D σ H=>D.nx σ H
 | vs :: r=>fun D σ H=>σ.length=n/\b vs { D with nx:=Jo n is b r D,ct:=Jo n is b r D,bk:=D.nx } (setAll is vs σ) H
variable {n i:Nat} {b:List V->TS} {l:List (List V)} {σ:St} {H:Hp} {vs:List V}
theorem FZ {is:List Nat} {D:kl} (e:l[i]?=some vs)(h:Jo n is b (l.drop i) D σ H):σ.length=n/\b vs { D with nx:=Jo n is b (l.drop (i+1)) D,ct:=Jo n is b (l.drop (i+1)) D,bk:=D.nx } (setAll is vs σ) H:=by
 have:l.drop i=vs :: l.drop (i+1):=by
  obtain ⟨hl,rfl⟩:=aF.mp e
  exact ez hl
 rw [this] at h
 exact h
def KT1 (K:ax)(a:aw)(xs:List V):Prop:=∃ (o:Obj) (its:Array aj) (n:Nat),K.lookup a=some o/\o.cls=.type "tuple"/\o.data=.seq its n/\its.size<=aM/\zw xs its.toList
theorem KT1.sq {a:aw}{xs:List V}(h:KT1 K a xs):SqT K H a xs:=.inr h
noncomputable def WR:List Nat->TGs
 | []=>FX
 | i :: is=>YE (wj i) (WR is)
theorem Z1 {Q:St->Hp->Prop}{H:Hp}:∀ {is:List Nat} {vs:List V} {σ:St},is.length=vs.length->Q (setAll is vs σ) H->WR is vs σ H Q
 | [],[],_,_,q=>⟨rfl,q⟩
 | i :: is,v :: vs,σ,e,q=>⟨v,vs,rfl,Z1 (by simpa using e) q⟩
 | [],_ :: _,_,e,_=>by simp at e
 | _ :: _,[],_,e,_=>by simp at e
section
variable {X:Cx}{es:List Expr}{kt:Nat}{tp gp:Pos}{body:List de}{pos:Pos}{tb:TS}{g:Str}{a:aw}{is:List Nat}
theorem BR {bs:List aw}{vss:List (List V)}(hp:dZ (aL X.prog X.w) X.A X.env X.xe)(hc:X.calm=true)(hg:Gl X g)(hm:X.mg g=some (.ref a))(ha:KT1 X.K a (bs.map .ref))(hb:∀ (j:Nat) (c:aw) vs,bs[j]?=some c->vss[j]?=some vs->KT1 X.K c vs)(hl:bs.length=vss.length)(hv:∀ vs ∈ vss,is.length=vs.length)
  (hgs:PGs X es (WR is)) (hbody:PSs X body tb) (hcv:∀ vs ∈ vss,∀ D σ H,σ.length=X.N.length->b vs D (setAll is vs σ) H->tb D (setAll is vs σ) H)
  (hn:(eR es X.env).length=is.length:=by rfl) (hst:(eR es X.env).findIdx? (·.1)=none:=by rfl) (hd:(g == ("__debug__":Str))=false:=by decide) (hs:∀ x,cJ (.Name g gp) X.env x=pure x:=by intro _;rfl) :
  PS X (.For (.Tuple es kt tp) (.Name g gp) body [] pos) (Jo X.N.length is b vss):=by
 intro pins s σ H D I h
 refine ka hp hc (Ed (Yg (v:=.ref a) hg hm rfl hd)) (B5 hc hgs hn hst) hbody hs pins s σ H D I ?_
 refine ⟨a,rfl,⟨_,ha.sq⟩,YB (xs:=bs.map .ref) (fun i σ H=>Jo X.N.length is b (vss.drop i) D σ H) h (fun _ _ _ _ _=>ha.sq) (fun i x σ H hx q=>?_) fun σ H q=>?_⟩
 ·rw [aD] at hx
  cases hc:bs[i]? with
  | none=>rw [hc] at hx;cases hx
  | some c=>
   rw [hc] at hx;cases hx
   have hi:i<vss.length:=by rw [<- hl];exact (aF.mp hc).1
   have e:=af hi
   obtain ⟨q1,q2⟩:=FZ e q
   have hvl:=hv _ (bh hi)
   exact ⟨c,_,rfl,(hb i c _ hc e).sq,hvl.symm,Z1 hvl (hcv _ (bh hi) _ _ _ q1 q2)⟩
 ·rw [az,hl,lH] at q
  exact q
end
noncomputable def Zd:List Nat->List (Option AV)->ASt->ASt
 | i :: is,v :: vs,ρ=>Zd is vs (ρ.set i v)
 | _,_,ρ=>ρ
noncomputable def VO (v:V):Option AV->Prop
 | none=>True
 | some (.d (.int i))=>v=.int i
 | some _=>False
inductive VOs:List V->List (Option AV)->Prop
 | nil:VOs [] []
 | cons {v:V} {x:Option AV} {vs:List V} {xs:List (Option AV)}:VO v x->VOs vs xs->VOs (v :: vs) (x :: xs)
variable {O:Own} {M:MH} {ρ:ASt}
theorem Er.setN (e:Er H O M σ ρ)(v:V)(j:Nat):Er H O M (σ.set j (some v)) (ρ.set j none):=
 ⟨by rw [aV,aV,e.len],fun i y h=>by
  rw [eD] at h ⊢
  by_cases c:j=i
  ·rw [if_pos c] at h
   split at h <;> cases h
  ·rw [if_neg c] at h ⊢;exact e.get i y h⟩
theorem Er.setAll {H:Hp}{O:Own}{M:MH}:∀ {is:List Nat} {vs:List V} {xs:List (Option AV)} {σ:St} {ρ:ASt},VOs vs xs->Er H O M σ ρ->Er H O M (setAll is vs σ) (Zd is xs ρ)
 | [],_,_,_,_,.nil,e=>e
 | [],_,_,_,_,.cons _ _,e=>e
 | _ :: _,_,_,_,_,.nil,e=>e
 | i :: is,v :: vs,x :: xs,σ,ρ,.cons h r,e=>by
  refine Er.setAll (is:=is) r ?_
  cases x with
  | none=>exact e.setN v i
  | some x=>
   cases x with
   | ref a=>exact h.elim
   | d x=>
    cases x with
    | int j=>rw [show v=.int j from h];exact e.set (x:=.d (.int j)) .int i
    | _=>exact h.elim
noncomputable def WH (n:Nat)(is:List Nat):List (List (Option AV) × AS)->AS
 | []=>fun _ D ρ M=>D.nx ρ M
 | (xs,b) :: r=>fun B D ρ M=>ρ.length=n/\b B { D with nx:=WH n is r B D,ct:=WH n is r B D,bk:=D.nx } (Zd is xs ρ) M
inductive JA (b:List V->TS):List (List V)->List (List (Option AV) × AS)->Prop
 | nil:JA b [] []
 | cons {vs:List V} {vss:List (List V)} {xs:List (Option AV)} {ab:AS} {r:List (List (Option AV) × AS)}:VOs vs xs->jg (b vs) ab->JA b vss r->JA b (vs :: vss) ((xs,ab) :: r)
theorem Yy {n:Nat}{is:List Nat}{b:List V->TS}{vss:List (List V)}{l:List (List (Option AV) × AS)}(h:JA b vss l):jg (Jo n is b vss) (WH n is l):=by
 induction h with
 | nil=>exact ⟨fun _ w e x q E=>E.nx _ _ _ _ _ w e x q⟩
 | cons hv hs _ ih=>exact ⟨fun w0 w e x q E=>⟨e.len.trans q.1,hs.go w0 w (e.setAll hv) x q.2 ⟨fun σ H O ρ M w e x q=>ih.go w0 w e x q E,E.rt,E.nx,fun σ H O ρ M w e x q=>ih.go w0 w e x q E⟩⟩⟩
noncomputable def kM (kvs:List (List Key × AV))(k:List Key):Option AV:=(kvs.find? fun kv=>decide (kv.1=k)).map (·.2)
noncomputable def wG (kvs:List (List Key × AV))(k:List Key)(v:AV):List (List Key × AV):=
 if (kvs.any fun kv=>decide (kv.1=k))=true then kvs.map (fun kv=>if kv.1=k then (kv.1,v) else kv) else kvs ++ [(k,v)]
noncomputable abbrev ikT (ks:List Int):List Key:=ks.map fj
theorem wc {H:Hp}{O:Own}{M:MH}(k:List Key):∀ {xs:List (List Key × V)} {kvs:List (List Key × AV)} {v:AV},xs.map (·.1)=kvs.map (·.1)->zi H O M (xs.map (·.2)) (kvs.map (·.2))->kM kvs k=some v->∃ u,kQ xs k=some u/\zq H O M u v
 | [],[],v,_,_,h=>by cases h
 | [],_ :: _,v,e,_,h=>by cases e
 | _ :: _,[],v,e,_,h=>by cases e
 | (a,x) :: xs,(b,y) :: kvs,v,e,r,h=>by
  obtain ⟨e1,e2⟩:=dX e
  have e1:a=b:=e1
  subst e1
  obtain ⟨r1,r2⟩:=zi.head r
  by_cases c:a=k
  ·have:kM ((a,y) :: kvs) k=some y:=by unfold kM;rw [dB,show decide (a=k)=true from decide_eq_true c];rfl
   rw [this] at h;cases h
   exact ⟨x,yd c,r1⟩
  ·have:kM ((a,y) :: kvs) k=kM kvs k:=by unfold kM;rw [dB,show decide (a=k)=false from decide_eq_false c]
   rw [this] at h
   obtain ⟨u,hu,ru⟩:=wc k (xs:=xs) e2 r2 h
   exact ⟨u,by rw [yl c];exact hu,ru⟩
theorem Q1 {α β:Type}(k:List Key):∀ {xs:List (List Key × α)} {ys:List (List Key × β)},xs.map (·.1)=ys.map (·.1)->(xs.any fun kv=>decide (kv.1=k))=(ys.any fun kv=>decide (kv.1=k))
 | [],[],_=>rfl
 | [],_ :: _,e=>by cases e
 | _ :: _,[],e=>by cases e
 | x :: xs,y :: ys,e=>by
  obtain ⟨e1,e2⟩:=dX e
  have e1:x.1=y.1:=e1
  rw [gT,gT,e1,Q1 k e2]
variable {xs:List (List Key × V)} {kvs:List (List Key × AV)}
theorem XN {k:List Key}{u:V}{v:AV} (h:jr H O M xs kvs)(r:zq H O M u v):jr H O M (xJ xs k u) (wG kvs k v):=by
  unfold xJ wG
  rw [Q1 k h.1]
  split
  · have go : ∀ {xs : List (List Key × V)} {kvs : List (List Key × AV)}, xs.map (·.1) = kvs.map (·.1) -> zi H O M (xs.map (·.2)) (kvs.map (·.2)) -> jr H O M (xs.map fun kv => if kv.1 = k then (kv.1, u) else kv) (kvs.map fun kv => if kv.1 = k then (kv.1, v) else kv) := by
      intro xs
      induction xs with
      | nil=>intro kvs e q;cases kvs with | nil=>exact ⟨rfl,.nil⟩ | cons _ _=>cases e
      | cons x xs ih=>
        intro kvs e q
        cases kvs with
        | nil=>cases e
        | cons y kvs=>
          obtain ⟨e1,e2⟩:=dX e
          have e1:x.1=y.1:=e1
          obtain ⟨r1,r2⟩:=zi.head q
          obtain ⟨i1,i2⟩:=ih e2 r2
          by_cases c:y.1=k
          · refine ⟨?_,?_⟩
            · rw [aY,aY,aY,aY,if_pos c,if_pos (e1.trans c)];exact nX.mpr ⟨e1,i1⟩
            · rw [aY,aY,aY,aY,if_pos c,if_pos (e1.trans c)];exact .cons r i2
          · refine ⟨?_,?_⟩
            · rw [aY,aY,aY,aY,if_neg c,if_neg (fun z=>c (e1.symm.trans z))];exact nX.mpr ⟨e1,i1⟩
            · rw [aY,aY,aY,aY,if_neg c,if_neg (fun z=>c (e1.symm.trans z))];exact .cons r1 i2
    exact go h.1 h.2
  · exact ⟨by rw [bX,bX,h.1];rfl,by rw [bX,bX];exact h.2.append (.cons r .nil)⟩
variable {p:aw}
theorem JD {l l':List (List Key × AV)}{xs':List (List Key × V)}(w:Wf H O M)(hm:M p=some (.dT l))(r:jr H O M xs' l'):Ext H O M (upd H p (.dT xs')) O (mup M p (.dT l'))/\Wf (upd H p (.dT xs')) O (mup M p (.dT l')):=
 have np:=qY hm
 ⟨jY w np _ _,Qq w np (fun _ z=>nomatch z) ⟨_,zj,r.ext (jY w np _ _)⟩⟩
theorem Ki {H:Hp}{O:Own}{v:V}{ks:List Int}(r:Rep H O v (.tup (ks.map .int))):∃ b,v=.ref b/\H b=some (.tup ((ikT ks).map kV)):=by
 cases r with
 | @tup b xs _ o1 e1 l1 rr=>
  refine ⟨b,rfl,?_⟩
  have go:∀ {ks:List Int} {xs:List V},xs.length=(ks.map Dat.int).length->(∀ (i:Nat) x d,xs[i]?=some x->(ks.map Dat.int)[i]?=some d->Rep H O x d)->xs=(ikT ks).map kV:=by
   intro ks
   induction ks with
   | nil=>intro xs h _;exact eO.mp h
   | cons k ks ih=>
    intro xs h r
    cases xs with
    | nil=>simp at h
    | cons x xs=>rw [zQ (r 0 x (.int k) rfl rfl),ih (xs:=xs) (by simpa using h) fun i y d e1 e2=>r (i+1) y d e1 e2];rfl
  rw [e1,go l1 rr]
noncomputable def Qs (ad ai:AE):AE:=fun ρ M Q=>ad ρ M fun x M1=>ai ρ M1 fun y M2=>∃ (p:aw) (kvs:List (List Key × AV)) (ks:List Int) (v:AV),x=.ref p/\M2 p=some (.dT kvs)/\y=.d (.tup (ks.map .int))/\kM kvs (ikT ks)=some v/\Q v M2
variable {td ty:TE}
theorem Vk {ad ai:AE}(h1:zD td ad)(h2:zD ty ai):zD (Bm td ty) (Qs ad ai):=
 ⟨fun w e q k=>h1.go w e q fun x M1 v H1 O1 q1 k1 w1 r1=>h2.go w1 (e.ext k1) q1 fun y M2 u H2 O2 q2 k2 w2 r2=>by
  obtain ⟨p,kvs,ks,v,rfl,hm,rfl,hv,q⟩:=q2
  cases r1.1
  obtain ⟨b,rfl,hb⟩:=Ki r2
  obtain ⟨xs,hx,kr⟩:=w2.mo p _ hm
  obtain ⟨u,hu,ru⟩:=wc (ikT ks) kr.1 kr.2 hv
  exact ⟨p,u,rfl,by have:=VA.t (k:=ikT ks) hx hb;rw [hu] at this;exact this,k _ _ _ _ _ q (k1.trans k2) w2 ru⟩⟩
noncomputable def vT (ad:AE)(ks:List Int):AE:=fun ρ M Q=>ad ρ M fun x M1=>∃ (p:aw) (kvs:List (List Key × AV)) (v:AV),x=.ref p/\M1 p=some (.dT kvs)/\kM kvs (ikT ks)=some v/\Q v M1
theorem jG {ad:AE}{c:aw}{ks:List Int}(hc:KT1 K c ((ikT ks).map kV))(h1:zD td ad):zD (qK K td (tC (.ref c))) (vT ad ks):=
 ⟨fun w e q k=>h1.go w e q fun x M1 v H1 O1 q1 k1 w1 r1=>by
  obtain ⟨p,kvs,v,rfl,hm,hv,q⟩:=q1
  cases r1.1
  obtain ⟨xs,hx,kr⟩:=w1.mo p _ hm
  obtain ⟨u,hu,ru⟩:=wc (ikT ks) kr.1 kr.2 hv
  exact ⟨p,c,xs,ikT ks,u,rfl,rfl,hx,hc.sq,hu,k _ _ _ _ _ q k1 w1 ru⟩⟩
noncomputable def ZO (ad ai av:AE):AS:=fun _ D ρ M=>av ρ M fun v M1=>ad ρ M1 fun x M2=>ai ρ M2 fun y M3=>∃ (p:aw) (kvs:List (List Key × AV)) (ks:List Int),x=.ref p/\M3 p=some (.dT kvs)/\y=.d (.tup (ks.map .int))/\kvs.length<1000000/\D.nx ρ (mup M3 p (.dT (wG kvs (ikT ks) v)))
theorem YO (h:jr H O M xs kvs):xs.length=kvs.length:=by
 have:=congrArg oH h.1
 simpa using this
variable {tv:TE}
theorem YS {ad ai av:AE}(h1:zD td ad)(h2:zD ty ai)(h3:zD tv av):jg (AX td ty tv) (ZO ad ai av):=
 ⟨fun w0 w e x q E=>h3.go w e q fun z M1 v H1 O1 q1 k1 w1 r1=>h1.go w1 (e.ext k1) q1 fun y M2 u H2 O2 q2 k2 w2 r2=>h2.go w2 ((e.ext k1).ext k2) q2 fun t M3 g H3 O3 q3 k3 w3 r3=>by
  obtain ⟨p,kvs,ks,rfl,hm,rfl,hl,q⟩:=q3
  cases r2.1
  obtain ⟨b,rfl,hb⟩:=Ki r3
  obtain ⟨xs,hx,kr⟩:=w3.mo p _ hm
  obtain ⟨k4,w4⟩:=JD w3 hm (XN (k:=ikT ks) kr ((r1.ext k2).ext k3))
  exact ⟨p,_,rfl,DM.t hx hb (by rw [YO kr];exact bw hl (by decide)),E.nx _ _ _ _ _ w4 ((((e.ext k1).ext k2).ext k3).ext k4) (x.trans (((k1.trans k2).trans k3).trans k4)) q⟩⟩
abbrev ATD:=ASt->MH->(ASt->MH->Prop)->Prop
structure Jm (tr:TR)(a:ATD):Prop where
 go:∀ {σ:St} {H:Hp} {O:Own} {ρ:ASt} {M:MH} {N:St->Hp->Prop} {N':ASt->MH->Prop},Wf H O M->Er H O M σ ρ->a ρ M N'->(∀ σ' H' O' ρ' M',N' ρ' M'->Ext H O M H' O' M'->Wf H' O' M'->Er H' O' M' σ' ρ'->N σ' H')->tr σ H N
def LN (ag:AG)(at_:AT)(tr:ATD)(G:MH->Prop)(N:ASt->MH->Prop)(l:List AV)(ρ:ASt)(M:MH):Prop:=
 ∃ Pv:Nat->ASt->MH->Prop,Pv 0 ρ M/\(∀ i x ρ M,l[i]?=some x->Pv i ρ M->G M/\ag x ρ M fun ρ' M'=>at_ ρ' M' fun b M2=>if b=true then tr ρ' M2 (Pv (i+1)) else Pv (i+1) ρ' M2)/\∀ ρ M,Pv l.length ρ M->G M/\N ρ M
variable {g:TG} {tt:TT} {ag:AG} {J:It} {G:MH->Prop}
theorem Yu {tr:TR} {at_:AT}{ar:ATD}(hg:xM g ag)(ht:kC tt at_)(hr:Jm tr ar) {l:List AV} (hj:xI J H O M l G)(w:Wf H O M) (e:Er H O M σ ρ){N:St->Hp->Prop}{N':ASt->MH->Prop}(q:LN ag at_ ar G N' l ρ M)
  (k:∀ σ' H' O' ρ' M',N' ρ' M'->Ext H O M H' O' M'->Wf H' O' M'->Er H' O' M' σ' ρ'->N σ' H'):CL J g tt tr N σ H:=by
 obtain ⟨Pv,p0,ps,pd⟩:=q
 refine ⟨fun i m σ' H'=>m=l.length - i/\i<=l.length/\∃ O' ρ' M',Wf H' O' M'/\Er H' O' M' σ' ρ'/\Ext H O M H' O' M'/\Pv i ρ' M',⟨l.length,by simp,ci _,O,ρ,M,w,e,.refl,p0⟩,?_⟩
 rintro i m σ1 H1 ⟨rfl,hi,O1,ρ1,M1,w1,e1,x1,hf⟩
 by_cases hil:i<l.length
 ·have hy:l[i]?=some l[i]:=af hil
  obtain ⟨hG,q2⟩:=ps i l[i] ρ1 M1 hy hf
  obtain ⟨j1,j2⟩:=(hj H1 O1 M1 x1.fix x1.mst w1 hG i).2 l[i] hy
  refine .inr ⟨j1,fun σ' H'=>∃ O' ρ' M',Wf H' O' M'/\Er H' O' M' σ' ρ'/\Ext H O M H' O' M'/\Pv (i+1) ρ' M',fun σ' H' z=>⟨l.length - (i+1),by omega,rfl,hil,z⟩,fun v H' hv=>?_⟩
  obtain ⟨k2,w2,r2⟩:=j2 v H' hv
  refine hg.go w2 (e1.ext k2) r2 q2 fun σ3 H3 O3 ρ3 M3 q3 k3 w3 e3=>ht.go w3 e3 q3 fun b M4 H4 O4 q4 k4 w4=>?_
  cases b with
  | false=>
   rw [if_neg bL] at q4 ⊢
   exact ⟨O4,ρ3,M4,w4,e3.ext k4,((x1.trans k2).trans k3).trans k4,q4⟩
  | true=>
   rw [if_pos rfl] at q4 ⊢
   exact hr.go w4 (e3.ext k4) q4 fun σ5 H5 O5 ρ5 M5 q5 k5 w5 e5=>⟨O5,ρ5,M5,w5,e5,(((x1.trans k2).trans k3).trans k4).trans k5,q5⟩
 ·have e0:i=l.length:=by omega
  subst e0
  obtain ⟨hG,q2⟩:=pd ρ1 M1 hf
  exact .inl ⟨(hj H1 O1 M1 x1.fix x1.mst w1 hG l.length).1 rfl,k _ _ _ _ _ q2 x1 w1 e1⟩
noncomputable def Kz (ak av:AE)(D:aw):ATD:=fun ρ M N=>ak ρ M fun y M1=>av ρ M1 fun v M2=>∃ (kvs:List (List Key × AV)) (ks:List Int),y=.d (.tup (ks.map .int))/\M2 D=some (.dT kvs)/\kvs.length<1000/\N ρ (mup M2 D (.dT (wG kvs (ikT ks) v)))
variable {tk:TE} {D:aw}
theorem Vz {ak av:AE} (h1:zD tk ak)(h2:zD tv av):Jm (Qn tk tv D) (Kz ak av D):=
 ⟨fun w e q k=>h1.go w e q fun y M1 v H1 O1 q1 k1 w1 r1=>h2.go w1 (e.ext k1) q1 fun z M2 u H2 O2 q2 k2 w2 r2=>by
  obtain ⟨kvs,ks,rfl,hm,hl,q⟩:=q2
  obtain ⟨b,rfl,hb⟩:=Ki (Rep.ext k2 r1)
  obtain ⟨xs,hx,kr⟩:=w2.mo D _ hm
  obtain ⟨k4,w4⟩:=JD w2 hm (XN (k:=ikT ks) kr r2)
  exact ⟨xs,ikT ks,b,rfl,hx,hb,by rw [YO kr];exact bw hl (by decide),k _ _ _ _ _ q ((k1.trans k2).trans k4) w4 (((e.ext k1).ext k2).ext k4)⟩⟩
noncomputable def Xf (ai:AI)(ag:AG)(at_:AT)(tr:aw->ATD)(D:aw):ATD:=fun ρ M N=>ai ρ M fun l G M1=>LN ag at_ (tr D) G N l ρ M1
variable {wi:TI} {ai:AI} {ar:aw->ATD}
theorem V5 {tr:aw->TR} {at_:AT} (hi:y6 wi ai)(hg:xM g ag)(ht:kC tt at_)(hr:Jm (tr D) (ar D)):Jm (Qc wi g tt tr D) (Xf ai ag at_ ar D):=
 ⟨fun w e q k=>hi.go w e q fun l G M1 J H1 O1 q1 k1 w1 hj=>Yu hg ht hr hj w1 (e.ext k1) q1 fun σ' H' O' ρ' M' n k2 w2 e2=>k _ _ _ _ _ n (k1.trans k2) w2 e2⟩
def Qr (tr:aw->TR)(ar:aw->ATD):Prop:=∀ D,Jm (tr D) (ar D)
theorem Xg {ak av:AE}(h1:zD tk ak)(h2:zD tv av):Qr (Qn tk tv) (Kz ak av):=fun _=>Vz h1 h2
theorem Ke {tr:aw->TR} {at_:AT} (hi:y6 wi ai)(hg:xM g ag)(ht:kC tt at_)(hr:Qr tr ar):Qr (Qc wi g tt tr) (Xf ai ag at_ ar):=fun D=>V5 hi hg ht (hr D)
noncomputable def V8 (ts:List Nat)(ai:AI)(ag:AG)(at_:AT)(tr:aw->ATD):AE:=fun ρ M Q=>ai ρ M fun l G M1=>∀ D,M1 D=none->LN ag at_ (tr D) G (fun _ M2=>Q (.ref D) M2) l (JZ ts ρ) (mup M1 D (.dT []))
theorem xI.ext {H H1:Hp}{O O1:Own}{M M1:MH}{l:List AV} (h:xI J H O M l G)(k:Ext H O M H1 O1 M1):xI J H1 O1 M1 l G:=fun H' O' M' fix mst w' hG=>h H' O' M' (fun a o h1 e=>let ⟨e1,h2⟩:=k.fix a o h1 e;fix a o h2 e1) (fun a ha=>mst a (k.mst a ha)) w' hG
variable {ts:List Nat}
theorem YW {tr:aw->TR} {at_:AT} (hi:y6 wi ai)(hg:xM g ag)(ht:kC tt at_)(hr:Qr tr ar):zD (JJ ts wi g tt tr) (V8 ts ai ag at_ ar):=
 ⟨fun w e q k=>hi.go w e q fun l G M1 J H1 O1 q1 k1 w1 hj D hD=>by
  have kx:=vp w1 hD (.dT []) (.dT [])
  have wx:Wf (upd H1 D (.dT [])) (xW O1 D) (mup M1 D (.dT [])):=Kj w1 hD (fun _ z=>nomatch z) ⟨[],zj,rfl,.nil⟩
  refine Yu hg ht (hr D) (hj.ext kx) wx (((e.ext k1).ext kx).clr ts) (q1 D (w1.fresh hD).2) fun σ' H' O' ρ' M' n k2 w2 e2=>k _ _ _ _ _ n ((k1.trans kx).trans k2) w2 ⟨rfl,k2.mst D (by rw [zk];exact fun z=>nomatch z)⟩⟩
section
variable {X:Cx}{ts:List Nat}{scope:Scope}{tg iter kx vx:Expr}{ifs:List Expr}{qi:List dG}{wi:TI}{g:TG}{tt:TT}{tr:aw->TR}{pos:Pos}
theorem Wp {j:Nat}{y:Str}{py spos:Pos}(hc:X.calm=true)(hN:X.N.Nodup)(hj:X.N[j]?=some y)(hy:Loc X.env.scope y)(hsc:Jf X.N ts scope X.env.kindOf=true)(hi:PI X tg iter wi)(hg:∀ cl s H fp,PG (cxC X scope cl s H fp) tg g)(ht:∀ cl s H fp,PIf (cxC X scope cl s H fp) ifs tt)
  (hr:∀ cl s H fp D,PRd (cxC X scope cl s H fp) kx vx (⟨tg,iter,ifs,0⟩ :: qi) scope pos 0 D (tr D)) (hn:∀ g',qi[0]?=some g'->g'.is_async=0:=by intro _ e;cases e;rfl)
  (hsw:ik (.DictComp kx vx (⟨tg,iter,ifs,0⟩ :: qi) scope pos) (some (.Name y py)) spos.line X.env=pure true:=by rfl)
  (hs:∀ x,cJ iter X.env x=pure x:=by intro _;rfl) (hf:X.fn y=true \/ X.env.scope.names.lookup y=some .local:=by first | exact .inl rfl | exact .inr rfl | assumption) :
  PS X (.Assign [.Name y py] (.DictComp kx vx (⟨tg,iter,ifs,0⟩ :: qi) scope pos) spos) (ZE (JJ ts wi g tt tr) (wj j)):=by
 intro pins s σ H D I h
 rw [exec_Assign_Name_used _ _ _ _ hsw]
 refine am (cz (am ?_))
 show aK _ _ (do let _ <- i9 (.DictComp kx vx (⟨tg,iter,ifs,0⟩ :: qi) scope pos) scope X.env _ newDict false (eval iter X.env) (some (iq (.Name y py) X.env))) _ _ s
 refine am (aO (V3 hc hsc hi hn hg ht hr I h (use:=some (iq (.Name y py) X.env)) (Q':=fun _ s'=>SP X pins D .next s') (fun D' C H' s' I' ⟨m,hn⟩ hC hL hce hsz hp hfs q=>?_) hs) (fun _ s' hq=>aA (aA hq)) fun _ _ e=>e)
 show aK _ _ (iq (.Name y py) X.env (.ref D')) _ _ _
 refine iT (yD (v:=.ref D') I' hN hj hy rfl (fun s2 I2 ⟨a,hsb,ha⟩=>?_) hf)
 have hCa:C ≠ a:=by
  rcases ha with rfl | ha
  ·exact hL
  ·exact Ne.symm (hce y a ha)
 refine ⟨m,hn.sameBut hsb hCa,fun h' hs'=>?_⟩
 exact ⟨_,H',I2.turned (t':=s2.toks) (it:=C) (fun b o hb e=>(hs'.2 b hb).trans e) hC hL (.inr hsz) hce hp,q⟩
end
theorem WU (w:Wf H O M) (hp:H p=none){x y z:V}{d e f:Dat}(r1:Rep H O x d)(r2:Rep H O y e)(r3:Rep H O z f):Ext H O M (upd H p (.tup [x,y,z])) O M/\Wf (upd H p (.tup [x,y,z])) O M/\zq (upd H p (.tup [x,y,z])) O M (.ref p) (.d (.tup [d,e,f])):=
 ⟨z0 w hp _,jP w hp _,Rep.tup (w.fresh hp).1 zj rfl fun i u v h1 h2=>by
  match i,h1,h2 with
  | 0,h1,h2=>cases h1;cases h2;exact r1.ext (z0 w hp _)
  | 1,h1,h2=>cases h1;cases h2;exact r2.ext (z0 w hp _)
  | 2,h1,h2=>cases h1;cases h2;exact r3.ext (z0 w hp _)
  | _+3,h1,h2=>simp at h1⟩
noncomputable def Zq (m n r:List Dat):List AV:=(m.zip (n.zip r)).map fun z=>.d (.tup [z.1,z.2.1,z.2.2])
noncomputable def Lj (a:AA):AI:=fun ρ M R=>a ρ M fun xs M1=>∃ x y z m n r,xs=[x,y,z]/\zY x M1=some (bp AV.d m)/\zY y M1=some (bp AV.d n)/\zY z M1=some (bp AV.d r)/\m.length=n.length/\n.length=r.length/\R (Zq m n r) (fun M'=>zY x M'=zY x M1/\zY y M'=zY y M1/\zY z M'=zY z M1) M1
theorem ZT {t:TA}{a:AA}(h:jq t a):y6 (vL K t) (Lj a):=⟨fun w e q k=>h.go w e q fun xs M1 v H1 O1 ⟨x,y,z,m,n,r,e1,hx,hy,hz,l1,l2,q1⟩ k1 w1 r1=>by
 subst e1
 obtain ⟨v1,r',rfl,a1,r2⟩:=r1.cons_inv
 obtain ⟨v2,r',rfl,a2,r3⟩:=r2.cons_inv
 obtain ⟨v3,r',rfl,a3,r4⟩:=r3.cons_inv
 rw [r4.nil_inv]
 obtain ⟨a,xs,rfl,h1,_⟩:=zX w1 a1 hx
 obtain ⟨b,ys,rfl,h2,_⟩:=zX w1 a2 hy
 obtain ⟨c,zs,rfl,h3,_⟩:=zX w1 a3 hz
 refine ⟨a,b,c,rfl,⟨xs,SqL.of h1⟩,⟨ys,SqL.of h2⟩,⟨zs,SqL.of h3⟩,k _ _ _ _ _ _ q1 k1 w1 ?_⟩
 intro H' O' M' fix mst w' hG i
 obtain ⟨a',xs,e,h1,p1⟩:=zX w' (a1.imp fix mst) (hG.1.trans hx)
 cases e
 obtain ⟨b',ys,e,h2,p2⟩:=zX w' (a2.imp fix mst) (hG.2.1.trans hy)
 cases e
 obtain ⟨c',zs,e,h3,p3⟩:=zX w' (a3.imp fix mst) (hG.2.2.trans hz)
 cases e
 have g1:=p1.1
 rw [az] at g1
 have gl:(Zq m n r).length=m.length:=by unfold Zq;rw [az,cD,cD];omega
 refine ⟨fun e=>⟨xs,SqL.of h1,by omega⟩,fun y hy=>?_⟩
 have hi:=(aF.mp hy).1
 rw [gl] at hi
 have i2:i<n.length:=by omega
 have i3:i<r.length:=by omega
 have ey:y=.d (.tup [m[i],n[i],r[i]]):=by
  unfold Zq at hy
  have z1:(n.zip r)[i]?=some (n[i],r[i]):=by rw [fP];exact ⟨af i2,af i3⟩
  have z2:(m.zip (n.zip r))[i]?=some (m[i],(n[i],r[i])):=by rw [fP];exact ⟨af hi,z1⟩
  rw [aD,z2] at hy
  cases hy;rfl
 subst ey
 obtain ⟨v,hv,rv⟩:=p1.get (i:=i) (d:=.d m[i]) (by rw [aD,af hi];rfl)
 obtain ⟨u,hu,ru⟩:=p2.get (i:=i) (d:=.d n[i]) (by rw [aD,af i2];rfl)
 obtain ⟨t,ht,rt⟩:=p3.get (i:=i) (d:=.d r[i]) (by rw [aD,af i3];rfl)
 refine ⟨⟨xs,ys,zs,v,u,t,SqL.of h1,SqL.of h2,SqL.of h3,hv,hu,ht⟩,fun z H'' hz=>?_⟩
 obtain ⟨p,x',y',z',hp,rfl,e2,e3,e4,rfl⟩:=hz
 have:=e2 xs (SqL.of h1)
 rw [hv] at this;cases this
 have:=e3 ys (SqL.of h2)
 rw [hu] at this;cases this
 have:=e4 zs (SqL.of h3)
 rw [ht] at this;cases this
 exact WU w' hp rv ru rt⟩
noncomputable def wg (n:Nat)(is:List Nat)(te:TE)(D:aw):List (List V)->St->Hp->(Hp->Prop)->Prop
 | [],_,H,N=>N H
 | vs :: r,σ,H,N=>σ.length=n/\te (setAll is vs σ) H fun v H5=>∃ ys,H5 D=some (.lst ys)/\ys.length<aM/\wg n is te D r (setAll is vs σ) (upd H5 D (.lst (ys ++ [v]))) N
noncomputable def BS (ts:List Nat)(n:Nat)(is:List Nat)(te:TE)(vss:List (List V)):TE:=fun σ H Q=>∀ D,H D=none->wg n is te D vss (clr ts σ) (upd H D (.lst [])) fun H'=>Q (.ref D) H'
variable {te:TE}
theorem We {is:List Nat} {N:Hp->Prop} (e:l[i]?=some vs)(h:wg n is te D (l.drop i) σ H N):σ.length=n/\te (setAll is vs σ) H fun v H5=>∃ ys,H5 D=some (.lst ys)/\ys.length<aM/\wg n is te D (l.drop (i+1)) (setAll is vs σ) (upd H5 D (.lst (ys ++ [v]))) N:=by
 have:l.drop i=vs :: l.drop (i+1):=by
  obtain ⟨hl,rfl⟩:=aF.mp e
  exact ez hl
 rw [this] at h
 exact h
section
variable {X:Cx}{es:List Expr}{kt:Nat}{tp gp:Pos}{elt:Expr}{scope:Scope}{pos:Pos}{te:TE}{g:Str}{a:aw}{is ts:List Nat}
theorem Fh {bs:List aw}{vss:List (List V)} (hK:X.K=K)(hc:X.calm=true)(hsc:Jf X.N ts scope X.env.kindOf=true)(hg:Gl X g)(hm:X.mg g=some (.ref a))(ha:KT1 K a (bs.map .ref))(hb:∀ (j:Nat) (c:aw) vs,bs[j]?=some c->vss[j]?=some vs->KT1 K c vs)(hl:bs.length=vss.length)(hv:∀ vs ∈ vss,is.length=vs.length)
  (hgs:∀ cl s H fp,PG (cxC X scope cl s H fp) (.Tuple es kt tp) (Kr K is.length (WR is))) (he:∀ cl s H fp,PE (cxC X scope cl s H fp) elt te)
  (hd:(g == ("__debug__":Str))=false:=by decide) (hs:∀ x,cJ (.Name g gp) X.env x=pure x:=by intro _;rfl) :
  PE X (.ListComp elt [⟨.Tuple es kt tp,.Name g gp,[],0⟩] scope pos) (BS ts X.N.length is te vss):=by
 subst hK
 intro pins s σ H Q I h
 refine qR hc hsc (Ed (Yg (v:=.ref a) hg hm rfl hd)) hgs (fun _ _ _ _=>qg) he hs pins s σ H Q I ?_
 refine ⟨a,rfl,⟨_,ha.sq⟩,fun D hD=>?_⟩
 refine YB (xs:=bs.map .ref) (g:=Kr X.K is.length (WR is)) (tb:=fun E τ2 H3=>XF τ2 H3 fun b H4=>if b=true then te τ2 H4 fun v H5=>∃ ys,H5 D=some (.lst ys)/\ys.length<aM/\E.nx τ2 (upd H5 D (.lst (ys ++ [v]))) else E.nx τ2 H4) (D:={ nx:=fun _ H2=>Q (.ref D) H2,rt:=fun _ _=>False }) (fun i σ H=>wg X.N.length is te D (vss.drop i) σ H fun H'=>Q (.ref D) H') (h D hD) (fun _ _ _ _ _=>ha.sq) (fun i x σ H hx q=>?_) fun σ H q=>?_
 ·rw [aD] at hx
  cases hc:bs[i]? with
  | none=>rw [hc] at hx;cases hx
  | some c=>
   rw [hc] at hx;cases hx
   have hi:i<vss.length:=by rw [<- hl];exact (aF.mp hc).1
   have e:=af hi
   obtain ⟨q1,q2⟩:=We e q
   have hvl:=hv _ (bh hi)
   refine ⟨c,_,rfl,(hb i c _ hc e).sq,hvl.symm,Z1 hvl ?_⟩
   show te _ _ _
   exact q2
 ·rw [az,hl,lH] at q
  exact q
end
noncomputable def yV (n:Nat)(is:List Nat)(ae:AE):List (List (Option AV))->List AV->ASt->MH->(List AV->MH->Prop)->Prop
 | [],acc,_,M,N=>N acc M
 | xs :: r,acc,ρ,M,N=>ρ.length=n/\ae (Zd is xs ρ) M fun x M1=>acc.length<aM/\yV n is ae r (acc ++ [x]) (Zd is xs ρ) M1 N
noncomputable def Bs (ts:List Nat)(n:Nat)(is:List Nat)(ae:AE)(xss:List (List (Option AV))):AF:=fun ρ M Q=>yV n is ae xss [] (JZ ts ρ) M Q
inductive Di:List (List V)->List (List (Option AV))->Prop
 | nil:Di [] []
 | cons {vs:List V} {xs:List (Option AV)} {vss:List (List V)} {xss:List (List (Option AV))}:VOs vs xs->Di vss xss->Di (vs :: vss) (xs :: xss)
theorem Eg {n:Nat}{is:List Nat}{te:TE}{ae:AE}{D:aw}(he:zD te ae){vss:List (List V)}{xss:List (List (Option AV))}(hv:Di vss xss):∀ {σ:St} {H:Hp} {O:Own} {ρ:ASt} {M:MH} {acc:List AV} {ys:List V} {N:Hp->Prop} {N':List AV->MH->Prop},Wf H O M->Er H O M σ ρ->O D->M D=none->H D=some (.lst ys)->zi H O M ys acc->yV n is ae xss acc ρ M N' ->
  (∀ acc' M' H' O' ys',N' acc' M'->yE D H O M H' O' M'->Wf H' O' M'->O' D->M' D=none->H' D=some (.lst ys')->zi H' O' M' ys' acc'->N H')->wg n is te D vss σ H N:=by
 induction hv with
 | nil=>exact fun w e o m hd r q k=>k _ _ _ _ _ q Ext.refl.x w o m hd r
 | cons h1 _ ih=>
  intro σ H O ρ M acc ys N N' w e o m hd r q k
  refine ⟨e.len.trans q.1,?_⟩
  refine (we (D:=D) he).go (N:=fun σ' H'=>wg n is te D _ σ' H' N) (N':=fun acc' ρ' M'=>yV n is ae _ acc' ρ' M' N') w (e.setAll h1) o m hd r q.2 fun acc' ρ' M' σ' H' O' ys' q5 k5 w5 e5 o5 m5 d5 r5=>ih w5 e5 o5 m5 d5 r5 q5 fun acc2 M2 H2 O2 ys2 q6 k6 w6 o6 m6 d6 r6=>k _ _ _ _ _ q6 (k5.trans k6) w6 o6 m6 d6 r6
theorem Xd {is:List Nat} {ae:AE}{vss:List (List V)}{xss:List (List (Option AV))}(hv:Di vss xss)(he:zD te ae):QN (BS ts n is te vss) (Bs ts n is ae xss):=⟨fun {σ H O ρ M Q Q'} w e q k=>by
 intro D hD
 have kp:=qv w hD (.lst [])
 refine Eg he hv (j6 w hD _ (fun _ z=>nomatch z)) ((e.clr ts).ext kp) (.inl rfl) (w.fresh hD).2 zj .nil q fun acc' M' H' O' ys' q5 k5 w5 o5 m5 d5 r5=>?_
 refine k _ _ _ _ _ _ q5 ⟨fun a o ha ho=>?_,fun a ha hm=>?_,fun a hm=>k5.mst a hm⟩ w5 o5 m5 hD d5 r5
 ·obtain ⟨x1,x2⟩:=kp.fix a o ha ho
  exact k5.fix a o x2 x1
 ·obtain ⟨x1,x2,x3⟩:=kp.prv a ha hm
  obtain ⟨y1,y2,y3⟩:=k5.prv a (fun z=>w.ne a ha (by rw [z];exact hD)) x2 x3
  exact ⟨y1.trans x1,y2,y3⟩⟩
variable {prog:aX}
theorem xZ {sl:aw}{vl vu vs:aj} {Q:Int × Int × Nat->au->Prop}(hn:0<n)(hs:s.heap.IsSliceOf sl vl vu vs)(pl:eX vl none)(pu:eX vu (some 0))(ps:eX vs (some (-1)))
  (h:Q ((n:Int) - 1,-1,n - 1) s):aK (aL prog w) A (cM (.ref sl) (pure (n:Int))) Q E s:=by
 obtain ⟨os,hos,hcs,hds⟩:=id hs
 unfold cM fO
 refine am (am (bO hos hds (x:=vl) rfl (am (bO hos hds (x:=vu) rfl (am (bO hos hds (x:=vs) rfl (aA ?_)))))))
 refine am (HT.slicePart_ ps ?_)
 show aK _ _ (if ((-1:Int) == 0)=true then _ else _) _ _ s
 rw [if_neg (by decide)]
 refine am (HT.slicePart_ pl (am (HT.slicePart_ pu (am (aA ?_)))))
 have ea:dC none (some 0) ((some (-1:Int)).getD 1) (n:Int)=((n:Int) - 1,0):=by
  unfold dC
  simp
  omega
 rw [ea]
 show aK _ _ (pure ((n:Int) - 1,(-1:Int),bP ((n:Int) - 1) 0 (-1))) _ _ s
 have e:bP ((n:Int) - 1) 0 (-1)=n - 1:=by
  unfold bP
  rw [if_neg (by decide)]
  split
  ·rw [show - -(1:Int)=1 from rfl,lO];omega
  ·omega
 rw [e]
 exact aA h
theorem Vl (xs:List aj):((bT (xs.length - 1)).filterMap fun (m:Nat)=>xs.toArray[(((xs.length:Int) - 1)+(m:Int) * -1).toNat]?)=(xs.drop 1).reverse:=by
 have hl:(xs.drop 1).length=xs.length - 1:=bN
 have go:∀ (ks:List Nat),(∀ k ∈ ks,k<xs.length - 1)->(ks.filterMap fun (m:Nat)=>xs.toArray[(((xs.length:Int) - 1)+(m:Int) * -1).toNat]?)=ks.map fun k=>(xs.drop 1).reverse.getD k .none:=by
  intro ks
  induction ks with
  | nil=>intro _;rfl
  | cons k ks ih=>
   intro hk
   have h0:=hk k (by simp)
   have e1:(((xs.length:Int) - 1)+(k:Int) * -1).toNat=xs.length - 1 - k:=by omega
   have e2:xs.toArray[(((xs.length:Int) - 1)+(k:Int) * -1).toNat]?=some ((xs.drop 1).reverse.getD k .none):=by
    rw [e1,fg,aq,ei (by omega),nE,hl,show 1+(xs.length - 1 - 1 - k)=xs.length - 1 - k by omega,af (by omega)];rfl
   rw [dH (f:=fun (m:Nat)=>xs.toArray[(((xs.length:Int) - 1)+(m:Int) * -1).toNat]?) e2,ih fun j hj=>hk j (by simp [hj])];rfl
 rw [go _ fun k hk=>by simpa using hk]
 refine dM fun i=>?_
 rw [aD]
 by_cases h:i<xs.length - 1
 ·rw [cF h,af (by rw [bn];omega)]
  show some ((xs.drop 1).reverse.getD i .none)=_
  rw [aq,af (by rw [bn];omega)];rfl
 ·rw [bA (by rw [cK];omega),bA (by rw [bn];omega)];rfl
theorem xU {t sl:aw}{xs:List aj}{vl vu vs:aj} (hn:0<xs.length)(ht:nH s.heap t xs.toArray)(hs:s.heap.IsSliceOf sl vl vu vs)(pl:eX vl none)(pu:eX vu (some 0))(ps:eX vs (some (-1)))
  (h:Q (.ref s.heap.objs.size) { s with heap:=s.heap.push { cls:=.type "tuple",data:=.seq (xs.drop 1).reverse.toArray } })
  (hsz:xs.length<=aM):aK (aL prog w) A (fZ (.ref t) (.ref sl)) Q E s:=by
 have htake:sizeOk (.seq (xs.drop 1).reverse.toArray):=by
  show (xs.drop 1).reverse.toArray.size<=aM
  rw [aG,bn,bN];omega
 obtain ⟨os,hos,hcs,hds⟩:=id hs
 have hTs:s.TypeIs (.ref sl) "slice":=⟨os,hos,hcs⟩
 unfold fZ
 try with_reducible refine cq ?_
 first | refine am (aA ?_) | skip
 refine am (iY ht.typeIs (by decide) ?_)
 refine am (cy (name:=ap "__getitem__") ht.typeIs bG
  (df bG ht.typeIs gE ?_ (gI _ _)))
 show aK _ _ (fC (.ref t) >>= _) _ _ s
 refine am (tupleItemsOf_ ht ?_)
 refine am (ib hTs ?_)
 rw [if_pos (by decide)]
 refine am (xZ (by rw [aG];exact hn) hs pl pu ps ?_)
 have hno:¬ ((((xs.toArray.size:Int) - 1) == 0 && (-1:Int) == 1 && (xs.toArray.size - 1) == xs.toArray.size)=true):=by
  intro q
  rw [b7,b7] at q
  exact absurd q.1.2 (by decide)
 show aK _ _ (if (((xs.toArray.size:Int) - 1) == 0 && (-1:Int) == 1 && (xs.toArray.size - 1) == xs.toArray.size)=true then _ else _) _ _ s
 have ep:=Vl xs
 rw [if_neg hno]
 rw [aG]
 rw [ep]
 first
  | exact am (m:=bF _) (bI (aA ⟨_,rfl,aA h⟩) htake)
  | exact am (m:=bF _) (bI (am (aA (aA ⟨_,rfl,aA h⟩))) htake)
  | exact am (am (m:=bF _) (bI (aA (aA ⟨_,rfl,aA h⟩)) htake))
  | exact am (am (m:=bF _) (bI (aA ⟨_,rfl,aA h⟩) htake))
noncomputable def G9 (K:ax)(te:TE)(th ts:TO):TE:=fun σ H Q=>te σ H fun x H1=>th σ H1 fun u H2=>u=some 0/\ts σ H2 fun z H3=>z=some (-1)/\∃ a xs,x=.ref a/\SqT K H3 a xs/\0<xs.length/\∀ p,H3 p=none->Q (.ref p) (upd H3 p (.tup (xs.drop 1).reverse))
section
variable {X:Cx}{e hi st:Expr}{te:TE}{th ts:TO}{p2 pos:Pos}{K:ax}
theorem VW (hK:X.K=K)(he:PE X e te)(hh:PO X (some hi) th)(hst:PO X (some st) ts):PE X (.Subscript e (.Slice none (some hi) (some st) p2) pos) (G9 K te th ts):=by
 subst hK
 intro pins s σ H Q I h
 refine lR (thn (he pins s σ H _ I h) fun v s1 ⟨x,H1,I1,r1,q1⟩=>?_)
 refine wpAny_Slice (thn (zF pins s1 σ H1 (fun z H2=>z=none/\th σ H2 fun u H2=>u=some 0/\ts σ H2 fun z H3=>z=some (-1)/\∃ a xs,x=.ref a/\SqT X.K H3 a xs/\0<xs.length/\∀ p,H3 p=none->Q (.ref p) (upd H3 p (.tup (xs.drop 1).reverse))) I1 ⟨rfl,q1⟩) fun vl s2 ⟨l,H2,I2,pl,e1,q2⟩=>thn (hh pins s2 σ H2 _ I2 q2) fun vu s3 ⟨u,H3,I3,pu,e2,q3⟩=>thn (hst pins s3 σ H3 _ I3 q3) fun vs s4 ⟨z,H4,I4,pz,e3,q4⟩=>?_)
 subst e1 e2 e3
 have I5:Inv X pins σ H4 { s4 with heap:=s4.heap.push { cls:=.type "slice",data:=.fields #[vl,vu,vs] } }:=I4.kept (t':=s4.toks) fun b ob q=>ay _ q
 obtain ⟨a,xs,rfl,hx,hn,q⟩:=q4
 cases r1
 obtain ⟨its,r,ht,hz⟩:=I5.tuple hx
 show aK (aL X.prog X.w) X.A (fX e (.Slice none (some hi) (some st) p2) (.ref a) (.ref s4.heap.objs.size)) (EP X pins σ Q) X.xe { s4 with heap:=s4.heap.push { cls:=.type "slice",data:=.fields #[vl,vu,vs] } }
 refine tail_any (ops:=[.ref a,.ref s4.heap.objs.size]) ht.typeIs bG.lookup ?_ rfl
 refine xU (by rw [<- r.length];exact hn) ht (gj ..) pl pu pz ?_ (by rw [<- r.length];exact hz)
 refine ⟨.ref _,_,I5.laid (t':=s4.toks) (o:=.tup (xs.drop 1).reverse) (fun b ob q=>ay _ q) (aJ _) ?_,rfl,q _ (I5.hok.fresh (aJ _))⟩
 exact ⟨by rw [bn,bN];omega,_,zw.rev (r.drop 1),y9.new _ _⟩
end
noncomputable def Hd (a:AE)(hi st:AO):AE:=fun ρ M Q=>a ρ M fun x M1=>hi ρ M1 fun u M2=>u=some 0/\st ρ M2 fun z M3=>z=some (-1)/\∃ l,x=.d (.tup l)/\0<l.length/\Q (.d (.tup (l.drop 1).reverse)) M3
theorem D7 {t:TE}{th ts:TO}{a:AE}{hi st:AO}(h1:zD t a)(h2:QB th hi)(h3:QB ts st):zD (G9 K t th ts) (Hd a hi st):=
 ⟨fun w e q k=>h1.go w e q fun x M1 v H1 O1 q1 k1 w1 r1=>h2.go w1 (e.ext k1) q1 fun u M2 H2 O2 ⟨hu,q2⟩ k2 w2=>⟨hu,h3.go w2 (e.ext (k1.trans k2)) q2 fun z M3 H3 O3 ⟨hz,l,hl,hn,q3⟩ k3 w3=>⟨hz,by
  subst hl
  have k13:=(k1.trans k2).trans k3
  obtain ⟨a,xs,rfl,e1,p1⟩:=jv (l:=l.map .d) (r1.ext (k2.trans k3)) rfl
  have pl:=p1.1
  rw [az] at pl
  have p2:=(p1.drop 1).reverse
  rw [<- lg,<- gO] at p2
  exact ⟨a,xs,rfl,SqT.of e1,by omega,fun p hp=>k _ _ _ _ _ q3 (k13.trans (z0 w3 hp _)) (jP w3 hp _) (yg w3 hp p2)⟩⟩⟩⟩
theorem qx {X:Cx}:qG X (.builtin "sorted") (fun xs H Q=>∃ p ns,xs=[.ref p]/\(SqL X.K H p (bp V.int ns) \/ SqT X.K H p (bp V.int ns))/\ns.length<=63/\∀ l ns',H l=none->ns'.Perm ns->ns'.Pairwise (·<=·)->Q (.ref l) (upd H l (.lst (bp V.int ns')))):=by
 rintro pins s σ H xs us Q I r ⟨p,ns,e,hq | hq,h64,q⟩
 ·exact Qd _ _ _ _ _ _ _ I r ⟨p,ns,e,hq,by omega,q⟩
 ·exact QD _ _ _ _ _ _ _ I r ⟨p,ns,e,hq,by omega,q⟩
noncomputable def vY:List AV->MH->(List AV->Prop)->Prop:=fun xs M Q=>∃ x ns,xs=[x]/\qz x M=some (bp (fun i=>AV.d (.int i)) ns)/\ns.length<=63/\∀ ns',ns'.Perm ns->i8 (fun x1 x2=>x1<=x2) ns'->Q (bp (fun i=>AV.d (.int i)) ns')
theorem xX:Yb (fun xs H Q=>∃ p ns,xs=[V.ref p]/\(SqL K H p (bp V.int ns) \/ SqT K H p (bp V.int ns))/\ns.length<=63/\∀ (l:aw) (ns':List Int),H l=none->ns'.Perm ns->i8 (fun x1 x2=>x1<=x2) ns'->Q (V.ref l) (upd H l (HO.lst (bp V.int ns')))) vY:=⟨fun w r ⟨x,ns,e,h,hl,q⟩ k=>by
 subst e
 obtain ⟨v,rfl,rv⟩:=qV r
 obtain ⟨a,xs,rfl,h1,r1⟩:=QF w rv h
 rw [xh r1] at h1
 exact ⟨a,ns,rfl,h1.imp SqL.of SqT.of,hl,fun l ns' hp h2 h3=>k _ _ (q ns' h2 h3) (Ql ns') l hp⟩⟩
theorem KA {u:TA}{b:AA}(h:jq u b):zD (tCB (fun xs H Q=>∃ p ns,xs=[V.ref p]/\(SqL K H p (bp V.int ns) \/ SqT K H p (bp V.int ns))/\ns.length<=63/\∀ (l:aw) (ns':List Int),H l=none->ns'.Perm ns->i8 (fun x1 x2=>x1<=x2) ns'->Q (V.ref l) (upd H l (HO.lst (bp V.int ns')))) u) (aFz (fCB vY b)):=yv (Qx xX h)
end L2
namespace Ot
open PySem PySem.Spec PyProof.Rows L2
noncomputable def top (i:Nat):de:=PySem.Challenge.pw_ownturn_k50_exchanges_shown.main.body.getD i (.Pass ⟨0,0,0,0⟩)
section
variable {P:aX}{w:bB}{K:ax}{mg:Str->Option aj}{base:Heap}{k:Nat}
local macro_rules | `(tactic| walk_at "rd")=>do
 let t:=("XF BV F9 BW tOp tUn rU qT tC tB EQ LX XZ rI0 rI ZE wj Lv YM B9 Kr YE FX IX tCB qW vF Ym GG KM E9 E2 HL FT tBM vn vh Y5 LM En Bm Zf Xo IM F0 BZ DV ipI Ky Lw Xt Y7 VV tOr HK Lk DT DN IH Z8 Bc cxK BM LY iLT GV Qf IB AX tSl DS ZL Ig List.append_nil List.getElem?_cons_zero List.getElem?_cons_succ Option.some.injEq exists_eq_left' exists_eq_left V.int.injEq V.ref.injEq V.bl.injEq List.cons.injEq and_true true_and and_assoc decide_eq_true_eq Bool.not_eq_true' decide_eq_false_iff_not Bool.false_eq_true if_false if_true reduceIte exists_and_left exists_and_right List.set_cons_zero List.set_cons_succ List.nil_append List.cons_append".splitOn " ").toArray.map fun s=>(me s.toName:Lean.Ident)
 `(tactic| try simp only [$[$t:ident],*])
variable {H:Hp} {a b:aw}
theorem xp {o:HO}(h':H b=none)(h:H a=some o):a ≠ b:=zo h h'
variable {H':Hp}
theorem Ji {l:aw}(h:H' l=none)(e:Kp [] H H'):H l=none:=e.free h
theorem Kn {xs:List V}(h:SqL K H a xs)(e:Kp [] H H'):SqL K H' a xs:=by
 rcases h with (h | ⟨o,h⟩) | h
 ·exact .inl (.inl (e _ _ (by simp) h))
 ·exact .inl (.inr ⟨o,e _ _ (by simp) h⟩)
 ·exact .inr h
theorem hsl:100000<aM:=by rw [cC];decide
theorem Iz {α:Type}(k:Nat)(v:α):(aS k [v]).flatten=aS k v:=by simp
variable {j:Int}
theorem kD (i:Int) (h:0<j):0<=i % j/\i % j<j:=⟨Int.emod_nonneg _ (by omega),Int.emod_lt_of_pos _ h⟩
variable {i:Int}
theorem Xj (h1:0<=i)(h2:i<18446744073709551616):Aa i j:=.inl ⟨by omega,by omega⟩
theorem Xk (h1:0<=j)(h2:j<18446744073709551616):Aa i j:=.inr ⟨by omega,by omega⟩
theorem b01 (c:Prop)[Decidable c]:0<=(if c then (1:Int) else 0):=by split <;> decide
theorem Yl (h1:0<j)(h2:j<1073741824):Hr i j:=⟨h1,h2⟩
local macro_rules | `(tactic| walk_at "ne")=>`(tactic| first | (with_reducible assumption) | exact Ne.symm (by with_reducible assumption) | exact xp (by with_reducible assumption) (by walk_at "hp") | exact Ne.symm (xp (by with_reducible assumption) (by walk_at "hp")))
local macro_rules | `(tactic| walk_at "hp")=>`(tactic| first | (with_reducible assumption) | (with_reducible exact zj) | ((with_reducible refine Eq.trans (zg ?ne) ?_);(case ne=>walk_at "ne");walk_at "hp"))
local macro_rules | `(tactic| walk_at "kp")=>`(tactic| first | (with_reducible assumption) | (with_reducible exact Kp.refl) | ((with_reducible refine Kp.trans ?_ (Kp.new _ ?h));(case h=>with_reducible assumption);walk_at "kp") | ((with_reducible refine Kp.trans ?_ (Kp.set _ ?h));(case h=>(simp;done));walk_at "kp"))
local macro_rules | `(tactic| walk_at "fr")=>`(tactic| first | (with_reducible assumption) | exact Ji (by with_reducible assumption) (by walk_at "kp"))
local macro_rules | `(tactic| walk_at "sz")=>`(tactic| (simp only [aN,bV,az,bc,ef,cg,bN,jX,Iz,Nat.zero_add,Nat.one_mul];omega))
local macro_rules | `(tactic| walk_at "fact")=>`(tactic| first | (with_reducible assumption) | exact rfl | exact SqL.of (by walk_at "hp") | exact SqT.of (by walk_at "hp") | exact bf (SqL.of (by walk_at "hp")) | exact bg (SqT.of (by walk_at "hp")) | exact bf (by with_reducible assumption) | exact Kn (by with_reducible assumption) (by walk_at "kp") | exact bf (Kn (by with_reducible assumption) (by walk_at "kp")) | exact Exists.intro _ (SqL.of (by walk_at "hp")) | exact Exists.intro _ (Kn (by with_reducible assumption) (by walk_at "kp")) | (walk_at "hp") | decide | omega | exact Xj (by omega) (by omega) | exact Xk (by omega) (by omega) | exact Yl (by omega) (by omega) | exact ⟨by omega,by omega⟩ | (walk_at "sz") | exact ⟨by decide,by decide,by decide⟩ | exact Xk (b01 _) (b01' _) | (walk_at "fr"))
local macro_rules | `(tactic| walk_at "x1")=>`(tactic| first
 | ((with_reducible refine Exists.intro ?w (And.intro ?h ?_));(case h=>walk_at "fact"))
 | ((with_reducible refine And.intro ?h ?_);(case h=>walk_at "fact"))
 | ((with_reducible refine Exists.intro ?w (Exists.intro ?w2 (And.intro ?h ?_)));(case h=>walk_at "fact")))
local macro_rules | `(tactic| walk_at "xs")=>`(tactic| repeat walk_at "x1")
local macro_rules | `(tactic| walk_at "sim1")=>do
 let a←("Dc Aw Bd BD QV JR Y2 Vd Ad FD DO WW An FK Xq".splitOn " ").toArray.mapM fun s=>`(hV| apply $(me s.toName))
 let b←("jI kF HS Lu Lb Ht Hz Z7 Bh Vg B2 EF B7 Fs Hl FY Af DD Fp Em AB Fz Az HB EZ Bw Gk Fj HW DG Vv Ga Bt YY Ae FW Dy KU KF VP Q7 JE Zm xX Vf Vk YS YW Xg Ke ZT Ei EW F4 Fd Ey AM ZX E6 WX BK Vu Dt BI MW Gj LC E7 La FC LH IS W5 Gd VI D4 AZ Wu FG Gm D7 Iw Hn we Br Qi Fu Qx Vi Es Av Ai Io Va KA Ir yv".splitOn " ").toArray.mapM fun s=>`(hV| apply $(me s.toName))
 `(tactic| first | ((with_reducible apply Ve Xq);intro HX_ OX_ MX_ E_ EA_ hE_) | (with_reducible first $[| $a]*) | ((with_reducible apply sim_try);intro HX_ OX_ MX_ E_ EA_ hE_) | ((with_reducible apply AU);intro HX_ OX_ MX_ E_ EA_ hE_) | (with_reducible assumption) | (with_reducible first $[| $b]*))
local macro_rules | `(tactic| walk_at "sim")=>`(tactic| repeat' walk_at "sim1")
local macro_rules | `(tactic| walk_at "ra")=>do
 let t:=("Qs vT ZO V8 Kz Xf Lj vY GI GL LS BN G6 v8 YG G3 G7 xH KC GW qM aC aOp aUn xq qd aCB GE aFz aOw Lc ZM aB vS Mg aOr MN GK GN Dv WQ yp Jn LQ Ia jw Xn xQ XY GM asL Xi MA GS Ft aiS MJ aiE aiZ yX Yr aI aI0 aU IZ L9 aIx fOp Le HR Gp XM fSl Mv Mc Hd He Mf Gf bI1 bI2 GC DF fCB DP Mt GU Eb GQ Mm GZ Ha aBM Xv vo Wo JZ Lz Kt LL WY Hm Mo Md Mq MM MI MF D6 Vb Option.map_some Bz DJ Dg W8 Bg Wh Wg WN W3 ID BC WE Dk W4 Lo BG BB Ik Wx HM Ab DC Ib DW HZ WK Wr HY WL HP B1 Bi Ii DE Lh DY FI VS zS qO FO kB G0 IE IG HF FR EI EK FS EE Gv Fl kE Wm yM BF AR kf JW Hw V7 LD IP Ie Iu Hq id decide_true decide_false Bool.decide_eq_true not_true_eq_false not_false_eq_true ZU List.getElem?_cons_zero List.getElem?_cons_succ Option.some.injEq exists_eq_left' exists_eq_left AV.d.injEq AV.ref.injEq Dat.int.injEq Dat.bl.injEq Dat.str.injEq Dat.lst.injEq Dat.tup.injEq Dat.ty.injEq List.cons.injEq and_true true_and and_assoc decide_eq_true_eq Bool.not_eq_true' decide_eq_false_iff_not Bool.false_eq_true if_false if_true reduceIte exists_and_left exists_and_right List.set_cons_zero List.set_cons_succ List.nil_append List.cons_append List.length_map List.map_cons List.map_nil Nat.zero_le Bool.not_true Bool.not_false Bool.true_eq_false eq_self List.length_cons List.length_nil".splitOn " ").toArray.map fun s=>(me s.toName:Lean.Ident)
 `(tactic| try simp only [$[$t:ident],*])
local macro_rules | `(tactic| walk_at "sk")=>`(tactic| (refine ze fun r9 hr9=>?_;walk_at "ra";refine ⟨_,rfl,_,rfl,by rw [yM];omega,?_⟩;rw [JW,if_neg (by decide +kernel)];subst hr9))
theorem Jw (ns:List Int)(lo hi:Option Int):wF (ns.map V.int) lo hi=bp V.int ((ns.drop (HT.sIx ns.length 0 lo)).take (HT.sIx ns.length ns.length hi - HT.sIx ns.length 0 lo)):=by
 unfold wF
 rw [az,<- lg,<- m9]
theorem QM (cs:List Int)(j:Nat)(v:Int):(cs.map V.int).set j (.int v)=(cs.set j v).map V.int:=by rw [dq]
variable {cs:List Int}
theorem Q2 {k:Int}(h0:0<=k)(h1:k<cs.length):ixN (cs.map V.int).length k=some k.toNat/\atI (cs.map V.int) k=some (.int (cs.getD k.toNat 0)):=by
 have hk:k.toNat<cs.length:=by omega
 have e1:ixN (cs.map V.int).length k=some k.toNat:=by unfold ixN;rw [az,if_pos h0,if_pos h1]
 refine ⟨e1,?_⟩
 unfold atI
 rw [e1]
 show (cs.map V.int)[k.toNat]?=_
 rw [aD,aq,af hk];rfl
theorem QC {ns:List Int}{i:Nat}{x:V}(h:(ns.map V.int)[i]?=some x):x=.int (ns.getD i 0)/\i<ns.length:=by
 rw [aD] at h
 cases e:ns[i]? with
 | none=>rw [e] at h;cases h
 | some v=>
  rw [e] at h
  cases h
  exact ⟨by rw [aq,e];rfl,(aF.mp e).1⟩
noncomputable abbrev JN:de:=top 24
theorem XG:zr ["_law_box_here","_law_many","_law_once","_law_found"] ["_law_box_here","_law_many"] (zf JN):=⟨rfl,rfl,rfl,by decide +kernel,rfl,by decide +kernel,by decide +kernel⟩
noncomputable def Ww:Sp:=fun vs H Q _=>∃ (b:aw) (many:Int) (N:Nat),vs=[.ref b,.int many]/\Bx H b N/\N<1000000000/\0<many/\many<1073741824/\∀ r H',Kp [b] H H'->Bx H' b (N+1)->0<=r->r<many->Q (.int r) H'
theorem FA (a:At K mg "_law_take" JN)(B:Blt mg):Df P w K mg base "_law_take" ["_law_box_here","_law_many"] 1 Ww:=by
 refine Xs (k:=0) a XG (fun _ _ _ _ _ _=>Pn2_ fun _ _=>rfl) (fun vs H Q E h=>?_) (fun f cdv A outer s H vs Q E hr h=>?_)
 ·obtain ⟨b,m,N,rfl,_⟩:=h;rfl
 obtain ⟨b,m,N,rfl,⟨x,y,z,hb,hx,hy,hy',hz,hz'⟩,hN,hm,hm',q⟩:=h
 have sc:=XG
 refine ⟨_,(zd (qj (zJ Ms (zB qQ (pv 0) zc (fun _ _=>rfl)) zc (zH _)) (zd (jN (zm Ja rfl B.divmod Vo (za (zB qQ (pv 0) zc (fun _ _=>rfl)) (za (pv 1) zb))) (jo (K:=K) 2 rfl rfl (zG (ju (pv 0) zc zW) (zG (zu (i:=3) sc.nd rfl (by first | exact bf rfl | exact bg rfl)) qS))))
  (zh (zK (pv 3)))) zO)
  (zd (jN (zp qa (zB qQ (pv 0) zc (fun _ _=>rfl)) zc) (ju (pv 0) zc zW))
  (zd (zy (i:=2) sc.nd rfl (by first | exact bf rfl | exact bg rfl) (zp jO (zp jS (zp qa (zB qQ (pv 0) zc (fun _ _=>rfl)) (zp jS zc (zB qQ (pv 0) zc (fun _ _=>rfl)))) (zp qa zc (zB qQ (pv 0) zc (fun _ _=>rfl)))) zc))
  (zd (jN (zp jO (zp qa (zp jS (pv 2) (zp qa (zp jO (pv 2) zc) zc)) (zB qQ (pv 0) zc (fun _ _=>rfl))) zc) (ju (pv 0) zc zW))
  (zh (zK (zp jO (zp YF (zp jO (zp jS (zB qQ (pv 0) zc (fun _ _=>rfl)) (zp qa (zp jO (zB qQ (pv 0) zc (fun _ _=>rfl)) zc) zc)) zc) zc) (pv 1)))))))),?_⟩
 rw [show start ["_law_box_here","_law_many","_law_once","_law_found"] [V.ref b,V.int m]=[some (.ref b),some (.int m),none,none] from rfl]
 walk_at "rd"
 walk_at "xs"
 refine M8 (fun c=>?_) (fun c=>?_)
 ·walk_at "xs"
  refine fun p hp=>?_
  walk_at "xs"
  refine q _ _ ((Kp.new _ hp).trans (Kp.set _ (by simp))) ⟨_,_,_,zj,Int.ediv_nonneg hx (by omega),hy,hy',hz,by omega⟩ (kD x hm).1 (kD x hm).2
 ·walk_at "xs"
  refine q _ _ ((Kp.set _ (by simp)).trans (Kp.set _ (by simp))) ⟨_,_,_,zj,hx,?_,?_,?_,?_⟩ (kD _ hm).1 (kD _ hm).2
  ·exact (kD _ (by decide)).1
  ·exact Int.lt_trans (kD _ (by decide)).2 (by decide)
  ·omega
  ·omega
noncomputable abbrev WD:de:=top 23
theorem AW:zr ["_law_script","_law_k","_law_cell"] ["_law_script","_law_k"] (zf WD):=⟨rfl,rfl,rfl,by decide +kernel,rfl,by decide +kernel,by decide +kernel⟩
noncomputable def Hh:Sp:=fun vs H Q _=>∃ (a:aw) (k:Int) (cs:List Int),vs=[.ref a,.int k]/\H a=some (il cs)/\0<=k/\k<=1000/\cs.length<=1000/\∀ p H',Kp [] H H'->H p=none->Bx H' p 0->Q (.ref p) H'
theorem F1 {k:Int}(h0:0<=k):∃ c:Int,atI (cs.map V.int ++ aS (k+1).toNat (V.int 0)) k=some (.int c):=by
 have e:cs.map V.int ++ aS (k+1).toNat (V.int 0)=(cs ++ aS (k+1).toNat 0).map V.int:=by simp
 have ek:k=((k.toNat:Nat):Int):=by omega
 have hk:k.toNat<(cs ++ aS (k+1).toNat (0:Int)).length:=by rw [bc,ef];omega
 refine ⟨(cs ++ aS (k+1).toNat 0)[k.toNat],?_⟩
 rw [e]
 have q:atI ((cs ++ aS (k+1).toNat (0:Int)).map V.int) ((k.toNat:Nat):Int)=some (.int (cs ++ aS (k+1).toNat 0)[k.toNat]):=Fv (by rw [aD,af hk] <;> rfl)
 rw [<- ek] at q
 exact q
theorem Ln (a:At K mg "_law_box" WD)(B:Blt mg):Df P w K mg base "_law_box" ["_law_script","_law_k"] 1 Hh:=by
 refine Xs (k:=0) a AW (fun _ _ _ _ _ _=>Pn2_ fun _ _=>rfl) (fun vs H Q E h=>?_) (fun f cdv A outer s H vs Q E hr h=>?_)
 ·obtain ⟨a,k,cs,rfl,_⟩:=h;rfl
 obtain ⟨a,k,cs,rfl,ha,hk,hk',hcs,q⟩:=h
 have sc:=AW
 have hsl:=hsl
 refine ⟨_,(zd (zy (i:=2) sc.nd rfl (by first | exact bf rfl | exact bg rfl) (zB qQ (zp qu (pv 0) (zp KN (zL (za zc zb)) (zp qa (pv 1) zc))) (pv 1) (fun _ _=>rfl)))
  (zh (zK (zL (za (zp jS (zm vN rfl B.abs J8 (za (pv 2) zb)) (zU ky rfl B.int xT (za (jm Mx (zm vN rfl B.abs J8 (za (pv 2) zb)) (zp HU zc zc) (zH _)) zb))) (za (zp jO (zp jS (zp qa (zp qa (zp jO (pv 2) zc) (zp jS zc (pv 1))) zc) zc) zc) (za zc zb))))))),?_⟩
 rw [show start ["_law_script","_law_k","_law_cell"] [V.ref a,V.int k]=[some (.ref a),some (.int k),none] from rfl]
 walk_at "rd"
 walk_at "xs"
 intro p1 hp1
 walk_at "xs"
 intro p2 hp2
 walk_at "xs"
 intro p3 hp3
 simp only [Iz] at hp3 ⊢
 obtain ⟨c,hc⟩:=F1 (cs:=cs) hk
 walk_at "xs"
 intro p4 hp4
 refine q _ _ (by walk_at "kp") (by walk_at "fr") ⟨_,_,_,zj,?_,?_,?_,?_,?_⟩
 ·exact Int.mul_nonneg (by split <;> omega) (b01 _)
 ·exact (kD _ (by decide)).1
 ·exact Int.lt_trans (kD _ (by decide)).2 (by decide)
 ·decide
 ·decide
noncomputable abbrev vH:de:=top 25
theorem wN:zr ["_law_script","_law_many","_law_cells","_law_k","_law_cell"] ["_law_script","_law_many"] (zf vH):=⟨rfl,rfl,rfl,by decide +kernel,rfl,by decide +kernel,by decide +kernel⟩
noncomputable def QW (K:ax):Sp:=fun vs H Q _=>∃ (a:aw) (m:Int) (ns:List Int),vs=[.ref a,.int m]/\SqL K H a (ns.map V.int)/\0<m/\m<=60/\ns.length<=63/\∀ p H' cs,Kp [] H H'->H p=none->H' p=some (il cs)->cs.length<=1000->Q (.ref p) H'
theorem Y8 (a:At K mg "_law_folded" vH)(B:Blt mg):Df P w K mg base "_law_folded" ["_law_script","_law_many"] 1 (QW K):=by
 refine Xs (k:=0) a wN (fun _ _ _ _ _ _=>Pn2_ fun _ _=>rfl) (fun vs H Q E h=>?_) (fun f cdv A outer s H vs Q E hr h=>?_)
 ·obtain ⟨a,k,cs,rfl,_⟩:=h;rfl
 obtain ⟨a,m,ns,rfl,ha,hm,hm',hns,q⟩:=h
 obtain ⟨M,rfl⟩:∃ M:Nat,m=M:=⟨m.toNat,by omega⟩
 have sc:=wN
 have hsl:=hsl
 refine ⟨_,(zd (zy (i:=2) sc.nd rfl (by first | exact bf rfl | exact bg rfl) (zU jD rfl B.list jV (za (zx qb (pv 0) zF (zz (pv 1))) zb)))
  (zd (ka db rfl (EJ rfl B.enumerate (za (zx qb (pv 0) (zz (pv 1)) (zz zc)) zb)) (jo (K:=K) 2 rfl rfl (zG (zu (i:=3) sc.nd rfl (by first | exact bf rfl | exact bg rfl)) (zG (zu (i:=4) sc.nd rfl (by first | exact bf rfl | exact bg rfl)) qS))) (zh (jN (zp qa (zB qQ (pv 2) (zp jO (pv 3) (pv 1)) (fun _ _=>rfl)) (zp jS (pv 4) (zp qa (pv 3) zc))) (ju (pv 2) (zp jO (pv 3) (pv 1)) zW))))
  (zh (zK (pv 2))))),?_⟩
 rw [show start ["_law_script","_law_many","_law_cells","_law_k","_law_cell"] [V.ref a,V.int M]=[some (.ref a),some (.int M),none,none,none] from rfl]
 walk_at "rd"
 walk_at "xs"
 intro p1 hp1
 rw [Jw]
 walk_at "xs"
 intro p2 hp2
 walk_at "xs"
 intro p3 hp3
 rw [Jw]
 have e63:(63:Int)=((63:Nat):Int):=rfl
 simp only [HT.sIx_none,HT.sIx_nat,e63,List.drop_zero,Nat.sub_zero] at hp2 hp3 ⊢
 walk_at "xs"
 generalize hc0:ns.take (min M ns.length)=c0 at hp2 hp3 ⊢
 generalize hd0:(ns.drop (min M ns.length)).take (min 63 ns.length - min M ns.length)=d0 at hp2 hp3 ⊢
 have lc:c0.length=min M ns.length:=by rw [<- hc0,cg];omega
 have ld:d0.length<=ns.length - M:=by rw [<- hd0,cg,bN];omega
 have n23:p2 ≠ p3:=by walk_at "ne"
 refine EL (xs:=d0.map V.int) (fun i τ H'=>∃ u v cs,τ=[some (.ref a),some (.int M),some (.ref p2),u,v]/\Kp [p2] (upd (upd (upd H p1 (HO.lst (bp V.int c0))) p2 (HO.lst (bp V.int c0))) p3 (HO.lst (bp V.int d0))) H'/\H' p2=some (il cs)/\cs.length=c0.length) ?_ ?_ ?_ ?_
 ·exact ⟨none,none,c0,rfl,Kp.refl,by walk_at "hp",rfl⟩
 ·rintro i τ H' _ ⟨u,v,cs,rfl,kp,_⟩
  exact SqL.of (kp _ _ (by simp [Ne.symm n23]) (by walk_at "hp"))
 ·rintro i x pp τ H' hx hpp ⟨u,v,cs,rfl,kp,hcs,hl⟩
  obtain ⟨rfl,hi⟩:=QC hx
  have b1:=kD (i:Int) hm
  obtain ⟨g1,g2⟩:=Q2 (cs:=cs) (k:=(i:Int) % (M:Int)) b1.1 (by omega)
  have hcs':upd H' pp (HO.tup [V.int i,V.int (d0.getD i 0)]) p2=some (il cs):=by walk_at "hp"
  walk_at "rd"
  walk_at "xs"
  refine ⟨(kp.trans (Kp.new _ hpp)).trans (Kp.set _ (by simp)),_,zj.trans (congrArg some (congrArg HO.lst (QM _ _ _))),by rw [aV];exact hl⟩
 ·rintro τ H' ⟨u,v,cs,rfl,kp,hcs,hl⟩
  walk_at "rd"
  refine q _ _ cs (fun c o hc hh=>kp c o ?_ ((((Kp.new _ hp1).trans (Kp.new _ hp2)).trans (Kp.new _ hp3)) c o hc hh)) (by walk_at "fr") hcs (by omega)
  have:c ≠ p2:=xp (Ji hp2 (Kp.new _ hp1)) hh
  simpa using this
noncomputable def cE:Option Int->V
 | none=>.non
 | some x=>.int x
inductive De where
 | swap (a b:Nat) | take (p:Nat) | move (p g:Nat) | lay (g:Nat)
abbrev ES:=List (Option Int) × Option Int
inductive DoE:De->ES->ES->Prop
 | swap {a b:Nat} {row:List (Option Int)} {h:Option Int} {x y:Int}:a ≠ b->row[a]?=some (some x)->row[b]?=some (some y)->DoE (.swap a b) (row,h) ((row.set a (some y)).set b (some x),h)
 | take {p:Nat} {row:List (Option Int)} {x:Int}:row[p]?=some (some x)->DoE (.take p) (row,none) (row.set p none,some x)
 | move {p g:Nat} {row:List (Option Int)} {h:Option Int} {x:Int}:row[p]?=some (some x)->row[g]?=some none->DoE (.move p g) (row,h) ((row.set p none).set g (some x),h)
 | lay {g:Nat} {row:List (Option Int)} {x:Int}:row[g]?=some none->DoE (.lay g) (row,some x) (row.set g (some x),none)
inductive xR:List De->ES->ES->Prop
 | nil {s:ES}:xR [] s s
 | cons {d:De} {l:List De} {s t u:ES}:DoE d s t->xR l t u->xR (d :: l) s u
theorem xR.append {a b:List De}{s t u:ES}(h1:xR a s t)(h2:xR b t u):xR (a ++ b) s u:=by
 induction h1 with
 | nil=>exact h2
 | cons d _ ih=>exact .cons d (ih h2)
variable {d:De}
theorem DoE.len {s t:ES}(h:DoE d s t):t.1.length=s.1.length:=by
 cases h <;> simp
noncomputable def j5 (ms:List Int)(x:Int):List Int:=ms.set x.toNat (ms.getD x.toNat 0+1)
theorem JI (ms:List Int)(x:Int):(j5 ms x).length=ms.length:=by unfold j5;rw [aV]
def OkM (s:ES)(n:Nat):Prop:=(∀ x,some x ∈ s.1->0<=x/\x<(n:Int))/\∀ x,s.2=some x->0<=x/\x<(n:Int)
noncomputable def cA:Option Int->AV
 | none=>.d .non
 | some x=>.d (.int x)
noncomputable abbrev Y6 (row:List (Option Int)):MO:=.lst (row.map cA)
noncomputable abbrev msA (ms:List Int):MO:=.lst (ms.map fun i=>AV.d (.int i))
noncomputable abbrev Bp (C rw_ mv:aw)(h:Option Int):MO:=.ins C [("row",.ref rw_),("hand",cA h),("moved",.ref mv)]
structure qo (C:aw)(M:MH)(p rw_ mv:aw)(s:ES)(ms:List Int):Prop where
 ins:M p=some (Bp C rw_ mv s.2)
 row:M rw_=some (Y6 s.1)
 mvd:M mv=some (msA ms)
 ne:rw_ ≠ mv
noncomputable def rmP (C:aw)(M:MH)(p rw_ mv:aw)(s:ES)(ms:List Int):MH:=mup (mup (mup M p (Bp C rw_ mv s.2)) rw_ (Y6 s.1)) mv (msA ms)
variable {C p rw_ mv:aw} {M:MH} {s:ES} {ms:List Int}
theorem qo.pr (r:qo C M p rw_ mv s ms):p ≠ rw_/\p ≠ mv:=
 ⟨fun z=>(by have:=r.ins;rw [z,r.row] at this;cases this),fun z=>(by have:=r.ins;rw [z,r.mvd] at this;cases this)⟩
theorem qo.same (r:qo C M p rw_ mv s ms):rmP C M p rw_ mv s ms=M:=by
 funext b
 unfold rmP mup
 by_cases c1:b=mv
 ·rw [if_pos c1,c1,r.mvd]
 ·rw [if_neg c1]
  by_cases c2:b=rw_
  ·rw [if_pos c2,c2,r.row]
  ·rw [if_neg c2]
   by_cases c3:b=p
   ·rw [if_pos c3,c3,r.ins]
   ·rw [if_neg c3]
theorem qo.to (r:qo C M p rw_ mv s ms)(s':ES)(ms':List Int):qo C (rmP C M p rw_ mv s' ms') p rw_ mv s' ms':=by
 obtain ⟨n1,n2⟩:=r.pr
 have n3:=r.ne
 unfold rmP
 exact ⟨by rw [zn n2,zn n1,zk],by rw [zn n3,zk],zk,n3⟩
theorem qo.again (r:qo C M p rw_ mv s ms)(s' s2:ES)(ms' ms2:List Int):rmP C (rmP C M p rw_ mv s' ms') p rw_ mv s2 ms2=rmP C M p rw_ mv s2 ms2:=by
 funext b
 unfold rmP mup
 by_cases c1:b=mv <;> by_cases c2:b=rw_ <;> by_cases c3:b=p <;> simp [c1,c2,c3]
theorem qo.setRow (r:qo C M p rw_ mv s ms)(row:List (Option Int)):mup M rw_ (Y6 row)=rmP C M p rw_ mv (row,s.2) ms:=by
 obtain ⟨n1,n2⟩:=r.pr
 funext b
 unfold rmP mup
 by_cases c1:b=mv
 ·rw [if_pos c1,if_neg (fun z=>r.ne (z.symm.trans c1)),c1,r.mvd]
 ·rw [if_neg c1]
  by_cases c2:b=rw_
  ·rw [if_pos c2,if_pos c2]
  ·rw [if_neg c2,if_neg c2]
   by_cases c3:b=p
   ·rw [if_pos c3,c3,r.ins]
   ·rw [if_neg c3]
theorem qo.setMv (r:qo C M p rw_ mv s ms)(ms':List Int):mup M mv (msA ms')=rmP C M p rw_ mv s ms':=by
 have:=r.same
 calc mup M mv (msA ms')=mup (rmP C M p rw_ mv s ms) mv (msA ms'):=by rw [this]
  _=_:=by unfold rmP;rw [ZU]
theorem qo.setHand (r:qo C M p rw_ mv s ms)(h:Option Int):mup M p (Bp C rw_ mv h)=rmP C M p rw_ mv (s.1,h) ms:=by
 obtain ⟨n1,n2⟩:=r.pr
 funext b
 unfold rmP mup
 by_cases c1:b=mv
 ·rw [if_pos c1,if_neg (fun z=>n2 (z.symm.trans c1)),c1,r.mvd]
 ·rw [if_neg c1]
  by_cases c2:b=rw_
  ·rw [if_pos c2,if_neg (fun z=>n1 (z.symm.trans c2)),c2,r.row]
  ·rw [if_neg c2]
theorem qo.fin (r:qo C M p rw_ mv s ms)(s':ES)(ms':List Int)(d:Dat):y4 M (rmP C M p rw_ mv s' ms') (.d d) (.d d) (rmP C M p rw_ mv s' ms'):=by
 have t:=r.to s' ms'
 refine ⟨fun q=>.inl rfl,fun q o e=>?_,.inl ⟨rfl,fun p z=>nomatch z⟩⟩
 by_cases c1:q=mv
 ·rw [c1,t.mvd] at e
  cases e
  exact .inr fun z hz=>absurd hz (vq (ds:=ms'.map .int) (qO _) z)
 ·by_cases c2:q=rw_
  ·rw [c2,t.row] at e
   cases e
   refine .inr fun z hz=>?_
   obtain ⟨x,_,hx⟩:=bZ.mp (show AV.ref z ∈ s'.1.map cA from hz)
   cases x <;> cases hx
  ·by_cases c3:q=p
   ·rw [c3,t.ins] at e
    cases e
    refine .inr fun z hz=>?_
    have hz:AV.ref z ∈ [AV.ref rw_,cA s'.2,AV.ref mv]:=hz
    simp only [aE,aT,or_false] at hz
    rcases hz with hz | hz | hz
    ·cases hz;rw [t.row];exact fun z=>nomatch z
    ·cases h:s'.2 <;> rw [h] at hz <;> cases hz
    ·cases hz;rw [t.mvd];exact fun z=>nomatch z
   ·refine .inl ?_
    unfold rmP at e
    rw [zn c1,zn c2,zn c3] at e
    exact e
structure RTx (K:ax)(C:aw):Prop where
 cl:Cls K C
 nr:jR K C "row"
 nh:jR K C "hand"
 nm:jR K C "moved"
noncomputable abbrev wrd (x:String):List (Str × V):=[("word",.str (ap x))]
noncomputable def fnW (vs:List V):List (Str × V):=[("word",vs.getD 0 .non)]
variable {row:List (Option Int)}
theorem yh {a:Nat}(h:a<row.length):atI (row.map cA) (a:Int)=some (cA (row.getD a none))/\ixN (row.map cA).length (a:Int)=some a:=by
 have e:ixN (row.map cA).length (a:Int)=some a:=by rw [az,jL (by omega) (by omega),bQ]
 refine ⟨?_,e⟩
 unfold atI
 rw [e]
 show (row.map cA)[a]?=_
 rw [aD,af h,aq,af h];rfl
theorem X8 {x:Int}(h0:0<=x)(h1:x<(ms.length:Int)):atI (ms.map fun i=>AV.d (.int i)) x=some (.d (.int (ms.getD x.toNat 0)))/\ixN (ms.map fun i=>AV.d (Dat.int i)).length x=some x.toNat:=by
 have hx:x.toNat<ms.length:=by omega
 have e:ixN (ms.map fun i=>AV.d (Dat.int i)).length x=some x.toNat:=by rw [az,jL h0 (by omega)]
 refine ⟨?_,e⟩
 unfold atI
 rw [e]
 show (ms.map fun i=>AV.d (Dat.int i))[x.toNat]?=_
 rw [aD,af hx,aq,af hx];rfl
theorem Gq (x:Int):(ms.map fun i=>AV.d (.int i)).set x.toNat (.d (.int (ms.getD x.toNat 0+1)))=(j5 ms x).map fun i=>AV.d (.int i):=by unfold j5;rw [dq]
theorem Wk (row:List (Option Int))(a:Nat)(c:Option Int):(row.map cA).set a (cA c)=(row.set a c).map cA:=dq.symm
theorem rz {M0 M' M'':MH}{E0:AXK}{cB:aw}{w:Str}(f:y4 M0 M' (.d .non) (.d .non) M'')(q:E0 cB [("word",.str w)] M''):∃ vs,[Dl (.d (.str w))]=bp some vs/\vs.length=1/\1<=1000/\exA M0 E0 cB (fnW vs) M':=⟨[.str w],rfl,rfl,by decide,M'',f,q⟩
theorem qE (c:Option Int):xN (cA c)=c.isNone:=by cases c <;> rfl
noncomputable def Wv (C cB:aw):yq:=fun xs M Q E=>∃ (p rw_ mv:aw) (s:ES) (ms:List Int) (a:Nat),xs=[.ref p,.d (.int a)]/\qo C M p rw_ mv s ms/\a<s.1.length/\OkM s ms.length /\
 (∀ x,s.1.getD a none=some x->Q (.d (.int x)) (rmP C M p rw_ mv (s.1.set a none,s.2) (j5 ms x)))/\(s.1.getD a none=none->E cB (wrd "empty") M)
noncomputable abbrev K9:de:=(jn (top 10) 6)
theorem X3:zr ["self","a","thing"] ["self","a"] (zf K9):=⟨rfl,rfl,rfl,by decide +kernel,rfl,by decide +kernel,by decide +kernel⟩
theorem WT {C:aw}(a:AtM K C "lift" "Room.lift" K9)(R:RTx K C)(B:Blt mg){cBadDeed:aw}(MX_BadDeed:MkX P w K mg base cBadDeed 1 1 fnW)(XG_BadDeed:mg "BadDeed"=some (.ref cBadDeed)):DmX P w K mg base C "lift" ["self","a"] 3 (jU (Wv C cBadDeed)):=by
 refine V0 (k:=2) a X3 (fun _ _ _ _ _ _=>Pn2_ fun _ _=>rfl) (fun xs M Q E h=>?_) (fun f cdv A outer s H HX OX MX E1 hr hD=>?_)
 ·obtain ⟨_,_,_,_,_,_,rfl,_⟩:=h;rfl
 have sc:=X3
 have hsl:=hsl
 have CL:=R.cl
 refine ⟨_,(zd (zy (i:=2) sc.nd rfl (by first | exact bf rfl | exact bg rfl) (zB zV (qq (pv 0) rfl) (pv 1) (fun _ _=>rfl)))
  (zd (qj (zJ Qj (pv 2) jk (zH _)) (zh (qw hD rfl MX_BadDeed hr rfl XG_BadDeed (za zI zb))) zO)
  (zd (jN jk (ju (qq (pv 0) rfl) (pv 1) zW))
  (zd (vk (qq (pv 0) rfl) (pv 2) xG zc ZC zW)
  (zh (zK (pv 2))))))),?_⟩
 refine exX (by walk_at "sim") ?_
 rintro xs Q E0 rfl ⟨p,rw_,mv,⟨row,hd⟩,ms,a,rfl,r,ha,ok,q,qe⟩
 rw [show zR ["self","a","thing"] [.ref p,.d (.int a)]=[some (.ref p),some (.d (.int a)),none] from rfl]
 refine ze fun r1 hr1=>?_
 walk_at "ra"
 obtain ⟨c1,c2⟩:=yh ha
 refine ⟨_,_,r.ins,R.cl,R.nr,_,rfl,_,ql r.row,_,c1,?_⟩
 subst hr1
 refine ze fun r1 hr1=>?_
 walk_at "ra"
 cases hx:row.getD a none with
 | none=>
  rw [if_pos (by rw [qE];rfl)]
  exact rz (qP Fr.refl .non) (qe hx)
 | some x=>
  rw [if_neg (by rw [qE];exact fun z=>nomatch z)]
  subst hr1
  obtain ⟨x0,x1⟩:=ok.1 x (by rw [aq,af ha] at hx;rw [<- hx];exact bh ha)
  obtain ⟨m1,m2⟩:=X8 x0 x1
  show yp _ _ _ _ _ _
  rw [show cA (some x)=.d (.int x) from rfl]
  refine ze fun r1 hr1=>?_
  walk_at "ra"
  refine ⟨_,_,r.ins,R.cl,R.nr,_,rfl,_,rfl,_,r.row,_,c2,?_⟩
  rw [show (row.map cA).set a (.d .non)=(row.set a none).map cA from Wk row a none,r.setRow]
  have r2:=r.to (row.set a none,hd) ms
  subst hr1
  walk_at "ra"
  refine ⟨_,_,r2.ins,R.cl,R.nm,_,rfl,_,qH r2.mvd,_,m1,_,rfl,_,rfl,_,r2.mvd,_,m2,?_⟩
  rw [Gq,r2.setMv,r.again]
  exact ⟨_,_,r.fin _ _ (.int x),q x hx⟩
variable {n:Nat}
theorem YC (ok:OkM s n){a:Nat}{x:Int}(ha:a<s.1.length)(h:s.1.getD a none=some x):0<=x/\x<(n:Int):=ok.1 x (by rw [aq,af ha] at h;rw [<- h];exact bh ha)
noncomputable def G4 (C cB:aw):yq:=fun xs M Q E=>∃ (p rw_ mv:aw) (s:ES) (ms:List Int) (a b:Nat),xs=[.ref p,.d (.int a),.d (.int b)]/\qo C M p rw_ mv s ms/\a<s.1.length/\b<s.1.length/\OkM s ms.length /\
 (a=b->E cB (wrd "same") M)/\(a ≠ b->s.1.getD a none=none \/ s.1.getD b none=none->E cB (wrd "empty") M) /\
 (a ≠ b->∀ x y,s.1.getD a none=some x->s.1.getD b none=some y->Q (.d .non) (rmP C M p rw_ mv ((s.1.set a (some y)).set b (some x),s.2) (j5 (j5 ms x) y)))
noncomputable abbrev J0:de:=(jn (top 10) 2)
theorem YH:zr ["self","a","b","one","other"] ["self","a","b"] (zf J0):=⟨rfl,rfl,rfl,by decide +kernel,rfl,by decide +kernel,by decide +kernel⟩
theorem Ea {C:aw}(a:AtM K C "swap" "Room.swap" J0)(R:RTx K C)(B:Blt mg){cBadDeed:aw}(MX_BadDeed:MkX P w K mg base cBadDeed 1 1 fnW)(XG_BadDeed:mg "BadDeed"=some (.ref cBadDeed)):DmX P w K mg base C "swap" ["self","a","b"] 3 (jU (G4 C cBadDeed)):=by
 refine V0 (k:=2) a YH (fun _ _ _ _ _ _=>Pn3_ fun _ _ _=>rfl) (fun xs M Q E h=>?_) (fun f cdv A outer s H HX OX MX E1 hr hD=>?_)
 ·obtain ⟨_,_,_,_,_,_,_,rfl,_⟩:=h;rfl
 have sc:=YH
 have hsl:=hsl
 have CL:=R.cl
 refine ⟨_,(zd (qj (zJ (qC hr.units) (pv 1) (pv 2) (zH _)) (zh (qw hD rfl MX_BadDeed hr rfl XG_BadDeed (za zI zb))) zO)
  (zd (zy (i:=3) sc.nd rfl (by first | exact bf rfl | exact bg rfl) (zB zV (qq (pv 0) rfl) (pv 1) (fun _ _=>rfl)))
  (zd (zy (i:=4) sc.nd rfl (by first | exact bf rfl | exact bg rfl) (zB zV (qq (pv 0) rfl) (pv 2) (fun _ _=>rfl)))
  (zd (qj (PW.pt (kZ (zJ Qj (pv 3) jk (zH _)) (xk (zJ Qj (pv 4) jk (zH _))))) (zh (qw hD rfl MX_BadDeed hr rfl XG_BadDeed (za zI zb))) zO)
  (zd (jN (pv 4) (ju (qq (pv 0) rfl) (pv 1) zW))
  (zd (jN (pv 3) (ju (qq (pv 0) rfl) (pv 2) zW))
  (zd (vk (qq (pv 0) rfl) (pv 3) xG zc ZC zW)
  (zh (vk (qq (pv 0) rfl) (pv 4) xG zc ZC zW))))))))),?_⟩
 refine exX (by walk_at "sim") ?_
 rintro xs Q E0 rfl ⟨p,rw_,mv,⟨row,hd⟩,ms,a,b,rfl,r,ha,hb,ok,qs,qe,q⟩
 rw [show zR ["self","a","b","one","other"] [.ref p,.d (.int a),.d (.int b)]=[some (.ref p),some (.d (.int a)),some (.d (.int b)),none,none] from rfl]
 refine ze fun r1 hr1=>?_
 walk_at "ra"
 by_cases hab:a=b
 ·rw [if_pos (by rw [hab])]
  exact rz (qP Fr.refl .non) (qs hab)
 rw [if_neg (by omega)]
 subst hr1
 obtain ⟨c1,c2⟩:=yh ha
 obtain ⟨d1,d2⟩:=yh hb
 refine ze fun r1 hr1=>?_
 walk_at "ra"
 refine ⟨_,_,r.ins,R.cl,R.nr,_,rfl,_,ql r.row,_,c1,?_⟩
 subst hr1
 refine ze fun r1 hr1=>?_
 walk_at "ra"
 refine ⟨_,_,r.ins,R.cl,R.nr,_,rfl,_,ql r.row,_,d1,?_⟩
 subst hr1
 refine ze fun r1 hr1=>?_
 walk_at "ra"
 cases hx:row.getD a none with
 | none=>
  rw [if_pos (by rw [qE];rfl)]
  exact rz (qP Fr.refl .non) (qe hab (.inl hx))
 | some x=>
  rw [if_neg (by rw [qE];exact fun z=>nomatch z)]
  cases hy:row.getD b none with
  | none=>
   rw [if_pos (by rw [qE];rfl)]
   exact rz (qP Fr.refl .non) (qe hab (.inr hy))
  | some y=>
   rw [if_neg (by rw [qE];exact fun z=>nomatch z)]
   obtain ⟨x0,x1⟩:=YC ok ha hx
   obtain ⟨y0,y1⟩:=YC ok hb hy
   obtain ⟨m1,m2⟩:=X8 x0 x1
   obtain ⟨n1,n2⟩:=X8 (ms:=j5 ms x) y0 (by rw [JI];exact y1)
   subst hr1
   rw [show cA (some x)=.d (.int x) from rfl,show cA (some y)=.d (.int y) from rfl]
   refine ze fun r1 hr1=>?_
   walk_at "ra"
   refine ⟨_,_,r.ins,R.cl,R.nr,_,rfl,_,rfl,_,r.row,_,c2,?_⟩
   rw [show (row.map cA).set a (.d (.int y))=(row.set a (some y)).map cA from Wk row a (some y),r.setRow]
   have r2:=r.to (row.set a (some y),hd) ms
   subst hr1
   refine ze fun r1 hr1=>?_
   walk_at "ra"
   refine ⟨_,_,r2.ins,R.cl,R.nr,_,rfl,_,rfl,_,r2.row,b,by rw [az,aV,jL (by omega) (by show (b:Int)<row.length;have:b<row.length:=hb;omega),bQ],?_⟩
   rw [show ((row.set a (some y)).map cA).set b (.d (.int x))=((row.set a (some y)).set b (some x)).map cA from Wk _ b (some x),r2.setRow,r.again]
   have r3:=r.to ((row.set a (some y)).set b (some x),hd) ms
   subst hr1
   refine ze fun r1 hr1=>?_
   walk_at "ra"
   refine ⟨_,_,r3.ins,R.cl,R.nm,_,rfl,_,qH r3.mvd,_,m1,_,rfl,_,rfl,_,r3.mvd,_,m2,?_⟩
   rw [Gq,r3.setMv,r.again]
   have r4:=r.to ((row.set a (some y)).set b (some x),hd) (j5 ms x)
   subst hr1
   walk_at "ra"
   refine ⟨_,_,r4.ins,R.cl,R.nm,_,rfl,_,qH r4.mvd,_,n1,_,rfl,_,rfl,_,r4.mvd,_,n2,?_⟩
   rw [Gq,r4.setMv,r.again]
   exact ⟨_,_,r.fin _ _ .non,q hab x y hx hy⟩
theorem Jp {a b c y:AV}:xH (ap "hand") y [(ap "row",a),(ap "hand",b),(ap "moved",c)]=[(ap "row",a),(ap "hand",y),(ap "moved",c)]:=by
 unfold xH;rw [if_neg (by decide +kernel)];unfold xH;rw [if_pos rfl]
noncomputable def D2 (C cB:aw):yq:=fun xs M Q E=>∃ (p rw_ mv:aw) (s:ES) (ms:List Int) (a:Nat),xs=[.ref p,.d (.int a)]/\qo C M p rw_ mv s ms/\a<s.1.length/\OkM s ms.length /\
 (s.2 ≠ none->E cB (wrd "full") M)/\(s.2=none->s.1.getD a none=none->E cB (wrd "empty") M) /\
 (s.2=none->∀ x,s.1.getD a none=some x->Q (.d .non) (rmP C M p rw_ mv (s.1.set a none,some x) (j5 ms x)))
noncomputable abbrev Qe:de:=(jn (top 10) 3)
theorem Q5:zr ["self","a"] ["self","a"] (zf Qe):=⟨rfl,rfl,rfl,by decide +kernel,rfl,by decide +kernel,by decide +kernel⟩
theorem Vx {C:aw}(a:AtM K C "take" "Room.take" Qe)(R:RTx K C)(B:Blt mg){cBadDeed:aw}(MX_BadDeed:MkX P w K mg base cBadDeed 2 1 fnW)(XG_BadDeed:mg "BadDeed"=some (.ref cBadDeed))(DM_lift:DmX P w K mg base C "lift" ["self","a"] 3 (jU (Wv C cBadDeed))):DmX P w K mg base C "take" ["self","a"] 4 (jU (D2 C cBadDeed)):=by
 refine V0 (k:=3) a Q5 (fun _ _ _ _ _ _=>Pn2_ fun _ _=>rfl) (fun xs M Q E h=>?_) (fun f cdv A outer s H HX OX MX E1 hr hD=>?_)
 ·obtain ⟨_,_,_,_,_,_,rfl,_⟩:=h;rfl
 have sc:=Q5
 have hsl:=hsl
 have CL:=R.cl
 refine ⟨_,(zd (qj (zJ Qp (qq (pv 0) rfl) jk (zH _)) (zh (qw hD rfl MX_BadDeed hr rfl XG_BadDeed (za zI zb))) zO)
  (zh (vM (pv 0) (xP CL DM_lift hr hD.passX (pv 0) (za (pv 1) zb)) rfl))),?_⟩
 refine exX (by walk_at "sim") ?_
 rintro xs Q E0 rfl ⟨p,rw_,mv,⟨row,hd⟩,ms,a,rfl,r,ha,ok,qf,qe,q⟩
 rw [show zR ["self","a"] [.ref p,.d (.int a)]=[some (.ref p),some (.d (.int a))] from rfl]
 refine ze fun r1 hr1=>?_
 walk_at "ra"
 refine ⟨_,_,r.ins,R.cl,R.nh,_,rfl,?_⟩
 cases hd with
 | some x=>
  rw [if_pos (by rw [qE];rfl)]
  exact rz (qP Fr.refl .non) (qf (fun z=>nomatch z))
 | none=>
  rw [if_neg (by rw [qE];exact fun z=>nomatch z)]
  subst hr1
  walk_at "ra"
  refine ⟨_,r.ins,rfl,p,rw_,mv,(row,none),ms,a,rfl,r,ha,ok,fun x hx=>?_,fun hx=>⟨_,qP Fr.refl .non,qe rfl hx⟩⟩
  have r2:=r.to (row.set a none,none) (j5 ms x)
  refine ⟨_,_,r2.ins,R.cl,R.nh,ej rfl,?_⟩
  rw [Jp,show AV.d (.int x)=cA (some x) from rfl,r2.setHand,r.again]
  exact ⟨_,_,r.fin _ _ .non,q rfl x hx⟩
noncomputable def Hb (C cB:aw):yq:=fun xs M Q E=>∃ (p rw_ mv:aw) (s:ES) (ms:List Int) (a b:Nat),xs=[.ref p,.d (.int a),.d (.int b)]/\qo C M p rw_ mv s ms/\a<s.1.length/\b<s.1.length/\OkM s ms.length /\
 (a=b->E cB (wrd "same") M)/\(a ≠ b->s.1.getD b none ≠ none->E cB (wrd "full") M)/\(a ≠ b->s.1.getD b none=none->s.1.getD a none=none->E cB (wrd "empty") M) /\
 (a ≠ b->s.1.getD b none=none->∀ x,s.1.getD a none=some x->Q (.d .non) (rmP C M p rw_ mv ((s.1.set a none).set b (some x),s.2) (j5 ms x)))
noncomputable abbrev JS:de:=(jn (top 10) 4)
theorem XO:zr ["self","a","b"] ["self","a","b"] (zf JS):=⟨rfl,rfl,rfl,by decide +kernel,rfl,by decide +kernel,by decide +kernel⟩
theorem Dh {C:aw}(a:AtM K C "move" "Room.move" JS)(R:RTx K C)(B:Blt mg){cBadDeed:aw}(MX_BadDeed:MkX P w K mg base cBadDeed 2 1 fnW)(XG_BadDeed:mg "BadDeed"=some (.ref cBadDeed))(DM_lift:DmX P w K mg base C "lift" ["self","a"] 3 (jU (Wv C cBadDeed))):DmX P w K mg base C "move" ["self","a","b"] 4 (jU (Hb C cBadDeed)):=by
 refine V0 (k:=3) a XO (fun _ _ _ _ _ _=>Pn3_ fun _ _ _=>rfl) (fun xs M Q E h=>?_) (fun f cdv A outer s H HX OX MX E1 hr hD=>?_)
 ·obtain ⟨_,_,_,_,_,_,_,rfl,_⟩:=h;rfl
 have sc:=XO
 have hsl:=hsl
 have CL:=R.cl
 refine ⟨_,(zd (qj (zJ (qC hr.units) (pv 1) (pv 2) (zH _)) (zh (qw hD rfl MX_BadDeed hr rfl XG_BadDeed (za zI zb))) zO)
  (zd (qj (zJ Qp (zB zV (qq (pv 0) rfl) (pv 2) (fun _ _=>rfl)) jk (zH _)) (zh (qw hD rfl MX_BadDeed hr rfl XG_BadDeed (za zI zb))) zO)
  (zh (jN (xP CL DM_lift hr hD.passX (pv 0) (za (pv 1) zb)) (ju (qq (pv 0) rfl) (pv 2) zW))))),?_⟩
 refine exX (by walk_at "sim") ?_
 rintro xs Q E0 rfl ⟨p,rw_,mv,⟨row,hd⟩,ms,a,b,rfl,r,ha,hb,ok,qs,qf,qe,q⟩
 rw [show zR ["self","a","b"] [.ref p,.d (.int a),.d (.int b)]=[some (.ref p),some (.d (.int a)),some (.d (.int b))] from rfl]
 refine ze fun r1 hr1=>?_
 walk_at "ra"
 by_cases hab:a=b
 ·rw [if_pos (by rw [hab])]
  exact rz (qP Fr.refl .non) (qs hab)
 rw [if_neg (by omega)]
 subst hr1
 obtain ⟨d1,d2⟩:=yh hb
 refine ze fun r1 hr1=>?_
 walk_at "ra"
 refine ⟨_,_,r.ins,R.cl,R.nr,_,rfl,_,ql r.row,_,d1,?_⟩
 cases hy:row.getD b none with
 | some y=>
  rw [if_pos (by rw [qE];rfl)]
  exact rz (qP Fr.refl .non) (qf hab (by rw [hy];exact fun z=>nomatch z))
 | none=>
  rw [if_neg (by rw [qE];exact fun z=>nomatch z)]
  subst hr1
  walk_at "ra"
  refine ⟨_,r.ins,rfl,p,rw_,mv,(row,hd),ms,a,rfl,r,ha,ok,fun x hx=>?_,fun hx=>⟨_,qP Fr.refl .non,qe hab hy hx⟩⟩
  have r2:=r.to (row.set a none,hd) (j5 ms x)
  refine ⟨_,_,r2.ins,R.cl,R.nr,_,rfl,_,rfl,_,r2.row,b,by rw [az,aV,jL (by omega) (by show (b:Int)<row.length;have:b<row.length:=hb;omega),bQ],?_⟩
  rw [show ((row.set a none).map cA).set b (.d (.int x))=((row.set a none).set b (some x)).map cA from Wk _ b (some x),r2.setRow,r.again]
  exact ⟨_,_,r.fin _ _ .non,q hab hy x hx⟩
noncomputable def Mn (C cB:aw):yq:=fun xs M Q E=>∃ (p rw_ mv:aw) (s:ES) (ms:List Int) (b:Nat),xs=[.ref p,.d (.int b)]/\qo C M p rw_ mv s ms/\b<s.1.length/\OkM s ms.length /\
 (s.1.getD b none ≠ none->E cB (wrd "full") M)/\(s.1.getD b none=none->s.2=none->E cB (wrd "empty") M) /\
 (s.1.getD b none=none->∀ x,s.2=some x->Q (.d .non) (rmP C M p rw_ mv (s.1.set b (some x),none) (j5 ms x)))
noncomputable abbrev El:de:=(jn (top 10) 5)
theorem Ay:zr ["self","b"] ["self","b"] (zf El):=⟨rfl,rfl,rfl,by decide +kernel,rfl,by decide +kernel,by decide +kernel⟩
theorem FH {C:aw}(a:AtM K C "lay" "Room.lay" El)(R:RTx K C)(B:Blt mg){cBadDeed:aw}(MX_BadDeed:MkX P w K mg base cBadDeed 1 1 fnW)(XG_BadDeed:mg "BadDeed"=some (.ref cBadDeed)):DmX P w K mg base C "lay" ["self","b"] 3 (jU (Mn C cBadDeed)):=by
 refine V0 (k:=2) a Ay (fun _ _ _ _ _ _=>Pn2_ fun _ _=>rfl) (fun xs M Q E h=>?_) (fun f cdv A outer s H HX OX MX E1 hr hD=>?_)
 ·obtain ⟨_,_,_,_,_,_,rfl,_⟩:=h;rfl
 have sc:=Ay
 have hsl:=hsl
 have CL:=R.cl
 refine ⟨_,(zd (qj (zJ Qp (zB zV (qq (pv 0) rfl) (pv 1) (fun _ _=>rfl)) jk (zH _)) (zh (qw hD rfl MX_BadDeed hr rfl XG_BadDeed (za zI zb))) zO)
  (zd (qj (zJ Qj (qq (pv 0) rfl) jk (zH _)) (zh (qw hD rfl MX_BadDeed hr rfl XG_BadDeed (za zI zb))) zO)
  (zd (jN (qq (pv 0) rfl) (ju (qq (pv 0) rfl) (pv 1) zW))
  (zd (vk (qq (pv 0) rfl) (qq (pv 0) rfl) xG zc ZC zW)
  (zh (vM (pv 0) jk rfl)))))),?_⟩
 refine exX (by walk_at "sim") ?_
 rintro xs Q E0 rfl ⟨p,rw_,mv,⟨row,hd⟩,ms,b,rfl,r,hb,ok,qf,qe,q⟩
 rw [show zR ["self","b"] [.ref p,.d (.int b)]=[some (.ref p),some (.d (.int b))] from rfl]
 obtain ⟨d1,d2⟩:=yh hb
 refine ze fun r1 hr1=>?_
 walk_at "ra"
 refine ⟨_,_,r.ins,R.cl,R.nr,_,rfl,_,ql r.row,_,d1,?_⟩
 cases hy:row.getD b none with
 | some y=>
  rw [if_pos (by rw [qE];rfl)]
  exact rz (qP Fr.refl .non) (qf (by rw [hy];exact fun z=>nomatch z))
 | none=>
  rw [if_neg (by rw [qE];exact fun z=>nomatch z)]
  subst hr1
  refine ze fun r1 hr1=>?_
  walk_at "ra"
  refine ⟨_,_,r.ins,R.cl,R.nh,_,rfl,?_⟩
  cases hd with
  | none=>
   rw [if_pos (by rw [qE];rfl)]
   exact rz (qP Fr.refl .non) (qe hy rfl)
  | some x=>
   rw [if_neg (by rw [qE];exact fun z=>nomatch z)]
   obtain ⟨x0,x1⟩:=ok.2 x rfl
   obtain ⟨m1,m2⟩:=X8 x0 x1
   subst hr1
   refine ze fun r1 hr1=>?_
   walk_at "ra"
   refine ⟨_,_,r.ins,R.cl,R.nh,_,rfl,_,_,r.ins,R.cl,R.nr,_,rfl,_,rfl,_,r.row,_,d2,?_⟩
   rw [show (row.map cA).set b (cA (some x))=(row.set b (some x)).map cA from Wk row b (some x),r.setRow]
   have r2:=r.to (row.set b (some x),some x) ms
   subst hr1
   refine ze fun r1 hr1=>?_
   walk_at "ra"
   refine ⟨_,_,r2.ins,R.cl,R.nm,_,rfl,_,_,r2.ins,R.cl,R.nh,_,rfl,_,qH r2.mvd,_,rfl,_,m1,_,rfl,_,rfl,_,_,rfl,r2.mvd,_,m2,?_⟩
   rw [Gq,r2.setMv,r.again]
   have r3:=r.to (row.set b (some x),some x) (j5 ms x)
   subst hr1
   walk_at "ra"
   refine ⟨_,_,r3.ins,R.cl,R.nh,ej rfl,?_⟩
   rw [Jp,show AV.d .non=cA none from rfl,r3.setHand,r.again]
   exact ⟨_,_,r.fin _ _ .non,q hy x rfl⟩
noncomputable abbrev xV:de:=top 6
theorem yY:zr ["thing","n"] ["thing","n"] (zf xV):=⟨rfl,rfl,rfl,by decide +kernel,rfl,by decide +kernel,by decide +kernel⟩
noncomputable def zC (d:Dat)(n:Int):Bool:=match d with
 | .int i=>decide (0<=i/\i<n)
 | _=>false
noncomputable def wD:ASp:=fun xs M Q=>∃ (d:Dat) (n:Int),xs=[.d d,.d (.int n)]/\dp d<=100/\Q (.d (.bl (zC d n))) M
theorem yP (a:At K mg "is_place" xV)(B:Blt mg):Df P w K mg base "is_place" ["thing","n"] 1 (cSp wD):=by
 refine dfA (k:=0) a yY (fun _ _ _ _ _ _=>Pn2_ fun _ _=>rfl) (fun xs M Q h=>?_) (fun f cdv A outer s H E hr=>?_)
 ·obtain ⟨_,_,rfl,_⟩:=h;rfl
 have sc:=yY
 have hsl:=hsl
 refine ⟨_,(zd (qj (PW.pt (kZ (jh (zm jp rfl B.isinstance zN (za (pv 0) (za (qt (v:=.ty "bool") rfl B.bool ZW rfl) zb))) (fun _=>rfl)) (xk (jy (jh (zm jp rfl B.isinstance zN (za (pv 0) (za (qt (v:=.ty "int") rfl B.int xT rfl) zb))) (fun _=>rfl)))))) (zh (zK jb)) zO)
  (zh (zK (Je G1 Yw zc (pv 0) (pv 1))))),?_⟩
 refine ex2 (by walk_at "sim") ?_
 rintro xs M Q ⟨d,n,rfl,hd,q⟩
 rw [show zR ["thing","n"] [.d d,.d (.int n)]=[some (.d d),some (.d (.int n))] from rfl]
 have fin:=fun b=>qP (M0:=M) Fr.refl (.bl b)
 cases d with
 | non=>walk_at "ra";exact ⟨_,_,fin _,q⟩
 | bl b=>walk_at "ra";exact ⟨_,_,fin _,q⟩
 | str b=>walk_at "ra";exact ⟨_,_,fin _,q⟩
 | lst b=>walk_at "ra";exact ⟨_,_,fin _,q⟩
 | tup b=>walk_at "ra";exact ⟨_,_,fin _,q⟩
 | int i=>
  walk_at "ra"
  have q:Q (.d (.bl (decide (0<=i/\i<n)))) M:=q
  by_cases c:0<=i
  ·rw [if_pos c]
   rw [show decide (0<=i/\i<n)=decide (i<n) by simp [c]] at q
   walk_at "ra"
   exact ⟨_,_,fin _,q⟩
  ·rw [if_neg c]
   rw [show decide (0<=i/\i<n)=false by simp [c]] at q
   walk_at "ra"
   exact ⟨_,_,fin _,q⟩
 | ty _=>rw [dp] at hd;omega
 | rng _ _ _=>rw [dp] at hd;omega
 | scr _ _=>rw [dp] at hd;omega
noncomputable abbrev Fe:List (Key × V):=[(cH (ap "swap"),.int 2),(cH (ap "take"),.int 1),(cH (ap "move"),.int 2),(cH (ap "lay"),.int 1)]
noncomputable def kg (w:Str):Option Int:=if w=ap "swap" then some 2 else if w=ap "take" then some 1 else if w=ap "move" then some 2 else if w=ap "lay" then some 1 else none
noncomputable def oD:Option Int->Dat
 | none=>.non
 | some x=>.int x
theorem IT (w:Str):A0 ((kQ Fe (cH w)).getD .non)=some (oD (kg w)):=by
 unfold kg kQ
 by_cases c1:w=ap "swap"
 ·subst c1;rfl
 rw [if_neg c1]
 by_cases c2:w=ap "take"
 ·subst c2;rfl
 rw [if_neg c2]
 by_cases c3:w=ap "move"
 ·subst c3;rfl
 rw [if_neg c3]
 by_cases c4:w=ap "lay"
 ·subst c4;rfl
 rw [if_neg c4]
 have n:∀ x:Str,w ≠ x->¬ decide ((cH x:Key)=cH w)=true:=fun x h z=>h (cH.inj (of_decide_eq_true z)).symm
 simp only [dB,n _ c1,n _ c2,n _ c3,n _ c4,List.find?_nil]
 rfl
theorem kG:∀ {l:List Dat} {n:Nat},dps l<=n->∀ d ∈ l,dp d<=n
 | a :: r,n,h,d,hd=>by
  rw [dps] at h
  rcases aE.mp hd with rfl | hd
  ·omega
  ·exact kG (by omega) d hd
noncomputable def qF (x:Dat)(n:Int):Bool:=match x with
 | .tup (.str w :: ps)=>kg w == some (ps.length:Int) && ps.all (zC · n)
 | _=>false
noncomputable def Ye:ASp:=fun xs M Q=>∃ (x:Dat) (n:Int),xs=[.d x,.d (.int n)]/\dp x<=40/\(∀ l,x=.tup l->l.length<=1000)/\Q (.d (.bl (qF x n))) M
noncomputable abbrev vG:de:=top 9
theorem Ze:zr ["thing","n","word","part"] ["thing","n"] (zf vG):=⟨rfl,rfl,rfl,by decide +kernel,rfl,by decide +kernel,by decide +kernel⟩
theorem Vt (a:At K mg "is_deed" vG)(B:Blt mg)(Ball:mg "all"=none)(D_is_place:Df P w K mg base "is_place" ["thing","n"] 1 (cSp wD)){pa:aw}(KP:KD K w pa Fe)(MP:mg "PLACES_OF"=some (.ref pa)):Df P w K mg base "is_deed" ["thing","n"] 2 (cSp Ye):=by
 refine dfA (k:=1) a Ze (fun _ _ _ _ _ _=>Pn2_ fun _ _=>rfl) (fun xs M Q h=>?_) (fun f cdv A outer s H E hr=>?_)
 ·obtain ⟨_,_,rfl,_⟩:=h;rfl
 have sc:=Ze
 have hsl:=hsl
 refine ⟨_,(zd (qj (PW.pt (kZ (jy (jh (zm jp rfl B.isinstance zN (za (pv 0) (za (qt (v:=.ty "tuple") rfl B.tuple qJ rfl) zb))) (fun _=>rfl))) (xk (zJ (qC hr.units) (zm zE rfl B.len qB (za (pv 0) zb)) zc (zH _))))) (zh (zK jb)) zO)
  (zd (zy (i:=2) sc.nd rfl (by first | exact bf rfl | exact bg rfl) (zB zV (pv 0) zc (fun _ _=>rfl)))
  (zd (qj (PW.pt (kZ (jy (jh (zm jp rfl B.isinstance zN (za (pv 2) (za (qt (v:=.ty "str") rfl B.str A8 rfl) zb))) (fun _=>rfl))) (xk (zJ (xo hr.units) (EC KP rfl MP (pv 2) ⟨rfl,rfl,rfl,rfl⟩) (zp ZR (zm zE rfl B.len qB (za (pv 0) zb)) zc) (zH _))))) (zh (zK jb)) zO)
  (zh (zK (zm (yH rfl) rfl Ball K0 (za (qR (ts:=[3]) rfl rfl (xu (zx ji (pv 0) (zz zc) zF)) (fun _ _ _ _=>(zu (i:=3) sc.nd rfl (by first | exact bf rfl | exact bg rfl))) (fun _ _ _ _=>qg) (fun _ _ _ _=>(zT D_is_place hr rfl (za (pv 3) (za (pv 1) zb))))) zb))))))),?_⟩
 refine ex2 (by walk_at "sim") ?_
 rintro xs M Q ⟨x,n,rfl,hd,hl,q⟩
 rw [show zR ["thing","n","word","part"] [.d x,.d (.int n)]=[some (.d x),some (.d (.int n)),none,none] from rfl]
 have fin:=fun b=>qP (M0:=M) Fr.refl (.bl b)
 refine ze fun r1 hr1=>?_
 cases x with
 | non=>walk_at "ra";exact ⟨_,_,fin _,q⟩
 | bl b=>walk_at "ra";exact ⟨_,_,fin _,q⟩
 | str b=>walk_at "ra";exact ⟨_,_,fin _,q⟩
 | lst b=>walk_at "ra";exact ⟨_,_,fin _,q⟩
 | int i=>walk_at "ra";exact ⟨_,_,fin _,q⟩
 | ty _=>rw [dp] at hd;omega
 | rng _ _ _=>rw [dp] at hd;omega
 | scr _ _=>rw [dp] at hd;omega
 | tup l=>
  have hl:=hl l rfl
  walk_at "ra"
  cases l with
  | nil=>walk_at "ra";exact ⟨_,_,fin _,q⟩
  | cons w ps=>
   rw [if_neg (by rw [aN];omega)]
   subst hr1
   refine ze fun r1 hr1=>?_
   walk_at "ra"
   have a0:atI (AV.d w :: ps.map AV.d) 0=some (.d w):=by
    unfold atI
    rw [jL (by omega) (by rw [aN];omega)]
    rfl
   refine ⟨_,a0,?_⟩
   have dw:dps (w :: ps)<=39:=by rw [dp] at hd;omega
   have dwi:∀ d ∈ w :: ps,dp d<=39:=kG dw
   subst hr1
   refine ze fun r1 hr1=>?_
   have no:(∀ t,w ≠ .str t)->Q (.d (.bl false)) M:=fun h=>by
    have e:qF (.tup (w :: ps)) n=false:=by
     unfold qF
     split
     ·rename_i w' ps' z
      cases z
      exact absurd rfl (h _)
     ·rfl
    rw [e] at q;exact q
   have dpw:=dwi w ck
   cases w with
   | non=>walk_at "ra";exact ⟨_,_,fin _,no fun _ z=>nomatch z⟩
   | bl b=>walk_at "ra";exact ⟨_,_,fin _,no fun _ z=>nomatch z⟩
   | lst b=>walk_at "ra";exact ⟨_,_,fin _,no fun _ z=>nomatch z⟩
   | tup b=>walk_at "ra";exact ⟨_,_,fin _,no fun _ z=>nomatch z⟩
   | int i=>walk_at "ra";exact ⟨_,_,fin _,no fun _ z=>nomatch z⟩
   | ty _=>rw [dp] at dpw;omega
   | rng _ _ _=>rw [dp] at dpw;omega
   | scr _ _=>rw [dp] at dpw;omega
   | str t=>
    walk_at "ra"
    refine ⟨_,IT t,?_,?_⟩
    ·cases kg t <;> simp [oD,dp]
    have ee:eqD (oD (kg t)) (.int (((ps.length+1:Nat):Int) - 1))=(kg t == some (ps.length:Int)):=by
     cases kg t with
     | none=>show eqD .non (.int _)=_;rw [V7];rfl
     | some k=>
      show eqD (.int k) (.int _)=_
      rw [kf,show ((ps.length+1:Nat):Int) - 1=ps.length by omega]
      by_cases c:k=(ps.length:Int)
      ·simp [c]
      ·simp [c]
    rw [ee]
    have q:Q (.d (.bl (kg t == some (ps.length:Int) && ps.all (zC · n)))) M:=q
    cases hp:kg t == some (ps.length:Int) with
    | false=>
     rw [if_pos rfl]
     rw [hp,Bool.false_and] at q
     exact ⟨_,_,fin _,q⟩
    | true=>
     rw [if_neg (fun z=>nomatch z)]
     rw [hp,ni] at q
     subst hr1
     walk_at "ra"
     have ec:qN (Dat.str t :: ps) (some 1) none=ps:=by
      rw [show (some 1:Option Int)=some ((1:Nat):Int) from rfl,jE];rfl
     rw [ec]
     refine ⟨?_,?_⟩
     ·rintro ⟨z,_⟩
      unfold HT.sIx at z
      simp at z
      try omega
     refine HH (fun (o:Option AV)=>[some (.d (.tup (.str t :: ps))),some (.d (.int n)),some (.d (.str t)),o]) (fun x=>match x with | .d d=>.d (.bl (zC d n)) | x=>x) ⟨_,rfl⟩ trivial (by rw [az];rw [aN] at hl;omega) (fun o x Q hx q=>?_) fun o=>?_
     ·obtain ⟨d,hd,rfl⟩:=bZ.mp hx
      walk_at "ra"
      exact ⟨d,n,rfl,by have:=dwi d (bD _ hd);omega,q (some (.d d))⟩
     ·refine ⟨ps.map fun d=>.bl (zC d n),by rw [bR,<- zS (ps.map fun d=>.bl (zC d n)),bR];rfl,ps.map (zC · n),by rw [bR,bR];rfl,?_⟩
      rw [List.all_map]
      exact ⟨_,_,fin _,q⟩
theorem VX {pa:aw}{t1 t2 t3 t4 u1 u2 u3 u4:Tok}{ep:Nat}(lP:K.lookup pa=some ⟨.type "dict",none,.dict #[⟨iQ w "swap",.str "swap" t1,.int 2 u1⟩,⟨iQ w "take",.str "take" t2,.int 1 u2⟩,⟨iQ w "move",.str "move" t3,.int 2 u3⟩,⟨iQ w "lay",.str "lay" t4,.int 1 u4⟩] ep,#[]⟩)(nP:(pa == d7)=false):KD K w pa Fe:=by
 refine ⟨⟨_,_,lP,fun P=>?_⟩,nP⟩
 refine ⟨fun e he=>?_,[(cH "swap",.int 2 u1),(cH "take",.int 1 u2),(cH "move",.int 2 u3),(cH "lay",.int 1 u4)],?_,?_,by show ([cH (ap "swap"),cH (ap "take"),cH (ap "move"),cH (ap "lay")]:List Key).Nodup;decide +kernel⟩
 ·have he:e ∈ [_,_,_,_]:=mF.mpr he
  rcases aE.mp he with z | he
  ·exact ⟨cH "swap",by rw [z];rfl,by rw [z];rfl⟩
  rcases aE.mp he with z | he
  ·exact ⟨cH "take",by rw [z];rfl,by rw [z];rfl⟩
  rcases aE.mp he with z | he
  ·exact ⟨cH "move",by rw [z];rfl,by rw [z];rfl⟩
  rw [bW.mp he]
  exact ⟨cH "lay",rfl,rfl⟩
 ·exact .cons ⟨rfl,_,rfl⟩ (.cons ⟨rfl,_,rfl⟩ (.cons ⟨rfl,_,rfl⟩ (.cons ⟨rfl,_,rfl⟩ .nil)))
 ·exact .cons rfl rfl (.cons rfl rfl (.cons rfl rfl (.cons rfl rfl .nil)))
abbrev RS:=ES × List Int
noncomputable def kW (s:ES)(ms:List Int)(a b:Nat):Except String RS:=if a=b then .error "same" else match s.1.getD a none,s.1.getD b none with
 | some x,some y=>.ok (((s.1.set a (some y)).set b (some x),s.2),j5 (j5 ms x) y)
 | _,_=>.error "empty"
noncomputable def kO (s:ES)(ms:List Int)(a b:Nat):Except String RS:=if a=b then .error "same" else match s.1.getD b none with
 | some _=>.error "full"
 | none=>match s.1.getD a none with
  | some x=>.ok (((s.1.set a none).set b (some x),s.2),j5 ms x)
  | none=>.error "empty"
noncomputable def xj (s:ES)(ms:List Int)(a:Nat):Except String RS:=match s.2 with
 | some _=>.error "full"
 | none=>match s.1.getD a none with
  | some x=>.ok ((s.1.set a none,some x),j5 ms x)
  | none=>.error "empty"
noncomputable def vw (s:ES)(ms:List Int)(b:Nat):Except String RS:=match s.1.getD b none with
 | some _=>.error "full"
 | none=>match s.2 with
  | some x=>.ok ((s.1.set b (some x),none),j5 ms x)
  | none=>.error "empty"
noncomputable def iN:Dat->Nat
 | .int i=>i.toNat
 | _=>0
noncomputable def doR (s:ES)(ms:List Int)(x:Dat):Except String RS:=if qF x s.1.length=true then (match x with
  | .tup (.str w :: ps)=>if w=ap "swap" then kW s ms (iN (ps.getD 0 .non)) (iN (ps.getD 1 .non)) else if w=ap "take" then xj s ms (iN (ps.getD 0 .non)) else if w=ap "move" then kO s ms (iN (ps.getD 0 .non)) (iN (ps.getD 1 .non)) else vw s ms (iN (ps.getD 0 .non))
  | _=>.error "form") else .error "form"
theorem Zx {x:Dat} (h:qF x n=true):∃ (w:Str) (ps:List Dat),x=.tup (.str w :: ps)/\kg w=some (ps.length:Int)/\∀ d ∈ ps,∃ k:Nat,d=.int k/\k<n:=by
 unfold qF at h
 split at h
 ·rename_i w ps
  rw [b7] at h
  refine ⟨w,ps,rfl,mS h.1,fun d hd=>?_⟩
  have:=fJ.mp h.2 d hd
  cases d with
  | int i=>
   have:decide (0<=i/\i<(n:Int))=true:=this
   have:=of_decide_eq_true this
   exact ⟨i.toNat,by rw [Int.toNat_of_nonneg this.1],by omega⟩
  | _=>cases this
 ·cases h
theorem ZI {w:Str}{ps:List Dat}{n:Nat}(h:kg w=some (ps.length:Int))(hp:∀ d ∈ ps,∃ k:Nat,d=.int k/\k<n)(hw:w=ap "swap" \/ w=ap "move"):∃ a b:Nat,ps=[.int a,.int b]/\a<n/\b<n:=by
 have e:kg w=some 2:=by rcases hw with rfl | rfl <;> rfl
 rw [e] at h
 have hl:ps.length=2:=by injection h with h;omega
 match ps,hl with
 | [x,y],_=>
  obtain ⟨a,rfl,ha⟩:=hp x (by simp)
  obtain ⟨b,rfl,hb⟩:=hp y (by simp)
  exact ⟨a,b,rfl,ha,hb⟩
theorem ZG {w:Str}{ps:List Dat} (h:kg w=some (ps.length:Int))(hp:∀ d ∈ ps,∃ k:Nat,d=.int k/\k<n)(h1:w ≠ ap "swap")(h2:w ≠ ap "move"):∃ a:Nat,ps=[.int a]/\a<n:=by
 have e:kg w=some 1 \/ kg w=none:=by
  unfold kg
  rw [if_neg h1]
  by_cases c:w=ap "take"
  ·rw [if_pos c];exact .inl rfl
  rw [if_neg c,if_neg h2]
  by_cases c:w=ap "lay"
  ·rw [if_pos c];exact .inl rfl
  rw [if_neg c];exact .inr rfl
 rcases e with e | e <;> rw [e] at h
 ·have hl:ps.length=1:=by injection h with h;omega
  match ps,hl with
  | [x],_=>
   obtain ⟨a,rfl,ha⟩:=hp x (by simp)
   exact ⟨a,rfl,ha⟩
 ·cases h
noncomputable def aDo (C cB:aw):yq:=fun xs M Q E=>∃ (p rw_ mv:aw) (s:ES) (ms:List Int) (x:Dat),xs=[.ref p,.d x]/\qo C M p rw_ mv s ms/\OkM s ms.length/\dp x<=40/\(∀ l,x=.tup l->l.length<=1000) /\
 (∀ w,doR s ms x=.error w->E cB (wrd w) M)/\(∀ t,doR s ms x=.ok t->Q (.d .non) (rmP C M p rw_ mv t.1 t.2))
noncomputable abbrev IW:de:=(jn (top 10) 1)
theorem GX:zr ["self","thing","word"] ["self","thing"] (zf IW):=⟨rfl,rfl,rfl,by decide +kernel,rfl,by decide +kernel,by decide +kernel⟩
theorem Il {C:aw}(a:AtM K C "do" "Room.do" IW)(R:RTx K C)(B:Blt mg){cBadDeed:aw}(MX_BadDeed:MkX P w K mg base cBadDeed 3 1 fnW)(XG_BadDeed:mg "BadDeed"=some (.ref cBadDeed))(D_is_deed:Df P w K mg base "is_deed" ["thing","n"] 4 (cSp Ye))(DM_swap:DmX P w K mg base C "swap" ["self","a","b"] 4 (jU (G4 C cBadDeed)))(DM_take:DmX P w K mg base C "take" ["self","a"] 4 (jU (D2 C cBadDeed)))(DM_move:DmX P w K mg base C "move" ["self","a","b"] 4 (jU (Hb C cBadDeed)))(DM_lay:DmX P w K mg base C "lay" ["self","b"] 4 (jU (Mn C cBadDeed))):DmX P w K mg base C "do" ["self","thing"] 5 (jU (aDo C cBadDeed)):=by
 refine V0 (k:=4) a GX (fun _ _ _ _ _ _=>Pn2_ fun _ _=>rfl) (fun xs M Q E h=>?_) (fun f cdv A outer s H HX OX MX E1 hr hD=>?_)
 ·obtain ⟨_,_,_,_,_,_,rfl,_⟩:=h;rfl
 have sc:=GX
 have hsl:=hsl
 have CL:=R.cl
 refine ⟨_,(zd (qj (jy (jh (zT D_is_deed hr rfl (za (pv 1) (za (zm zE rfl B.len qB (za (qq (pv 0) rfl) zb)) zb))) (fun _=>rfl))) (zh (qw hD rfl MX_BadDeed hr rfl XG_BadDeed (za zI zb))) zO)
  (zd (zy (i:=2) sc.nd rfl (by first | exact bf rfl | exact bg rfl) (zB zV (pv 1) zc (fun _ _=>rfl)))
  (zh (qj (zJ (qC hr.units) (pv 2) zI (zH _)) (zh (jW (xP CL DM_swap hr hD.passX (pv 0) (za (zB zV (pv 1) zc (fun _ _=>rfl)) (za (zB zV (pv 1) zc (fun _ _=>rfl)) zb))))) (zh (qj (zJ (qC hr.units) (pv 2) zI (zH _)) (zh (jW (xP CL DM_take hr hD.passX (pv 0) (za (zB zV (pv 1) zc (fun _ _=>rfl)) zb)))) (zh (qj (zJ (qC hr.units) (pv 2) zI (zH _)) (zh (jW (xP CL DM_move hr hD.passX (pv 0) (za (zB zV (pv 1) zc (fun _ _=>rfl)) (za (zB zV (pv 1) zc (fun _ _=>rfl)) zb))))) (zh (jW (xP CL DM_lay hr hD.passX (pv 0) (za (zB zV (pv 1) zc (fun _ _=>rfl)) zb)))))))))))),?_⟩
 refine exX (by walk_at "sim") ?_
 rintro xs Q E0 rfl ⟨p,rw_,mv,⟨row,hd⟩,ms,x,rfl,r,ok,hdp,hl,qe,q⟩
 rw [show zR ["self","thing","word"] [.ref p,.d x]=[some (.ref p),some (.d x),none] from rfl]
 refine ze fun r1 hr1=>?_
 walk_at "ra"
 refine ⟨_,_,r.ins,R.cl,R.nr,_,rfl,_,ql r.row,x,row.length,by rw [az],hdp,hl,_,rfl,?_⟩
 cases hf:qF x row.length with
 | false=>
  rw [if_pos rfl]
  exact rz (qP Fr.refl .non) (qe "form" (by unfold doR;rw [if_neg (by show ¬ qF x row.length=true;rw [hf];exact fun z=>nomatch z)]))
 | true=>
  rw [if_neg (fun z=>nomatch z)]
  obtain ⟨w,ps,rfl,hpl,hps⟩:=Zx hf
  have ed:doR (row,hd) ms (.tup (.str w :: ps))=if w=ap "swap" then kW (row,hd) ms (iN (ps.getD 0 .non)) (iN (ps.getD 1 .non)) else if w=ap "take" then xj (row,hd) ms (iN (ps.getD 0 .non)) else if w=ap "move" then kO (row,hd) ms (iN (ps.getD 0 .non)) (iN (ps.getD 1 .non)) else vw (row,hd) ms (iN (ps.getD 0 .non)):=by
   unfold doR;rw [if_pos (show qF (.tup (.str w :: ps)) row.length=true from hf)]
  rw [ed] at qe q
  subst hr1
  refine ze fun r1 hr1=>?_
  walk_at "ra"
  have a0:atI (AV.d (.str w) :: ps.map AV.d) 0=some (.d (.str w)):=by
   unfold atI
   rw [jL (by omega) (by rw [aN];omega)]
   rfl
  refine ⟨_,a0,?_⟩
  subst hr1
  walk_at "ra"
  have f0:=qP (M0:=MX) Fr.refl .non
  by_cases w1:w=ap "swap"
  ·rw [if_pos w1] at qe q ⊢
   obtain ⟨a,b,rfl,ha,hb⟩:=ZI hpl hps (.inl w1)
   have qe:∀ w,kW (row,hd) ms a b=.error w->E0 cBadDeed (wrd w) MX:=qe
   have q:∀ t,kW (row,hd) ms a b=.ok t->Q (.d .non) (rmP C MX p rw_ mv t.1 t.2):=q
   refine ⟨_,r.ins,rfl,_,rfl,_,rfl,p,rw_,mv,(row,hd),ms,a,b,rfl,r,ha,hb,ok,fun hab=>⟨_,f0,qe "same" (by unfold kW;rw [if_pos hab])⟩,fun hab hh=>⟨_,f0,qe "empty" ?_⟩,fun hab x y hx hy=>⟨_,_,r.fin _ _ .non,q (_,_) ?_⟩⟩
   ·unfold kW
    rw [if_neg hab]
    dsimp only at hh ⊢
    rcases hh with hh | hh
    ·rw [hh]
    ·rw [hh];cases row.getD a none <;> rfl
   ·unfold kW
    rw [if_neg hab]
    dsimp only at hx hy ⊢
    rw [hx,hy];rfl
  rw [if_neg w1] at qe q ⊢
  by_cases w2:w=ap "take"
  ·rw [if_pos w2] at qe q ⊢
   obtain ⟨a,rfl,ha⟩:=ZG hpl hps w1 (by rw [w2];decide +kernel)
   have qe:∀ w,xj (row,hd) ms a=.error w->E0 cBadDeed (wrd w) MX:=qe
   have q:∀ t,xj (row,hd) ms a=.ok t->Q (.d .non) (rmP C MX p rw_ mv t.1 t.2):=q
   refine ⟨_,r.ins,rfl,_,rfl,p,rw_,mv,(row,hd),ms,a,rfl,r,ha,ok,fun hh=>⟨_,f0,qe "full" ?_⟩,fun hh hx=>⟨_,f0,qe "empty" ?_⟩,fun hh x hx=>⟨_,_,r.fin _ _ .non,q (_,_) ?_⟩⟩
   ·unfold xj
    cases hd with
    | none=>exact absurd rfl hh
    | some y=>rfl
   ·unfold xj
    dsimp only at hh hx ⊢
    rw [hh];dsimp only;rw [hx]
   ·unfold xj
    dsimp only at hh hx ⊢
    rw [hh];dsimp only;rw [hx];rfl
  rw [if_neg w2] at qe q ⊢
  by_cases w3:w=ap "move"
  ·rw [if_pos w3] at qe q ⊢
   obtain ⟨a,b,rfl,ha,hb⟩:=ZI hpl hps (.inr w3)
   have qe:∀ w,kO (row,hd) ms a b=.error w->E0 cBadDeed (wrd w) MX:=qe
   have q:∀ t,kO (row,hd) ms a b=.ok t->Q (.d .non) (rmP C MX p rw_ mv t.1 t.2):=q
   refine ⟨_,r.ins,rfl,_,rfl,_,rfl,p,rw_,mv,(row,hd),ms,a,b,rfl,r,ha,hb,ok,fun hab=>⟨_,f0,qe "same" (by unfold kO;rw [if_pos hab])⟩,fun hab hh=>⟨_,f0,qe "full" ?_⟩,fun hab hb' hx=>⟨_,f0,qe "empty" ?_⟩,fun hab hb' x hx=>⟨_,_,r.fin _ _ .non,q (_,_) ?_⟩⟩
   ·unfold kO
    rw [if_neg hab]
    dsimp only at hh ⊢
    cases z:row.getD b none with
    | none=>exact absurd z hh
    | some y=>rfl
   ·unfold kO
    rw [if_neg hab]
    dsimp only at hb' hx ⊢
    rw [hb'];dsimp only;rw [hx]
   ·unfold kO
    rw [if_neg hab]
    dsimp only at hb' hx ⊢
    rw [hb'];dsimp only;rw [hx];rfl
  rw [if_neg w3] at qe q ⊢
  obtain ⟨b,rfl,hb⟩:=ZG hpl hps w1 w3
  have qe:∀ w,vw (row,hd) ms b=.error w->E0 cBadDeed (wrd w) MX:=qe
  have q:∀ t,vw (row,hd) ms b=.ok t->Q (.d .non) (rmP C MX p rw_ mv t.1 t.2):=q
  refine ⟨_,r.ins,rfl,_,rfl,p,rw_,mv,(row,hd),ms,b,rfl,r,hb,ok,fun hh=>⟨_,f0,qe "full" ?_⟩,fun hh hx=>⟨_,f0,qe "empty" ?_⟩,fun hh x hx=>⟨_,_,r.fin _ _ .non,q (_,_) ?_⟩⟩
  ·unfold vw
   dsimp only at hh ⊢
   cases z:row.getD b none with
   | none=>exact absurd z hh
   | some y=>rfl
  ·unfold vw
   dsimp only at hh hx ⊢
   rw [hh];dsimp only;rw [hx]
  ·unfold vw
   dsimp only at hh hx ⊢
   rw [hh];dsimp only;rw [hx];rfl
theorem Mr (c:Option Int):cA c=.d (oD c):=by cases c <;> rfl
theorem EX (row:List (Option Int)):pur (row.map cA)=some (row.map oD):=by
 rw [show row.map cA=(row.map oD).map AV.d by rw [bR];exact eM fun c _=>Mr c,zS]
noncomputable def GR (C:aw):ASp:=fun xs M Q=>∃ (p rw_ mv:aw) (s:ES) (ms:List Int),xs=[.ref p]/\qo C M p rw_ mv s ms/\s.1.length<=1000/\Q (.d (.tup (s.1.map oD))) M
noncomputable abbrev K6:de:=(jn (top 10) 7)
theorem Yp:zr ["self"] ["self"] (zf K6):=⟨rfl,rfl,rfl,by decide +kernel,rfl,by decide +kernel,by decide +kernel⟩
theorem Gb (a:AtM K C "row_now" "Room.row_now" K6)(R:RTx K C)(B:Blt mg):Dm P w K mg base C "row_now" ["self"] 1 (cSp (GR C)):=by
 refine dmA (k:=0) a Yp (fun _ _ _ _ _ _=>Pn1_ fun _=>rfl) (fun xs M Q h=>?_) (fun f cdv A outer s H E hr=>?_)
 ·obtain ⟨_,_,_,_,_,rfl,_⟩:=h;rfl
 have sc:=Yp
 have hsl:=hsl
 have CL:=R.cl
 refine ⟨_,(zh (zK (zU qy rfl B.tuple qJ (za (qq (pv 0) rfl) zb)))),?_⟩
 refine ex2 (by walk_at "sim") ?_
 rintro xs M Q ⟨p,rw_,mv,⟨row,hd⟩,ms,rfl,r,hl,q⟩
 rw [show zR ["self"] [.ref p]=[some (.ref p)] from rfl]
 walk_at "ra"
 refine ⟨_,_,r.ins,R.cl,R.nr,_,rfl,_,ql r.row,_,EX _,?_⟩
 exact ⟨_,_,qP Fr.refl _,q⟩
theorem Jd {s':ES}{ms':List Int}(t:qo C (rmP C M p rw_ mv s' ms') p rw_ mv s' ms')(d:Dat):y4 M (rmP C M p rw_ mv s' ms') (.d d) (.d d) (rmP C M p rw_ mv s' ms'):=by
 refine ⟨fun q=>.inl rfl,fun q o e=>?_,.inl ⟨rfl,fun p z=>nomatch z⟩⟩
 by_cases c1:q=mv
 ·rw [c1,t.mvd] at e
  cases e
  exact .inr fun z hz=>absurd hz (vq (ds:=ms'.map .int) (qO _) z)
 ·by_cases c2:q=rw_
  ·rw [c2,t.row] at e
   cases e
   refine .inr fun z hz=>?_
   obtain ⟨x,_,hx⟩:=bZ.mp (show AV.ref z ∈ s'.1.map cA from hz)
   cases x <;> cases hx
  ·by_cases c3:q=p
   ·rw [c3,t.ins] at e
    cases e
    refine .inr fun z hz=>?_
    have hz:AV.ref z ∈ [AV.ref rw_,cA s'.2,AV.ref mv]:=hz
    simp only [aE,aT,or_false] at hz
    rcases hz with hz | hz | hz
    ·cases hz;rw [t.row];exact fun z=>nomatch z
    ·cases h:s'.2 <;> rw [h] at hz <;> cases hz
    ·cases hz;rw [t.mvd];exact fun z=>nomatch z
   ·refine .inl ?_
    unfold rmP at e
    rw [zn c1,zn c2,zn c3] at e
    exact e
theorem VZ {a b y:AV}:xH (ap "moved") y [(ap "row",a),(ap "hand",b)]=[(ap "row",a),(ap "hand",b),(ap "moved",y)]:=by
 unfold xH;rw [if_neg (by decide +kernel)];unfold xH;rw [if_neg (by decide +kernel)];unfold xH;rfl
noncomputable def WA (C:aw):ASp:=fun xs M Q=>∃ (p:aw) (n:Nat),xs=[.ref p,.d (.int n)]/\M p=some (.ins C [])/\n<=1000 /\
 ∀ rw_ mv,M rw_=none->M mv=none->rw_ ≠ mv->rw_ ≠ p->mv ≠ p->Q (.d .non) (rmP C M p rw_ mv ((jj 0 1 n).map some,none) (aS n 0))
noncomputable abbrev Qu:de:=(jn (top 10) 0)
theorem QQ:zr ["self","n"] ["self","n"] (zf Qu):=⟨rfl,rfl,rfl,by decide +kernel,rfl,by decide +kernel,by decide +kernel⟩
theorem WV (a:AtM K C "__init__" "Room.__init__" Qu)(R:RTx K C)(B:Blt mg):Dm P w K mg base C "__init__" ["self","n"] 1 (cSp (WA C)):=by
 refine dmA (k:=0) a QQ (fun _ _ _ _ _ _=>Pn2_ fun _ _=>rfl) (fun xs M Q h=>?_) (fun f cdv A outer s H E hr=>?_)
 ·obtain ⟨_,_,rfl,_⟩:=h;rfl
 have sc:=QQ
 have hsl:=hsl
 have CL:=R.cl
 refine ⟨_,(zd (vM (pv 0) (kJ (zU (wJ rfl) rfl B.list jV (za (zU Jc rfl B.range Dj (za (pv 1) zb)) zb))) rfl)
  (zd (vM (pv 0) jk rfl)
  (zh (vM (pv 0) (kJ (zp KN (zL (za zc zb)) (pv 1))) rfl)))),?_⟩
 refine ex2 (by walk_at "sim") ?_
 rintro xs M Q ⟨p,n,rfl,hp,hn,q⟩
 rw [show zR ["self","n"] [.ref p,.d (.int n)]=[some (.ref p),some (.d (.int n))] from rfl]
 refine ze fun r1 hr1=>?_
 walk_at "ra"
 refine ⟨_,_,_,rfl,small_one (by omega) (by omega) (by omega) (by omega),n,by rw [rangeSize_one];split <;> omega,by omega,fun rw_ hrw _=>?_⟩
 have np:p ≠ rw_:=fun z=>by rw [z,hrw] at hp;cases hp
 refine ⟨C,[],by rw [zn np];exact hp,R.cl,R.nr,ej rfl,?_⟩
 subst hr1
 refine ze fun r1 hr1=>?_
 walk_at "ra"
 refine ⟨_,_,zk,R.cl,R.nh,ej rfl,?_⟩
 subst hr1
 walk_at "ra"
 rw [if_neg (show ¬ ap "row"=ap "hand" by decide +kernel)]
 refine ⟨by omega,by omega,by omega,by omega,fun mv hmv _=>?_⟩
 have n1:mv ≠ p:=fun z=>by rw [z,zk] at hmv;cases hmv
 rw [zn n1] at hmv
 have n2:mv ≠ rw_:=fun z=>by rw [z,zk] at hmv;cases hmv
 rw [zn n2] at hmv
 refine ⟨C,_,by rw [zn (Ne.symm n1),zk],R.cl,R.nm,ej rfl,?_⟩
 rw [VZ,Iz,bQ]
 have e1:(MO.lst ((jj 0 1 n).map fun i=>AV.d (.int i)))=Y6 ((jj 0 1 n).map some):=by show MO.lst _=MO.lst _;rw [bR];rfl
 have e2:MO.lst (aS n (AV.d (.int 0)))=msA (aS n 0):=by show MO.lst _=MO.lst _;rw [gm]
 rw [e1,e2]
 have em:∀ (x y:MO),mup (mup (mup (mup M rw_ (Y6 ((jj 0 1 n).map some))) p x) mv (msA (aS n 0))) p (Bp C rw_ mv none)=rmP C M p rw_ mv ((jj 0 1 n).map some,none) (aS n 0):=fun x _=>by
  funext b
  unfold rmP mup
  by_cases c1:b=mv
  ·have:¬ b=p:=fun z=>n1 (c1.symm.trans z)
   simp [c1,n1]
  ·by_cases c2:b=rw_
   ·have:¬ b=p:=fun z=>np (z.symm.trans c2)
    simp [c1,c2,Ne.symm np,Ne.symm n2]
   ·by_cases c3:b=p <;> simp [c1,c2,c3,np,Ne.symm n1]
 show rtA M Q (.d .non) (mup (mup (mup (mup M rw_ (Y6 ((jj 0 1 n).map some))) p _) mv (msA (aS n 0))) p (Bp C rw_ mv none))
 rw [em _ (.lst [])]
 have t:qo C (rmP C M p rw_ mv ((jj 0 1 n).map some,none) (aS n 0)) p rw_ mv ((jj 0 1 n).map some,none) (aS n 0):=by
  unfold rmP
  exact ⟨by rw [zn (Ne.symm n1),zn np,zk],by rw [zn (Ne.symm n2),zk],zk,Ne.symm n2⟩
 exact ⟨_,_,Jd t .non,q rw_ mv hrw hmv (Ne.symm n2) (Ne.symm np) n1⟩
theorem MkX.mono {j k n:Nat}{fn:List V->List (Str × V)}(m:MkX P w K mg base C j n fn)(h:j<=k):MkX P w K mg base C k n fn:=
 let ⟨f,fd,ps,q,F,r⟩:=m
 ⟨f,fd,ps,q,F.mono h,r⟩
noncomputable abbrev wa:de:=(jn (top 3) 0)
theorem Zy:zr ["self","word"] ["self","word"] (zf wa):=⟨rfl,rfl,rfl,by decide +kernel,rfl,by decide +kernel,by decide +kernel⟩
theorem HQ {C f:aw}{fd:dE}(F:Fun K "__init__" "BadDeed.__init__" wa f fd)(q:jM K C vC "ValueError.__new__" f=true)(hf:dF K (.ref f)=true)(S:yb K C "word"):MkX P w K mg base C 1 1 fnW:=by
 refine DR (k:=0) F Zy (fun _ _ _ _ _ _=>Pn2_ fun _ _=>rfl) q hf rfl (fun cdv A outer s H E=>?_)
 have sc:=Zy
 refine ⟨_,(zh (yo (pv 0) (pv 1) rfl)),?_⟩
 intro a t0 us Q hl ha hq
 match us,hl with
 | [v],_=>
  show QZ _ _ _ _ _ _ _
  refine ⟨v,rfl,.ref a,rfl,a,C,t0,rfl,S,.inl ⟨ha,fun dx hd hne=>hq dx hd hne⟩⟩
noncomputable def wr:ASp:=fun xs M Q=>∃ (b:aw) (many:Int) (N:Nat),xs=[.ref b,.d (.int many)]/\BxM M b N/\N<1000000000/\0<many/\many<1073741824/\∀ r M',BxS M M' b (N+1)->0<=r->r<many->Q (.d (.int r)) M'
theorem Ew (vs:List V)(H:Hp)(Q:VK)(E:XK)(h:cSp wr vs H Q E):Ww vs H Q E:=by
 obtain ⟨xs,M,O,Q',w,r,⟨b,many,N,rfl,hb,h1,h2,h3,q⟩,k⟩:=h
 obtain ⟨v,u,rfl,rv,ru⟩:=yF r
 rw [zQ ru,rv.1]
 refine ⟨b,many,N,rfl,hb.bx w,h1,h2,h3,fun r H' kp hb' r0 r1=>?_⟩
 obtain ⟨M',s,e,w'⟩:=Ho w hb kp hb'
 exact k _ _ _ _ _ (q r M' s r0 r1) e w' .int
noncomputable def MB:ASp:=fun xs M Q=>∃ (x:AV) (k:Int) (cs:List Int),xs=[x,.d (.int k)]/\zY x M=some (cs.map fun i=>.d (.int i))/\0<=k/\k<=1000/\cs.length<=1000/\∀ p o,M p=none->BxM (mup M p o) p 0->Q (.ref p) (mup M p o)
theorem IL (vs:List V)(H:Hp)(Q:VK)(E:XK)(h:cSp MB vs H Q E):Hh vs H Q E:=by
 obtain ⟨xs,M,O,Q',w,r,⟨x,n,cs,rfl,hx,h1,h2,h3,q⟩,k⟩:=h
 obtain ⟨v,u,rfl,rv,ru⟩:=yF r
 rw [zQ ru]
 obtain ⟨a,rfl,ha⟩:=DA w rv hx
 refine ⟨a,n,cs,rfl,ha,h1,h2,h3,fun p H' kp hp hb'=>?_⟩
 obtain ⟨x',y',z',g1,g2⟩:=hb'
 obtain ⟨e1,w1⟩:=Bq w kp
 have fr:=w.fresh hp
 have e2:=Ext.owned (O':=xW O p) (p:=p) w ⟨fun a o h e=>⟨(e1.fix a o h e).1,fun z=>z.elim (zo e hp) h⟩,fun a h e=>⟨(e1.prv a h e).1,.inr h,e⟩,fun _ h=>h⟩ hp (.lst ([x',y',z'].map fun i=>.d (.int i)))
 refine k _ _ _ _ _ (q p _ fr.2 ⟨x',y',z',zk,g2⟩) e2 (Jq (O:=xW O p) (xs:=[V.int x',V.int y',V.int z']) ⟨fun a o h=>?_,fun a h=>.inr (w1.own a h),fun a h=>?_⟩ (.inl rfl) fr.2 g1 (Ql [x',y',z'])) ⟨rfl,by rw [zk];exact fun z=>nomatch z⟩
 ·have e3:Ext H O M H' (xW O p) M:=⟨fun a o h e=>⟨(e1.fix a o h e).1,fun z=>z.elim (zo e hp) h⟩,fun a h e=>⟨(e1.prv a h e).1,.inr h,e⟩,fun _ h=>h⟩
  refine qX.ext e3 ?_ (w.mo a o h)
  obtain ⟨u,hu,_⟩:=w.al a (w.own a (qY h))
  rw [hu];exact kp a u (by simp) hu
 ·rcases h with rfl | h
  ·exact ⟨_,g1,fun xs z=>nomatch z⟩
  ·exact w1.al a h
noncomputable def Yj (K:ax):ASp:=fun xs M Q=>∃ (m:Int) (ns:List Int),xs=[.d (.scr K ns),.d (.int m)]/\0<m/\m<=60/\ns.length<=63/\∀ cs:List Int,cs.length<=1000->Q (.d (.lst (cs.map .int))) M
theorem Vr (vs:List V)(H:Hp)(Q:VK)(E:XK)(h:cSp (Yj K) vs H Q E):QW K vs H Q E:=by
 obtain ⟨xs,M,O,Q',w,r,⟨m,ns,rfl,h1,h2,h3,q⟩,k⟩:=h
 obtain ⟨v,u,rfl,rv,ru⟩:=yF r
 rw [zQ ru]
 obtain ⟨a,rfl,ha⟩:=EH rv
 refine ⟨a,m,ns,rfl,ha,h1,h2,h3,fun p H' cs kp hp hc lc=>?_⟩
 obtain ⟨e1,w1⟩:=Bq w kp
 exact k _ _ _ _ _ (q cs lc) e1 w1 (WZ (w.fresh hp).1 hc)
variable {M0:MH}
theorem Qz {N c n:Nat}{most:Int}(R:Option AV->ASt)(j:Nat){o0:Option AV}{ae:AE}{Nx:List AV->ASt->MH->Prop}(hR:∀ o x,(R o).set j (some x)=R (some x))(sb:SB M0 M b N)(hn:n<=1000)
  (turn:∀ (k:Nat) (M1:MH) (N1:Nat) (Q:AK),k<n->N1<=N+c * n->SB M0 M1 b N1->(∀ r M2,SB M0 M2 b (N1+c)->0<=r->r<most->Q (.d (.int r)) M2)->ae (R (some (.d (.int k)))) M1 Q)
  (fin:∀ (ks:List Int) o M1,ks.length=n->(∀ k ∈ ks,0<=k/\k<most)->SB M0 M1 b (N+c * n)->Nx (ks.map fun i=>.d (.int i)) (R o) M1):Wz (jw j) vS (yX ae) (fun _=>True) Nx (JO 0 1 n) [] (R o0) M:=by
 have hsl:100000<aM:=by rw [cC];decide
 refine ⟨fun i acc ρ M1=>i<=n/\SB M0 M1 b (N+c * i)/\(∃ o,ρ=R o)/\∃ ks:List Int,acc=(ks.map fun i=>.d (.int i))/\ks.length=i/\∀ k ∈ ks,0<=k/\k<most,⟨ci _,sb,⟨_,rfl⟩,[],rfl,rfl,fun _ h=>nomatch h⟩,?_,?_⟩
 ·rintro i x acc ρ M1 hx ⟨hi,s1,⟨o,rfl⟩,ks,rfl,hl,hk⟩
  obtain ⟨h1,rfl⟩:=jJ hx
  refine ⟨trivial,?_⟩
  dsimp only [jw,vS]
  rw [hR,ie,gr,if_pos rfl]
  unfold yX
  refine turn i M1 _ _ h1 (mY (Nat.mul_le_mul_left _ hi) _) s1 fun r M2 s2 r0 r1=>⟨by rw [az];omega,h1,by rw [Nat.mul_succ,<- Nat.add_assoc];exact s2,⟨_,rfl⟩,ks ++ [r],by rw [bX];rfl,by rw [bc,hl];rfl,fun k hk'=>?_⟩
  rcases cY.mp hk' with z | z
  ·exact hk k z
  ·rw [bW.mp z];exact ⟨r0,r1⟩
 ·rintro acc ρ M1 ⟨_,s1,⟨o,rfl⟩,ks,rfl,hl,hk⟩
  rw [kz] at hl s1
  exact ⟨trivial,fin ks o M1 hl hk s1⟩
noncomputable def Ac:ASp:=fun xs M Q=>∃ (b:aw) (n:Nat) (most:Int) (N:Nat),xs=[.ref b,.d (.int n),.d (.int most)]/\BxM M b N/\N<10000000/\n<=63/\0<most/\most<=100/\∀ (ks:List Int) M',BxS M M' b (N+10000)->ks.length=n->(∀ k ∈ ks,0<=k/\k<most)->Q (.d (ilD ks)) M'
noncomputable abbrev Z6:de:=top 26
theorem Q4:zr ["_law_box_here","_law_n","_law_most","_law_way","_law_some","_law_kinds_here","_law_k"] ["_law_box_here","_law_n","_law_most"] (zf Z6):=⟨rfl,rfl,rfl,by decide +kernel,rfl,by decide +kernel,by decide +kernel⟩
theorem BO (a:At K mg "_law_kinds" Z6)(B:Blt mg)(D_law_take:Df P w K mg base "_law_take" ["_law_box_here","_law_many"] 1 (cSp wr)):Df P w K mg base "_law_kinds" ["_law_box_here","_law_n","_law_most"] 2 (cSp Ac):=by
 refine dfA (k:=1) a Q4 (fun _ _ _ _ _ _=>Pn3_ fun _ _ _=>rfl) (fun xs M Q h=>?_) (fun f cdv A outer s H E hr=>?_)
 ·obtain ⟨_,_,_,_,rfl,_⟩:=h;rfl
 have sc:=Q4
 have hsl:=hsl
 refine ⟨_,(zd (zy (i:=3) sc.nd rfl (by first | exact bf rfl | exact bg rfl) (zT D_law_take hr rfl (za (pv 0) (za zc zb))))
  (zd (zy (i:=4) sc.nd rfl (by first | exact bf rfl | exact bg rfl) (qR (ts:=[6]) rfl rfl (qL rfl B.range (za zc zb)) (fun _ _ _ _=>(zu (i:=6) sc.nd rfl (by first | exact bf rfl | exact bg rfl))) (fun _ _ _ _=>qg) (fun _ _ _ _=>(zT D_law_take hr rfl (za (pv 0) (za (pv 2) zb))))))
  (zd (vt (j:=5) rfl sc.nd rfl (by first | exact bf rfl | exact bg rfl) (ts:=[6]) rfl (qL rfl B.range (za (pv 1) zb)) (fun _ _ _ _=>(zu (i:=6) sc.nd rfl (by first | exact bf rfl | exact bg rfl))) (fun _ _ _ _=>qg) (fun _ _ _ _=>(zB (jK (K:=K) rfl) (zL (za (zT D_law_take hr rfl (za (pv 0) (za (pv 2) zb))) (za (zB (jK (K:=K) rfl) (pv 4) (zT D_law_take hr rfl (za (pv 0) (za zc zb))) (fun _ _=>rfl)) zb))) (zU ky rfl B.int xT (za (jm (qC hr.units) (pv 3) zc (zH _)) zb)) (fun _ _=>rfl))))
  (zd (qj (zJ (qC hr.units) (pv 3) zc (zH _)) (zh (vt (j:=5) rfl sc.nd rfl (by first | exact bf rfl | exact bg rfl) (ts:=[6]) rfl (qL rfl B.range (za (pv 1) zb)) (fun _ _ _ _=>(zu (i:=6) sc.nd rfl (by first | exact bf rfl | exact bg rfl))) (fun _ _ _ _=>qg) (fun _ _ _ _=>(zB (jK (K:=K) rfl) (pv 4) (zU ky rfl B.int xT (za (jm (qC hr.units) (zT D_law_take hr rfl (za (pv 0) (za zc zb))) zc (zH _)) zb)) (fun _ _=>rfl))))) zO)
  (zd (qj (zJ (qC hr.units) (pv 3) zc (zH _)) (zh (zy (i:=5) sc.nd rfl (by first | exact bf rfl | exact bg rfl) (zm qx rfl B.sorted jF (za (pv 5) zb)))) zO)
  (zd (qj (zJ (qC hr.units) (pv 3) zc (zH _)) (zh (zy (i:=5) sc.nd rfl (by first | exact bf rfl | exact bg rfl) (Zl (zm qx rfl B.sorted jF (za (pv 5) zb)) (zz (Jr wn zc))))) zO)
  (zd (qj (zJ (qC hr.units) (pv 3) zc (zH _)) (zh (vt (j:=5) rfl sc.nd rfl (by first | exact bf rfl | exact bg rfl) (ts:=[6]) rfl (qL rfl B.range (za (pv 1) zb)) (fun _ _ _ _=>(zu (i:=6) sc.nd rfl (by first | exact bf rfl | exact bg rfl))) (fun _ _ _ _=>qg) (fun _ _ _ _=>(zB (jK (K:=K) rfl) (pv 4) (zp jO (pv 6) zc) (fun _ _=>rfl))))) zO)
  (zh (zK (pv 5)))))))))),?_⟩
 refine ex2 (by walk_at "sim") ?_
 rintro xs M Q ⟨b,n,most,N,rfl,bx,hN,hn,m0,m1,q⟩
 rw [show zR ["_law_box_here","_law_n","_law_most","_law_way","_law_some","_law_kinds_here","_law_k"] [.ref b,.d (.int n),.d (.int most)]=[some (.ref b),some (.d (.int n)),some (.d (.int most)),none,none,none,none] from rfl]
 have sb:=SB.refl bx
 refine ze fun r hr0=>?_
 walk_at "ra"
 refine ⟨b,6,_,rfl,sb.bx,by omega,by omega,by omega,fun way M1 s1 a1 a2=>?_⟩
 have sb:=sb.go s1
 subst hr0
 refine ze fun r hr0=>?_
 walk_at "ra"
 refine ⟨by omega,by omega,?_⟩
 refine Qz (c:=1) (most:=most) (fun o=>[some (.ref b),some (.d (.int n)),some (.d (.int most)),some (.d (.int way)),none,none,o]) 6 (fun _ _=>rfl) sb (by decide) (fun k M1 N1 Q hk hN1 s1 q=>?_) fun so o M2 ls hs sb=>?_
 ·walk_at "ra"
  exact ⟨b,most,_,rfl,s1.bx,by omega,by omega,by omega,fun r M2 s2 r0 r1=>q r M2 (s1.go s2) r0 r1⟩
 refine ⟨_,qO _,?_⟩
 subst hr0
 refine ze fun r hr0=>?_
 walk_at "ra"
 rw [bQ]
 refine ⟨by omega,by omega,?_⟩
 have sg:∀ x,0<=x->x<(3:Int)->∃ y,atI ((so.map Dat.int).map AV.d) x=some (.d (.int y))/\0<=y/\y<most:=fun x x0 x1=>by
  have hx:x.toNat<so.length:=by rw [ls];omega
  refine ⟨so[x.toNat],?_,hs _ (bh hx)⟩
  unfold atI
  rw [jL x0 (by rw [az,az,ls];omega)]
  show ((so.map Dat.int).map AV.d)[x.toNat]?=_
  rw [aD,aD,af hx];rfl
 refine Qz (c:=2) (most:=most) (fun o=>[some (.ref b),some (.d (.int n)),some (.d (.int most)),some (.d (.int way)),some (.d (.lst (so.map .int))),none,o]) 6 (fun _ _=>rfl) sb (by omega) (fun k M1 N1 Q hk hN1 s1 q=>?_) fun ks o M2 lk hk sb=>?_
 ·walk_at "ra"
  refine ⟨b,most,_,rfl,s1.bx,by omega,by omega,by omega,fun r M2 s2 r0 r1=>⟨b,3,_,rfl,(s1.go s2).bx,by omega,by omega,by omega,fun i M3 s3 i0 i1=>?_⟩⟩
  have s4:=(s1.go s2).go s3
  obtain ⟨y,hy,y0,y1⟩:=sg i i0 i1
  refine ⟨_,rfl,_,by rw [<- kB];exact hy,by omega,_,rfl,?_⟩
  by_cases c:way=1
  ·rw [if_pos c]
   exact ⟨_,rfl,q y M3 (s4.mono (by omega)) y0 y1⟩
  ·rw [if_neg c]
   exact ⟨_,rfl,q r M3 (s4.mono (by omega)) r0 r1⟩
 refine ⟨_,qO _,?_⟩
 subst hr0
 refine ze fun r hr0=>?_
 have nx:∀ (ks:List Int) (M2:MH),ks.length=n->(∀ k ∈ ks,0<=k/\k<most)->SB M M2 b (N+9000)->r M { nx:=fun x M'=>rtA M Q (AV.d Dat.non) M',rt:=rtA M Q } [some (.ref b),some (.d (.int n)),some (.d (.int most)),some (.d (.int way)),some (.d (.lst (so.map .int))),some (.d (.lst (ks.map .int))),none] M2:=by
  intro ks M2 lk hk sb
  subst hr0
  refine ze fun r hr0=>?_
  have nx:∀ (ks:List Int) (M2:MH),ks.length=n->(∀ k ∈ ks,0<=k/\k<most)->SB M M2 b (N+9000)->r M { nx:=fun x M'=>rtA M Q (AV.d Dat.non) M',rt:=rtA M Q } [some (.ref b),some (.d (.int n)),some (.d (.int most)),some (.d (.int way)),some (.d (.lst (so.map .int))),some (.d (.lst (ks.map .int))),none] M2:=by
   intro ks M2 lk hk sb
   subst hr0
   refine ze fun r hr0=>?_
   have nx:∀ (ks:List Int) (M2:MH),ks.length=n->(∀ k ∈ ks,0<=k/\k<most)->SB M M2 b (N+9000)->r M { nx:=fun x M'=>rtA M Q (AV.d Dat.non) M',rt:=rtA M Q } [some (.ref b),some (.d (.int n)),some (.d (.int most)),some (.d (.int way)),some (.d (.lst (so.map .int))),some (.d (.lst (ks.map .int))),none] M2:=by
    intro ks M2 lk hk sb
    subst hr0
    refine ze fun r hr0=>?_
    have nx:∀ (ks:List Int) (M2:MH),ks.length=n->(∀ k ∈ ks,0<=k/\k<most)->SB M M2 b (N+9000)->r M { nx:=fun x M'=>rtA M Q (AV.d Dat.non) M',rt:=rtA M Q } [some (.ref b),some (.d (.int n)),some (.d (.int most)),some (.d (.int way)),some (.d (.lst (so.map .int))),some (.d (.lst (ks.map .int))),none] M2:=by
     intro ks M2 lk hk sb
     subst hr0
     walk_at "ra"
     exact (sb.mono (N':=N+10000) (by omega)).rt fun M' s=>q ks M' s lk hk
    walk_at "ra"
    split
    ·rw [bQ]
     refine ⟨by omega,by omega,?_⟩
     refine Qz (c:=0) (most:=most) (fun o=>[some (.ref b),some (.d (.int n)),some (.d (.int most)),some (.d (.int way)),some (.d (.lst (so.map .int))),some (.d (.lst (ks.map .int))),o]) 6 (fun _ _=>rfl) sb (by omega) (fun k M1 N1 Q hk hN1 s1 q=>?_) fun ks o M2 lk hk sb=>⟨_,qO _,nx ks M2 lk hk (sb.mono (by omega))⟩
     walk_at "ra"
     obtain ⟨y,hy,y0,y1⟩:=sg ((k:Int) % 3) (by omega) (by omega)
     exact ⟨by decide,_,by rw [<- kB];exact hy,q y M1 s1 y0 y1⟩
    ·exact nx ks M2 lk hk sb
   walk_at "ra"
   split
   ·refine ⟨ks,rfl,by omega,fun ns hp _=>.inl ?_⟩
    rw [<- gO]
    exact nx _ M2 (by rw [bn,hp.length_eq,lk]) (fun k h=>hk k (hp.mem_iff.mp (oB.mp h))) sb
   ·exact nx ks M2 lk hk sb
  walk_at "ra"
  split
  ·exact ⟨ks,rfl,by omega,fun ns hp _=>nx _ M2 (by rw [hp.length_eq,lk]) (fun k h=>hk k (hp.mem_iff.mp h)) sb⟩
  ·exact nx ks M2 lk hk sb
 walk_at "ra"
 rw [bQ]
 split
 ·refine ⟨by omega,by omega,?_⟩
  refine Qz (c:=1) (most:=most) (fun o=>[some (.ref b),some (.d (.int n)),some (.d (.int most)),some (.d (.int way)),some (.d (.lst (so.map .int))),some (.d (.lst (ks.map .int))),o]) 6 (fun _ _=>rfl) sb (by omega) (fun k M1 N1 Q hk hN1 s1 q=>?_) fun ks o M2 lk hk sb=>?_
  ·walk_at "ra"
   refine ⟨b,8,_,rfl,s1.bx,by omega,by omega,by omega,fun r M2 s2 r0 r1=>?_⟩
   show ∃ a,_
   refine ⟨_,rfl,by rw [kE];omega,?_⟩
   obtain ⟨y,hy,y0,y1⟩:=sg (if eqD (.int r) (.int 0)=true then 1 else 0) (by split <;> omega) (by split <;> omega)
   exact ⟨_,by rw [<- kB];exact hy,q y M2 (s1.go s2) y0 y1⟩
  ·exact ⟨_,qO _,nx ks M2 lk hk (sb.mono (by omega))⟩
 ·exact nx ks M2 lk hk (sb.mono (by omega))
def OkX (x:Dat):Prop:=dp x<=40/\∀ l,x=.tup l->l.length<=1000
def OkP (x:Dat):Prop:=dp x<=41/\∀ l,(x=.tup l \/ x=.lst l)->l.length<=1000/\∀ d ∈ l,OkX d
structure OkS (x:Dat):Prop where
 d:dp x<=5
 s:Sh 500 x
 p:OkP x
theorem Kq {x:Dat}(hd:dp x<=5)(h:∀ l,(x=.tup l \/ x=.lst l)->l.length<=1000/\∀ d ∈ l,∀ l',d=.tup l'->l'.length<=1000):OkP x:=by
 refine ⟨by omega,fun l hl=>⟨(h l hl).1,fun d hd'=>⟨?_,(h l hl).2 d hd'⟩⟩⟩
 have:dps l<=4:=by rcases hl with rfl | rfl <;> (rw [dp] at hd;omega)
 exact aZ (kG this d hd') (by decide)
noncomputable def dD:De->Dat
 | .swap a b=>.tup [.str (ap "swap"),.int (a:Int),.int (b:Int)]
 | .take p=>.tup [.str (ap "take"),.int (p:Int)]
 | .move p g=>.tup [.str (ap "move"),.int (p:Int),.int (g:Int)]
 | .lay g=>.tup [.str (ap "lay"),.int (g:Int)]
variable {c:Option Int}
theorem xA {a:Nat} (h:row[a]?=some c):a<row.length/\row.getD a none=c:=⟨(aF.mp h).1,by rw [aq,h];rfl⟩
theorem Zj {n a:Nat}(h:a<n):zC (.int (a:Int)) n=true:=decide_eq_true ⟨by omega,by omega⟩
noncomputable def ya (ms:List Int):Option Int->List Int
 | none=>ms
 | some x=>j5 ms x
noncomputable def Z3 (s:ES):De->List (Option Int)
 | .swap a b=>[s.1.getD a none,s.1.getD b none]
 | .take p=>[s.1.getD p none]
 | .move p g=>[s.1.getD p none,s.1.getD g none]
 | .lay _=>[s.2]
theorem Dq {d:De}{s t:ES}(h:DoE d s t)(ms:List Int):doR s ms (dD d)=.ok (t,(Z3 s d).foldl ya ms):=by
 cases h with
 | @swap a b row hd x y ne h1 h2=>
  obtain ⟨l1,g1⟩:=xA h1
  obtain ⟨l2,g2⟩:=xA h2
  have hf:qF (dD (.swap a b)) row.length=true:=by
   show (kg (ap "swap") == some 2 && [Dat.int (a:Int),Dat.int (b:Int)].all (zC · row.length))=true
   simp only [eG,mf,Zj l1,Zj l2];rfl
  show _=oC (_,[row.getD a none,row.getD b none].foldl ya ms)
  unfold doR
  rw [if_pos hf]
  show kW (row,hd) ms a b=_
  unfold kW
  rw [if_neg ne]
  dsimp only
  rw [g1,g2];rfl
 | @take p row x h1=>
  obtain ⟨l1,g1⟩:=xA h1
  have hf:qF (dD (.take p)) row.length=true:=by
   show (kg (ap "take") == some 1 && [Dat.int (p:Int)].all (zC · row.length))=true
   simp only [eG,mf,Zj l1];rfl
  show _=oC (_,[row.getD p none].foldl ya ms)
  unfold doR
  rw [if_pos hf]
  show xj (row,none) ms p=_
  unfold xj
  dsimp only
  rw [g1];rfl
 | @move p g row hd x h1 h2=>
  obtain ⟨l1,g1⟩:=xA h1
  obtain ⟨l2,g2⟩:=xA h2
  have ne:p ≠ g:=fun z=>by rw [z,h2] at h1;cases h1
  have hf:qF (dD (.move p g)) row.length=true:=by
   show (kg (ap "move") == some 2 && [Dat.int (p:Int),Dat.int (g:Int)].all (zC · row.length))=true
   simp only [eG,mf,Zj l1,Zj l2];rfl
  show _=oC (_,[row.getD p none,row.getD g none].foldl ya ms)
  unfold doR
  rw [if_pos hf]
  show kO (row,hd) ms p g=_
  unfold kO
  rw [if_neg ne]
  dsimp only
  rw [g2];dsimp only;rw [g1];rfl
 | @lay g row x h1=>
  obtain ⟨l1,g1⟩:=xA h1
  have hf:qF (dD (.lay g)) row.length=true:=by
   show (kg (ap "lay") == some 1 && [Dat.int (g:Int)].all (zC · row.length))=true
   simp only [eG,mf,Zj l1];rfl
  show _=oC (_,[some x].foldl ya ms)
  unfold doR
  rw [if_pos hf]
  show vw (row,some x) ms g=_
  unfold vw
  dsimp only
  rw [g1];rfl
theorem xE {a:Nat} (h:a<row.length)(g:row.getD a none=c):row[a]?=some c:=by
 rw [aq,af h] at g
 rw [af h]
 exact congrArg some g
theorem XJ {s:ES}{ms:List Int}{x:Dat}{t:RS}(h:doR s ms x=.ok t):∃ d,x=dD d/\DoE d s t.1:=by
 obtain ⟨row,hd⟩:=s
 unfold doR at h
 by_cases hf:qF x row.length=true
 case neg=>rw [if_neg hf] at h;cases h
 rw [if_pos hf] at h
 obtain ⟨w,ps,rfl,hpl,hps⟩:=Zx hf
 dsimp only at h
 by_cases w1:w=ap "swap"
 ·rw [if_pos w1] at h
  obtain ⟨a,b,rfl,ha,hb⟩:=ZI hpl hps (.inl w1)
  have h:kW (row,hd) ms a b=.ok t:=h
  unfold kW at h
  by_cases hab:a=b
  ·rw [if_pos hab] at h;cases h
  rw [if_neg hab] at h
  dsimp only at h
  cases hx:row.getD a none with
  | none=>rw [hx] at h;cases h
  | some x=>
   cases hy:row.getD b none with
   | none=>rw [hx,hy] at h;cases h
   | some y=>
    rw [hx,hy] at h
    cases h
    exact ⟨.swap a b,by rw [w1];rfl,.swap hab (xE ha hx) (xE hb hy)⟩
 rw [if_neg w1] at h
 by_cases w2:w=ap "take"
 ·rw [if_pos w2] at h
  obtain ⟨a,rfl,ha⟩:=ZG hpl hps w1 (by rw [w2];decide +kernel)
  have h:xj (row,hd) ms a=.ok t:=h
  unfold xj at h
  dsimp only at h
  cases hd with
  | some y=>cases h
  | none=>
   dsimp only at h
   cases hx:row.getD a none with
   | none=>rw [hx] at h;cases h
   | some x=>
    rw [hx] at h
    cases h
    exact ⟨.take a,by rw [w2];rfl,.take (xE ha hx)⟩
 rw [if_neg w2] at h
 by_cases w3:w=ap "move"
 ·rw [if_pos w3] at h
  obtain ⟨a,b,rfl,ha,hb⟩:=ZI hpl hps (.inr w3)
  have h:kO (row,hd) ms a b=.ok t:=h
  unfold kO at h
  by_cases hab:a=b
  ·rw [if_pos hab] at h;cases h
  rw [if_neg hab] at h
  dsimp only at h
  cases hy:row.getD b none with
  | some y=>rw [hy] at h;cases h
  | none=>
   rw [hy] at h
   dsimp only at h
   cases hx:row.getD a none with
   | none=>rw [hx] at h;cases h
   | some x=>
    rw [hx] at h
    cases h
    exact ⟨.move a b,by rw [w3];rfl,.move (xE ha hx) (xE hb hy)⟩
 rw [if_neg w3] at h
 obtain ⟨b,rfl,hb⟩:=ZG hpl hps w1 w3
 have w4:w=ap "lay":=by
  unfold kg at hpl
  rw [if_neg w1,if_neg w2,if_neg w3] at hpl
  by_cases c:w=ap "lay"
  ·exact c
  ·rw [if_neg c] at hpl;cases hpl
 have h:vw (row,hd) ms b=.ok t:=h
 unfold vw at h
 dsimp only at h
 cases hy:row.getD b none with
 | some y=>rw [hy] at h;cases h
 | none=>
  rw [hy] at h
  dsimp only at h
  cases hd with
  | none=>cases h
  | some x=>
   cases h
   exact ⟨.lay b,by rw [w4];rfl,.lay (xE hb hy)⟩
theorem VF (ms:List Int)(c:Option Int):(ya ms c).length=ms.length:=by cases c;rfl;exact JI _ _
theorem Vn (cs:List (Option Int)):∀ ms,(cs.foldl ya ms).length=ms.length:=by
 induction cs with
 | nil=>exact fun _=>rfl
 | cons c cs ih=>intro ms;rw [List.foldl_cons,ih,VF]
theorem at0 (x:AV)(l:List AV):atI (x :: l) 0=some x:=by
 unfold atI
 rw [jL (by omega) (by rw [aN];omega)]
 rfl
noncomputable def dW:De->Str
 | .swap _ _=>ap "swap"
 | .take _=>ap "take"
 | .move _ _=>ap "move"
 | .lay _=>ap "lay"
noncomputable def dPs:De->List Nat
 | .swap a b=>[a,b]
 | .take a=>[a]
 | .move a b=>[a,b]
 | .lay a=>[a]
theorem Ag (d:De):dD d=.tup (.str (dW d) :: (dPs d).map fun k:Nat=>Dat.int k):=by cases d <;> rfl
theorem DoE.okM {d:De}{s t:ES}{n:Nat}(h:DoE d s t)(o:OkM s n):OkM t n:=by
 have g:∀ {row:List (Option Int)} {a:Nat} {c:Option Int},row[a]?=some c->c ∈ row:=fun h=>bJ h
 cases h with
 | swap ne h1 h2=>
  refine ⟨fun x hx=>?_,o.2⟩
  rcases cf hx with hx | hx
  ·rcases cf hx with hx | hx
   ·exact o.1 x hx
   ·exact o.1 x (hx ▸ g h2)
  ·exact o.1 x (hx ▸ g h1)
 | take h1=>
  refine ⟨fun x hx=>?_,fun x hx=>?_⟩
  ·rcases cf hx with hx | hx
   ·exact o.1 x hx
   ·cases hx
  ·cases hx;exact o.1 _ (g h1)
 | move h1 h2=>
  refine ⟨fun x hx=>?_,o.2⟩
  rcases cf hx with hx | hx
  ·rcases cf hx with hx | hx
   ·exact o.1 x hx
   ·cases hx
  ·exact o.1 x (hx ▸ g h1)
 | lay h1=>
  refine ⟨fun x hx=>?_,fun x hx=>nomatch hx⟩
  rcases cf hx with hx | hx
  ·exact o.1 x hx
  ·exact o.2 x hx.symm
theorem FV (n:Nat):OkM ((jj 0 1 n).map some,none) n:=by
 refine ⟨fun x hx=>?_,fun x hx=>nomatch hx⟩
 obtain ⟨y,hy,e⟩:=bZ.mp hx
 injection e with e
 subst e
 unfold jj at hy
 obtain ⟨k,hk,e⟩:=bZ.mp hy
 rw [cv] at hk
 omega
noncomputable def fnP (vs:List V):List (Str × V):=[("place",vs.getD 0 .non),("word",vs.getD 1 .non)]
noncomputable abbrev plw (i:Nat)(x:String):List (Str × V):=[("place",.int i),("word",.str (ap x))]
noncomputable abbrev yj:de:=(jn (top 4) 0)
theorem xD:zr ["self","place","word"] ["self","place","word"] (zf yj):=⟨rfl,rfl,rfl,by decide +kernel,rfl,by decide +kernel,by decide +kernel⟩
theorem XT {C a t0:aw}{us:List V}{H:Hp}{Q:VK}(S1:yb K C "place")(S2:yb K C "word")(hl:us.length=2)(ha:H a=some (kh a C t0 none))(hq:∀ dx,H dx=none->dx ≠ a->Q .non (upd (upd H a (kh a C t0 (some dx))) dx (XdE dx (fnP us)))) :
  BV (QZ K (qT 0) (qT 1) "place") (QZ K (qT 0) (qT 2) "word") { nx:=fun _ H'=>Q .non H',rt:=Q } (start ["self","place","word"] (.ref a :: us)) H:=by
 match us,hl with
 | [v,u],_=>
  show QZ _ _ _ _ _ _ _
  refine ⟨v,rfl,.ref a,rfl,a,C,t0,rfl,S1,.inl ⟨ha,fun dx hd hne=>?_⟩⟩
  refine ⟨u,rfl,.ref a,rfl,a,C,t0,rfl,S2,.inr ⟨dx,[("place",v)],by rw [zg (Ne.symm hne),zj],zj,Nat.le_of_ble_eq_true rfl,?_⟩⟩
  rw [xy]
  have e:jx (ap "word") u [(ap "place",v)]=fnP [v,u]:=by
   unfold jx;rw [if_neg (by decide +kernel)];rfl
  show Q .non (upd _ dx (XdE dx (jx (ap "word") u [(ap "place",v)])))
  rw [e]
  exact hq dx hd hne
variable {f:aw} {fd:dE}
theorem Ld (F:Fun K "__init__" "BadPlan.__init__" yj f fd)(q:jM K C vC "ValueError.__new__" f=true)(hf:dF K (.ref f)=true)(S1:yb K C "place")(S2:yb K C "word"):MkX P w K mg base C 1 2 fnP:=by
 refine DR (k:=0) F xD (fun _ _ _ _ _ _=>Pn3_ fun _ _ _=>rfl) q hf rfl (fun cdv A outer s H E=>?_)
 have sc:=xD
 refine ⟨_,(zd (yo (pv 0) (pv 1) rfl) (zh (yo (pv 0) (pv 2) rfl))),?_⟩
 intro a t0 us Q hl ha hq
 exact XT S1 S2 hl ha hq
theorem FU (F:Fun K "__init__" "BadPlan.__init__" yj f fd)(q:jM K C vC "ValueError.__new__" f=true)(hf:dF K (.ref f)=true)(S1:yb K C "place")(S2:yb K C "word"):QK P w K mg base C 1 2 fnP:=by
 refine Gi F xD (fun _ _ _ _ _ _=>Pn3_ fun _ _ _=>rfl) q hf rfl (fun cdv A outer s H E x=>?_)
 have sc:=xD
 refine ⟨_,(zd (yo (pv 0) (pv 1) rfl) (zh (yo (pv 0) (pv 2) rfl))),?_⟩
 intro a t0 us Q hl ha hq
 exact XT S1 S2 hl ha hq
noncomputable def kN:Nat->RS->List Dat->Except (Nat × String) RS
 | _,t,[]=>.ok t
 | i,t,x :: l=>match doR t.1 t.2 x with
  | .error w=>.error (i,w)
  | .ok t'=>kN (i+1) t' l
noncomputable def vW (n:Nat):RS:=(((jj 0 1 n).map some,none),aS n 0)
noncomputable def vK (n:Nat)(x:Dat):Except (Nat × String) RS:=match x with
 | .lst l=>kN 0 (vW n) l
 | .tup l=>kN 0 (vW n) l
 | _=>.error (0,"form")
structure XB (K:ax)(cB:aw):Prop where
 x:Iq K cB
 i:d9 K (.ref cB) (.ref cB)=some true
 hd:dL K cB=true
 fw:bo K (.ref cB) "word"=some none
theorem wo (n1:rw_ ≠ mv)(n2:rw_ ≠ p)(n3:mv ≠ p):qo C (rmP C M p rw_ mv s ms) p rw_ mv s ms:=by
 unfold rmP
 exact ⟨by rw [zn (Ne.symm n3),zn (Ne.symm n2),zk],by rw [zn n1,zk],zk,n1⟩
theorem Ep (s' s2:ES)(ms' ms2:List Int):rmP C (rmP C M p rw_ mv s' ms') p rw_ mv s2 ms2=rmP C M p rw_ mv s2 ms2:=by
 funext b
 unfold rmP mup
 by_cases c1:b=mv <;> by_cases c2:b=rw_ <;> by_cases c3:b=p <;> simp [c1,c2,c3]
theorem Y3 (t:qo C (rmP C M p rw_ mv s ms) p rw_ mv s ms):y4 M (rmP C M p rw_ mv s ms) (.ref p) (.ref p) (rmP C M p rw_ mv s ms):=by
 have f:=Jd t .non
 exact ⟨f.1,f.2,.inl ⟨rfl,fun q z=>by cases z;rw [t.ins];exact fun z=>nomatch z⟩⟩
noncomputable def GJ (C cP:aw):yq:=fun xs M Q E=>∃ (n:Nat) (x:Dat),xs=[.d (.int n),.d x]/\n<=1000/\OkP x /\
 (∀ i w,vK n x=.error (i,w)->E cP (plw i w) M)/\(∀ t,vK n x=.ok t->∀ p rw_ mv,M p=none->M rw_=none->M mv=none->rw_ ≠ mv->rw_ ≠ p->mv ≠ p->Q (.ref p) (rmP C M p rw_ mv t.1 t.2))
noncomputable abbrev JT:de:=top 12
theorem Yx:zr ["n","plan","room","at","deed","refusal"] ["n","plan"] (zf JT):=⟨rfl,rfl,rfl,by decide +kernel,rfl,by decide +kernel,by decide +kernel⟩
theorem Gh {C cBadDeed cBadPlan:aw}(a:At K mg "room_behind" JT)(B:Blt mg)(CL:Cls K C)(XG_BadDeed:mg "BadDeed"=some (.ref cBadDeed))(XG_BadPlan:mg "BadPlan"=some (.ref cBadPlan))(MX_BadPlan:MkX P w K mg base cBadPlan 5 2 fnP)(MXH_BadPlan:QK P w K mg base cBadPlan 5 2 fnP)(X2:XB K cBadDeed)
  (M_Room:Mkr P w K mg base "Room" C ["self","n"] 5 (cSp (WA C))) (DM_do:DmX P w K mg base C "do" ["self","thing"] 6 (jU (aDo C cBadDeed))):DfX P w K mg base "room_behind" ["n","plan"] 7 (jU (GJ C cBadPlan)):=by
 refine Nb (k:=6) a Yx (fun _ _ _ _ _ _=>Pn2_ fun _ _=>rfl) (fun xs M Q E h=>?_) (fun f cdv A outer s H HX OX MX E1 hr hD=>?_)
 ·obtain ⟨_,_,rfl,_⟩:=h;rfl
 have sc:=Yx
 have hsl:=hsl
 refine ⟨_,(zd (qj (jy (jh (zm yC rfl B.isinstance zN (za (pv 1) (za (zA (za (qt (v:=.ty "list") rfl B.list jV rfl) (za (qt (v:=.ty "tuple") rfl B.tuple qJ rfl) zb))) zb))) (fun _=>rfl))) (zh (qw hD rfl MX_BadPlan hr rfl XG_BadPlan (za zc (za zI zb)))) zO)
  (zd (zy (i:=2) sc.nd rfl (by first | exact bf rfl | exact bg rfl) (MT M_Room hr rfl (za (pv 0) zb)))
  (zd (ka hD.po rfl (wQ rfl B.enumerate (za (pv 1) zb)) (jo (K:=K) 2 rfl rfl (zG (zu (i:=3) sc.nd rfl (by first | exact bf rfl | exact bg rfl)) (zG (zu (i:=4) sc.nd rfl (by first | exact bf rfl | exact bg rfl)) qS))) (zh (AY (K:=K) (i:=5) rfl hD sc.nd rfl rfl rfl XG_BadDeed MXH_BadPlan hr rfl XG_BadPlan (fun _=>aJ 2) (fun pins xe Eh hP=>(zh (jW (xP CL DM_do hr hP (pv 2) (za (pv 4) zb))))) (fun x=>(za (pv 3) (za (Vm (K:=K) rfl (pv 5) rfl) zb))))))
  (zh (zK (pv 2)))))),?_⟩
 refine exX (by walk_at "sim") ?_
 rintro xs Q E0 rfl ⟨n,x,rfl,hn,ok,qe,q⟩
 rw [show zR ["n","plan","room","at","deed","refusal"] [.d (.int n),.d x]=[some (.d (.int n)),some (.d x),none,none,none,none] from rfl]
 refine ze fun r1 hr1=>?_
 have hs2:0+1+1<=aM:=by omega
 have bad:vK n x=.error (0,"form")->∃ vs,[some (V.int 0),some (V.str (ap "form"))]=bp some vs/\vs.length=2/\2<=1000/\exA MX E0 cBadPlan (fnP vs) MX:=fun h=>
  ⟨[.int 0,.str (ap "form")],rfl,rfl,by decide,_,qP Fr.refl .non,qe 0 "form" h⟩
 have main:∀ l,(x=.tup l \/ x=.lst l)->vK n x=kN 0 (vW n) l->r1 MX { nx:=fun x M'=>rtA MX Q (.d .non) M',rt:=rtA MX Q } [some (.d (.int n)),some (.d x),none,none,none,none] MX:=fun l hx hw=>by
  obtain ⟨ll,lo⟩:=ok.2 l hx
  have hsq:∀ M,qz (.d x) M=some (l.map AV.d):=fun M=>by rcases hx with rfl | rfl <;> rfl
  rw [hw] at qe q
  subst hr1
  refine ze fun r1 hr1=>?_
  walk_at "ra"
  intro p hp
  refine ⟨p,n,rfl,zk,hn,fun rw_ mv hrw hmv n1 n2 n3=>⟨rfl,?_⟩⟩
  rw [zn n2] at hrw
  rw [zn n3] at hmv
  have em:∀ t ms,rmP C (mup MX p (.ins C [])) p rw_ mv t ms=rmP C MX p rw_ mv t ms:=fun t ms=>by unfold rmP;rw [ZU]
  rw [em]
  subst hr1
  refine ze fun r1 hr1=>?_
  walk_at "ra"
  refine ⟨_,hsq _,_,zS _,?_⟩
  have fr:∀ t ms,Fr MX (rmP C MX p rw_ mv t ms):=fun t ms=>((Fr.refl.mup hp _).mup hrw _).mup hmv _
  refine ⟨fun i ρ M'=>∃ (t:RS),M'=rmP C MX p rw_ mv t.1 t.2/\kN i t (l.drop i)=kN 0 (vW n) l/\OkM t.1 t.2.length/\t.1.1.length=n/\t.2.length=n/\∃ u v,ρ=[some (.d (.int n)),some (.d x),some (.ref p),u,v,none],⟨vW n,rfl,rfl,by show OkM _ (aS n (0:Int)).length;rw [ef];exact FV n,by show ((jj 0 1 n).map some).length=n;rw [az,jX],ef,_,_,rfl⟩,?_,?_⟩
  ·rintro i y ρ M' hy ⟨t,rfl,ht,okt,l1,l2,u,v,rfl⟩
   refine ⟨hsq _,?_⟩
   obtain ⟨d,hd,rfl⟩:=xC hy
   have r:=wo (C:=C) (M:=MX) (s:=t.1) (ms:=t.2) n1 n2 n3
   have hi:=(aF.mp hd).1
   have dm:=lo d (bJ hd)
   rw [ez hi,show l[i]=d from (aF.mp hd).2] at ht
   walk_at "ra"
   refine ⟨_,r.ins,rfl,p,rw_,mv,t.1,t.2,d,rfl,r,okt,dm.1,dm.2,fun wd hw=>?_,fun t' ht'=>?_⟩
   ·refine ⟨X2.i,.str (ap wd),rfl,X2.x,X2.hd,X2.fw,by decide,by decide,MX,qP (fr _ _) .non,?_⟩
    refine qe i wd ?_
    rw [<- ht]
    unfold kN
    rw [hw]
   ·obtain ⟨dd,rfl,hdo⟩:=XJ ht'
    have e2:=Dq hdo t.2
    rw [ht'] at e2
    have e2:t'.2=(Z3 t.1 dd).foldl ya t.2:=by injection e2 with e2;rw [e2]
    have lm:t'.2.length=t.2.length:=by rw [e2,Vn]
    refine ⟨t',by rw [Ep],?_,by rw [lm];exact hdo.okM okt,by rw [hdo.len];exact l1,by rw [lm];exact l2,_,rfl⟩
    rw [<- ht]
    conv=>rhs;unfold kN
    rw [ht']
  ·rintro ρ M' ⟨t,rfl,ht,okt,l1,l2,u,v,rfl⟩
   refine ⟨hsq _,?_⟩
   subst hr1
   walk_at "ra"
   rw [lY (by rw [ku];exact aJ _)] at ht
   exact ⟨_,_,Y3 (wo n1 n2 n3),q t (by rw [<- ht];rfl) p rw_ mv hp hrw hmv n1 n2 n3⟩
 cases x with
 | tup l=>walk_at "ra";exact ⟨hs2,main l (.inl rfl) rfl⟩
 | lst l=>walk_at "ra";exact ⟨hs2,main l (.inr rfl) rfl⟩
 | non=>walk_at "ra";exact ⟨hs2,bad rfl⟩
 | bl b=>walk_at "ra";exact ⟨hs2,bad rfl⟩
 | str b=>walk_at "ra";exact ⟨hs2,bad rfl⟩
 | int b=>walk_at "ra";exact ⟨hs2,bad rfl⟩
 | ty _=>have:=ok.1;rw [dp] at this;omega
 | rng _ _ _=>have:=ok.1;rw [dp] at this;omega
 | scr _ _=>have:=ok.1;rw [dp] at this;omega
structure qU (ds row:List Int)(C:Int->Int->List Nat):Prop where
 at_:∀ i j p,i ≠ j->p ∈ C i j->p<row.length/\ds.getD p 0=i/\row.getD p 0=j
 nd:∀ i j,i ≠ j->(C i j).Nodup
 all:∀ p,p<row.length->row.getD p 0 ≠ ds.getD p 0->p ∈ C (ds.getD p 0) (row.getD p 0)
noncomputable def qA (C:Int->Int->List Nat)(i j:Int)(l:List Nat):Int->Int->List Nat:=fun x y=>if x=i/\y=j then l else C x y
variable {l:List Nat}
theorem jc {C:Int->Int->List Nat}:qA C i j l i j=l:=if_pos ⟨rfl,rfl⟩
theorem qh {C:Int->Int->List Nat}{i j x y:Int} (h:¬ (x=i/\y=j)):qA C i j l x y=C x y:=if_neg h
variable {v:Int}
theorem xB {row:List Int}{a p:Nat} (h:a<row.length):(row.set a v).getD p 0=if p=a then v else row.getD p 0:=by
 rw [aq,eD,aq]
 by_cases c:a=p
 ·rw [if_pos c,if_pos (c ▸ h),if_pos c.symm];rfl
 ·rw [if_neg c,if_neg (Ne.symm c)]
variable {r1 r2:List Nat}
theorem qU.two {ds row:List Int}{C:Int->Int->List Nat} {a b:Nat} (h:qU ds row C)(ne:i ≠ j)(h1:C i j=a :: r1)(h2:C j i=b :: r2) :
  a ≠ b/\a<row.length/\b<row.length/\row.getD a 0=j/\row.getD b 0=i/\qU ds ((row.set a i).set b j) (qA (qA C i j r1) j i r2):=by
 obtain ⟨a1,a2,a3⟩:=h.at_ i j a ne (by rw [h1];exact .head _)
 obtain ⟨b1,b2,b3⟩:=h.at_ j i b (Ne.symm ne) (by rw [h2];exact .head _)
 have nab:a ≠ b:=fun z=>ne (by rw [<- a2,z,b2])
 have gt:∀ p,((row.set a i).set b j).getD p 0=if p=b then j else if p=a then i else row.getD p 0:=fun p=>by
  rw [xB (by rw [aV];exact b1),xB a1]
 have n1:=h.nd i j ne
 have n2:=h.nd j i (Ne.symm ne)
 rw [h1] at n1
 rw [h2] at n2
 have ta:=(dA.mp n1)
 have tb:=(dA.mp n2)
 have cell:∀ x y,qA (qA C i j r1) j i r2 x y=if x=j/\y=i then r2 else if x=i/\y=j then r1 else C x y:=fun x y=>rfl
 refine ⟨nab,a1,b1,a3,b3,⟨fun x y p hxy hp=>?_,fun x y hxy=>?_,fun p hp hne=>?_⟩⟩
 ·rw [cell] at hp
  rw [aV,aV,gt]
  have old:p ∈ C x y/\p ≠ a/\p ≠ b:=by
   by_cases c1:x=j/\y=i
   ·rw [if_pos c1] at hp
    obtain ⟨rfl,rfl⟩:=c1
    refine ⟨by rw [h2];exact .tail _ hp,fun z=>?_,fun z=>tb.1 (z ▸ hp)⟩
    have:=(h.at_ x y p hxy (by rw [h2];exact .tail _ hp)).2.1
    rw [z,a2] at this;exact ne this
   ·rw [if_neg c1] at hp
    by_cases c2:x=i/\y=j
    ·rw [if_pos c2] at hp
     obtain ⟨rfl,rfl⟩:=c2
     refine ⟨by rw [h1];exact .tail _ hp,fun z=>ta.1 (z ▸ hp),fun z=>?_⟩
     have:=(h.at_ x y p hxy (by rw [h1];exact .tail _ hp)).2.1
     rw [z,b2] at this;exact ne this.symm
    ·rw [if_neg c2] at hp
     have hh:=(h.at_ x y p hxy hp).2
     refine ⟨hp,fun z=>c2 ?_,fun z=>c1 ?_⟩
     ·rw [z,a2,a3] at hh;exact ⟨hh.1.symm,hh.2.symm⟩
     ·rw [z,b2,b3] at hh;exact ⟨hh.1.symm,hh.2.symm⟩
  rw [if_neg old.2.2,if_neg old.2.1]
  exact h.at_ x y p hxy old.1
 ·rw [cell]
  by_cases c1:x=j/\y=i
  ·rw [if_pos c1];exact tb.2
  ·rw [if_neg c1]
   by_cases c2:x=i/\y=j
   ·rw [if_pos c2];exact ta.2
   ·rw [if_neg c2];exact h.nd x y hxy
 ·rw [aV,aV] at hp
  rw [gt] at hne ⊢
  by_cases pb:p=b
  ·rw [if_pos pb,pb,b2] at hne;exact absurd rfl hne
  ·rw [if_neg pb] at hne ⊢
   by_cases pa:p=a
   ·rw [if_pos pa,pa,a2] at hne;exact absurd rfl hne
   ·rw [if_neg pa] at hne ⊢
    have old:=h.all p hp hne
    rw [cell]
    by_cases c1:ds.getD p 0=j/\row.getD p 0=i
    ·rw [if_pos c1]
     rw [c1.1,c1.2,h2] at old
     exact (aE.mp old).resolve_left pb
    ·rw [if_neg c1]
     by_cases c2:ds.getD p 0=i/\row.getD p 0=j
     ·rw [if_pos c2]
      rw [c2.1,c2.2,h1] at old
      exact (aE.mp old).resolve_left pa
     ·rw [if_neg c2];exact old
theorem qU.done {ds row:List Int}{C:Int->Int->List Nat}(h:qU ds row C)(hl:row.length=ds.length)(e:∀ p,p<row.length->row.getD p 0 ≠ ds.getD p 0->C (ds.getD p 0) (row.getD p 0)=[]):row=ds:=by
  refine dM fun p=>?_
  by_cases hp:p<row.length
  · have : row.getD p 0 = ds.getD p 0 := Classical.byContradiction fun z => by
      have:=h.all p hp z
      rw [e p hp z] at this;cases this
    rw [aq,aq,af hp,af (by omega)] at this
    rw [af hp,af (by omega)]
    exact congrArg some this
  · rw [bA (by omega),bA (by omega)]
theorem qU.pass {ds row:List Int}{C:Int->Int->List Nat}{f s t:Int}{a b:Nat} (h:qU ds row C)(n1:f ≠ s)(n2:s ≠ t)(n3:f ≠ t)(h1:C f s=a :: r1)(h2:C s t=b :: r2) :
  a ≠ b/\a<row.length/\b<row.length/\row.getD a 0=s/\row.getD b 0=t/\qU ds ((row.set a t).set b s) (qA (qA (qA C f s r1) s t r2) f t (a :: C f t)):=by
 obtain ⟨a1,a2,a3⟩:=h.at_ f s a n1 (by rw [h1];exact .head _)
 obtain ⟨b1,b2,b3⟩:=h.at_ s t b n2 (by rw [h2];exact .head _)
 have nab:a ≠ b:=fun z=>n1 (by rw [<- a2,z,b2])
 have gt:∀ p,((row.set a t).set b s).getD p 0=if p=b then s else if p=a then t else row.getD p 0:=fun p=>by
  rw [xB (by rw [aV];exact b1),xB a1]
 have m1:=h.nd f s n1
 have m2:=h.nd s t n2
 rw [h1] at m1
 rw [h2] at m2
 have ta:=(dA.mp m1)
 have tb:=(dA.mp m2)
 have naf:a ∉ C f t:=fun z=>n2 ((a3.symm.trans (h.at_ f t a n3 z).2.2))
 have cell:∀ x y,qA (qA (qA C f s r1) s t r2) f t (a :: C f t) x y=if x=f/\y=t then a :: C f t else if x=s/\y=t then r2 else if x=f/\y=s then r1 else C x y:=fun x y=>rfl
 refine ⟨nab,a1,b1,a3,b3,⟨fun x y p hxy hp=>?_,fun x y hxy=>?_,fun p hp hne=>?_⟩⟩
 ·rw [cell] at hp
  rw [aV,aV,gt]
  by_cases c0:x=f/\y=t
  ·rw [if_pos c0] at hp
   obtain ⟨rfl,rfl⟩:=c0
   rcases aE.mp hp with rfl | hp
   ·rw [if_neg nab,if_pos rfl];exact ⟨a1,a2,rfl⟩
   ·have hh:=h.at_ x y p hxy hp
    have pa:p ≠ a:=fun z=>naf (z ▸ hp)
    have pb:p ≠ b:=fun z=>by rw [z,b2] at hh;exact n1 hh.2.1.symm
    rw [if_neg pb,if_neg pa];exact hh
  ·rw [if_neg c0] at hp
   have old:p ∈ C x y/\p ≠ a/\p ≠ b:=by
    by_cases c1:x=s/\y=t
    ·rw [if_pos c1] at hp
     obtain ⟨rfl,rfl⟩:=c1
     refine ⟨by rw [h2];exact .tail _ hp,fun z=>?_,fun z=>tb.1 (z ▸ hp)⟩
     have:=(h.at_ x y p hxy (by rw [h2];exact .tail _ hp)).2.1
     rw [z,a2] at this;exact n1 this
    ·rw [if_neg c1] at hp
     by_cases c2:x=f/\y=s
     ·rw [if_pos c2] at hp
      obtain ⟨rfl,rfl⟩:=c2
      refine ⟨by rw [h1];exact .tail _ hp,fun z=>ta.1 (z ▸ hp),fun z=>?_⟩
      have:=(h.at_ x y p hxy (by rw [h1];exact .tail _ hp)).2.1
      rw [z,b2] at this;exact n1 this.symm
     ·rw [if_neg c2] at hp
      have hh:=(h.at_ x y p hxy hp).2
      refine ⟨hp,fun z=>c2 ?_,fun z=>c1 ?_⟩
      ·rw [z,a2,a3] at hh;exact ⟨hh.1.symm,hh.2.symm⟩
      ·rw [z,b2,b3] at hh;exact ⟨hh.1.symm,hh.2.symm⟩
   rw [if_neg old.2.2,if_neg old.2.1]
   exact h.at_ x y p hxy old.1
 ·rw [cell]
  by_cases c0:x=f/\y=t
  ·rw [if_pos c0];exact dA.mpr ⟨naf,h.nd f t n3⟩
  ·rw [if_neg c0]
   by_cases c1:x=s/\y=t
   ·rw [if_pos c1];exact tb.2
   ·rw [if_neg c1]
    by_cases c2:x=f/\y=s
    ·rw [if_pos c2];exact ta.2
    ·rw [if_neg c2];exact h.nd x y hxy
 ·rw [aV,aV] at hp
  rw [gt] at hne ⊢
  by_cases pb:p=b
  ·rw [if_pos pb,pb,b2] at hne;exact absurd rfl hne
  ·rw [if_neg pb] at hne ⊢
   by_cases pa:p=a
   ·rw [if_pos pa,cell,if_pos ⟨by rw [pa];exact a2,rfl⟩,pa];exact .head _
   ·rw [if_neg pa] at hne ⊢
    have old:=h.all p hp hne
    rw [cell]
    by_cases c0:ds.getD p 0=f/\row.getD p 0=t
    ·rw [if_pos c0]
     rw [c0.1,c0.2] at old
     exact .tail _ old
    ·rw [if_neg c0]
     by_cases c1:ds.getD p 0=s/\row.getD p 0=t
     ·rw [if_pos c1]
      rw [c1.1,c1.2,h2] at old
      exact (aE.mp old).resolve_left pb
     ·rw [if_neg c1]
      by_cases c2:ds.getD p 0=f/\row.getD p 0=s
      ·rw [if_pos c2]
       rw [c2.1,c2.2,h1] at old
       exact (aE.mp old).resolve_left pa
      ·rw [if_neg c2];exact old
theorem Yz {row:List Int}{a b:Nat}{x y:Int}(nab:a ≠ b)(ha:a<row.length)(hb:b<row.length)(ea:row.getD a 0=x)(eb:row.getD b 0=y):DoE (.swap a b) (row.map some,none) (((row.set a y).set b x).map some,none):=by
 have g:∀ p v,p<row.length->row.getD p 0=v->(row.map some)[p]?=some (some v):=fun p v h e=>by
  rw [aD,af h]
  rw [aq,af h] at e
  exact congrArg (fun z=>some (some z)) e
 rw [dq,dq]
 exact .swap nab (g a x ha ea) (g b y hb eb)
theorem Qh {row:List Int}{a b:Nat}{x y:Int}(nab:a ≠ b)(ha:a<row.length)(hb:b<row.length)(ea:row.getD a 0=x)(eb:row.getD b 0=y)(v:Int):((row.set a y).set b x).count v=row.count v:=by
 have g:∀ p w,p<row.length->row.getD p 0=w->row[p]?=some w:=fun p w h e=>by
  rw [af h]
  rw [aq,af h] at e
  exact congrArg some e
 have h1:=g a x ha ea
 have h2:=g b y hb eb
 have c1:=List.count_set (a:=y) (b:=v) (l:=row) ha
 have hb':b<(row.set a y).length:=by rw [aV];exact hb
 have c2:=List.count_set (a:=x) (b:=v) (l:=row.set a y) hb'
 have e1:row[a]=x:=by rw [af ha] at h1;exact bC h1
 have e2:(row.set a y)[b]=y:=by
  rw [List.getElem_set_ne nab]
  rw [af hb] at h2;exact bC h2
 rw [e1] at c1
 rw [e2] at c2
 rw [c2,c1]
 have p1:(if (x == v)=true then 1 else 0)<=row.count v:=by
  split
  ·rename_i z
   exact iK.mpr (by have:=bJ h1;rwa [mS z] at this)
  ·exact ci _
 omega
theorem ye {ds:List Int}{i j:Int}(ne:i ≠ j):∀ (l1 l2:List Nat) (row:List Int) (C:Int->Int->List Nat),qU ds row C->C i j=l1->C j i=l2 ->
  ∃ row' C',xR ((l1.zip l2).map fun z=>De.swap z.1 z.2) (row.map some,none) (row'.map some,none)/\row'.length=row.length/\(∀ v,row'.count v=row.count v)/\qU ds row' C'/\C' i j=l1.drop (min l1.length l2.length)/\C' j i=l2.drop (min l1.length l2.length)/\∀ x y,¬ (x=i/\y=j)->¬ (x=j/\y=i)->C' x y=C x y
 | [],l2,row,C,h,h1,h2=>⟨row,C,.nil,rfl,fun _=>rfl,h,by rw [h1];simp,by rw [h2];simp,fun _ _ _ _=>rfl⟩
 | a :: r1,[],row,C,h,h1,h2=>⟨row,C,.nil,rfl,fun _=>rfl,h,by rw [h1];simp,by rw [h2];simp,fun _ _ _ _=>rfl⟩
 | a :: r1,b :: r2,row,C,h,h1,h2=>by
  obtain ⟨nab,ha,hb,ea,eb,ok⟩:=h.two ne h1 h2
  have k1:qA (qA C i j r1) j i r2 i j=r1:=(qh fun z=>ne z.1).trans jc
  have k2:qA (qA C i j r1) j i r2 j i=r2:=jc
  obtain ⟨row',C',d,l,cn,ok',e1,e2,e3⟩:=ye ne r1 r2 _ _ ok k1 k2
  refine ⟨row',C',.cons (Yz nab ha hb ea eb) d,by rw [l,aV,aV],fun v=>by rw [cn v,Qh nab ha hb ea eb v],ok',?_,?_,fun x y z1 z2=>by rw [e3 x y z1 z2,qh z2,qh z1]⟩
  ·rw [e1];simp [nY]
  ·rw [e2];simp [nY]
theorem yN {ds:List Int}{f s t:Int}(n1:f ≠ s)(n2:s ≠ t)(n3:f ≠ t):∀ (l1 l2 l3:List Nat) (row:List Int) (C:Int->Int->List Nat),l1.length=l2.length->l2.length=l3.length->qU ds row C->C f s=l1->C s t=l2->C t f=l3 ->
  ∃ row' C',xR ((l1.zip (l2.zip l3)).flatMap fun z=>[De.swap z.1 z.2.1,De.swap z.1 z.2.2]) (row.map some,none) (row'.map some,none)/\row'.length=row.length/\(∀ v,row'.count v=row.count v)/\qU ds row' C'/\C' f s=[]/\C' s t=[]/\C' t f=[]/\∀ x y,¬ (x=f/\y=s)->¬ (x=s/\y=t)->¬ (x=t/\y=f)->C' x y=C x y
 | [],[],[],row,C,_,_,h,h1,h2,h3=>⟨row,C,.nil,rfl,fun _=>rfl,h,h1,h2,h3,fun _ _ _ _ _=>rfl⟩
 | a :: r1,b :: r2,c :: r3,row,C,m1,m2,h,h1,h2,h3=>by
  obtain ⟨nab,ha,hb,ea,eb,ok⟩:=h.pass n1 n2 n3 h1 h2
  have k1:qA (qA (qA C f s r1) s t r2) f t (a :: C f t) f t=a :: C f t:=jc
  have k2:qA (qA (qA C f s r1) s t r2) f t (a :: C f t) t f=c :: r3:=by
   rw [qh fun z=>n3 z.1.symm,qh fun z=>n2 z.1.symm,qh fun z=>n3 z.1.symm];exact h3
  obtain ⟨nac,ha2,hc,ea2,ec,ok2⟩:=ok.two n3 k1 k2
  have q1:qA (qA (qA (qA (qA C f s r1) s t r2) f t (a :: C f t)) f t (C f t)) t f r3 f s=r1:=by
   rw [qh fun z=>n3 z.1,qh fun z=>n2 z.2,qh fun z=>n2 z.2,qh fun z=>n1 z.1,jc]
  have q2:qA (qA (qA (qA (qA C f s r1) s t r2) f t (a :: C f t)) f t (C f t)) t f r3 s t=r2:=by
   rw [qh fun z=>n2 z.1,qh fun z=>n1 z.1.symm,qh fun z=>n1 z.1.symm,jc]
  have q3:qA (qA (qA (qA (qA C f s r1) s t r2) f t (a :: C f t)) f t (C f t)) t f r3 t f=r3:=jc
  obtain ⟨row',C',d,l,cn,ok',e1,e2,e3,e4⟩:=yN n1 n2 n3 r1 r2 r3 _ _ (by simpa using m1) (by simpa using m2) ok2 q1 q2 q3
  refine ⟨row',C',.cons (Yz nab ha hb ea eb) (.cons (Yz nac ha2 hc ea2 ec) d),by rw [l];simp only [aV],fun v=>by rw [cn v,Qh nac ha2 hc ea2 ec v,Qh nab ha hb ea eb v],ok',e1,e2,e3,fun x y z1 z2 z3=>?_⟩
  rw [e4 x y z1 z2 z3,qh z3]
  by_cases c:x=f/\y=t
  ·obtain ⟨rfl,rfl⟩:=c;exact jc
  ·rw [qh c,qh c,qh z2,qh z1]
noncomputable def nC (ds row:List Int)(i j:Int):Nat:=((bT row.length).filter fun p=>decide (ds.getD p 0=i) && decide (row.getD p 0=j)).length
theorem qU.len {ds row:List Int}{C:Int->Int->List Nat}(h:qU ds row C) (ne:i ≠ j):(C i j).length=nC ds row i j:=by
 refine List.Perm.length_eq ((List.perm_ext_iff_of_nodup (h.nd i j ne) (oE.filter _)).mpr fun p=>⟨fun hp=>?_,fun hp=>?_⟩)
 ·obtain ⟨h1,h2,h3⟩:=h.at_ i j p ne hp
  exact e7.mpr ⟨cv.mpr h1,by simp only [h2,h3,decide_true,Bool.and_self]⟩
 ·obtain ⟨h1,h2⟩:=e7.mp hp
  simp only [b7,decide_eq_true_eq] at h2
  have:=h.all p (cv.mp h1) (by rw [h2.1,h2.2];exact Ne.symm ne)
  rwa [h2.1,h2.2] at this
theorem Za (l:List Int)(v:Int):l.count v=((bT l.length).filter fun p=>decide (l.getD p 0=v)).length:=by
 have e:l=(bT l.length).map fun p=>l.getD p 0:=by
  refine dM fun p=>?_
  rw [aD]
  by_cases hp:p<l.length
  ·rw [cF hp,af hp]
   show _=some (l.getD p 0)
   rw [aq,af hp];rfl
  ·rw [bA (by omega),bA (by rw [cK];omega)];rfl
 conv=>lhs;rw [e]
 rw [List.count,mC,List.countP_eq_length_filter]
 congr 1
theorem Kc (A:Nat->Bool)(g:Nat->Int):∀ L:List Nat,(∀ p ∈ L,g p=0 \/ g p=1 \/ g p=2)->(L.filter A).length=(L.filter fun p=>A p && decide (g p=0)).length+(L.filter fun p=>A p && decide (g p=1)).length+(L.filter fun p=>A p && decide (g p=2)).length
 | [],_=>rfl
 | p :: r,h=>by
  have ih:=Kc A g r fun q hq=>h q (.tail _ hq)
  simp only [oF]
  cases hA:A p with
  | false=>simpa using ih
  | true=>
   rcases h p (.head _) with z | z | z <;> simp [z,ih] <;> omega
theorem bal {ds row:List Int}(hl:row.length=ds.length)(hd:∀ p,p<row.length->ds.getD p 0=0 \/ ds.getD p 0=1 \/ ds.getD p 0=2)(hr:∀ p,p<row.length->row.getD p 0=0 \/ row.getD p 0=1 \/ row.getD p 0=2)(hc:∀ v,row.count v=ds.count v)(v:Int) :
  nC ds row v 0+nC ds row v 1+nC ds row v 2=nC ds row 0 v+nC ds row 1 v+nC ds row 2 v:=by
 have h1:=Kc (fun p=>decide (ds.getD p 0=v)) (fun p=>row.getD p 0) (bT row.length) fun p hp=>hr p (cv.mp hp)
 have h2:=Kc (fun p=>decide (row.getD p 0=v)) (fun p=>ds.getD p 0) (bT row.length) fun p hp=>hd p (cv.mp hp)
 have e1:=Za row v
 have e2:=Za ds v
 rw [<- hl] at e2
 have e3:=hc v
 have sw:∀ i,((bT row.length).filter fun p=>decide (row.getD p 0=v) && decide (ds.getD p 0=i)).length=nC ds row i v:=fun i=>by
  unfold nC
  congr 1
  exact List.filter_congr fun p _=>Bool.and_comm _ _
 rw [sw,sw,sw] at h2
 unfold nC
 unfold nC at h2
 omega
noncomputable def cel (ds ks:List Int)(i j:Int):List Nat:=(bT ks.length).filter fun p=>decide (ds.getD p 0=i) && decide (ks.getD p 0=j)
theorem IY (ds ks:List Int):qU ds ks (cel ds ks):=⟨fun i j p _ hp=>by
  obtain ⟨h1,h2⟩:=e7.mp hp
  simp only [b7,decide_eq_true_eq] at h2
  exact ⟨cv.mp h1,h2.1,h2.2⟩,fun i j _=>oE.filter _,fun p hp _=>e7.mpr ⟨cv.mpr hp,by simp⟩⟩
noncomputable def prs (C:Int->Int->List Nat)(i j:Int):List De:=((C i j).zip (C j i)).map fun z=>De.swap z.1 z.2
noncomputable def lft (C:Int->Int->List Nat)(i j:Int):List Nat:=(C i j).drop (min (C i j).length (C j i).length)
noncomputable def rnd (D:Int->Int->List Nat)(f s t:Int):List De:=((D f s).zip ((D s t).zip (D t f))).flatMap fun z=>[De.swap z.1 z.2.1,De.swap z.1 z.2.2]
noncomputable def xch (C:Int->Int->List Nat):List De:=prs C 0 1 ++ prs C 0 2 ++ prs C 1 2 ++ rnd (lft C) 0 1 2 ++ rnd (lft C) 0 2 1
theorem vz (C:Int->Int->List Nat)(i j:Int):(C j i).drop (min (C i j).length (C j i).length)=lft C j i:=by unfold lft;rw [ig]
theorem FM (C:Int->Int->List Nat)(i j:Int):(lft C i j).length=0 \/ (lft C j i).length=0:=by
 unfold lft
 rw [bN,bN]
 rcases Nat.le_total (C i j).length (C j i).length with h | h
 ·exact .inl (by rw [my h,Nat.sub_self])
 ·exact .inr (by rw [my h,Nat.sub_self])
theorem JQ (C:Int->Int->List Nat)(i j:Int):(C i j).length=min (C i j).length (C j i).length+(lft C i j).length:=by
 unfold lft
 rw [bN,Nat.add_sub_of_le (Nat.min_le_left _ _)]
theorem Zv (C:Int->Int->List Nat)(i j:Int):(C j i).length=min (C i j).length (C j i).length+(lft C j i).length:=by
 rw [ig];exact JQ C j i
theorem q0l {x a b c d:Nat}(h:x+a+c=x+b+d):a+c=b+d:=by omega
theorem q1l {x b e a f:Nat}(h:b+x+e=a+x+f):b+e=a+f:=by omega
theorem zz6 {a b c d e f:Nat}(q0:a+c=b+d)(q1:b+e=a+f)(h1:a=0 \/ b=0)(h2:c=0 \/ d=0)(h3:e=0 \/ f=0):a=e/\e=d/\c=f/\f=b:=by
 rcases h1 with rfl | rfl
 ·rcases h3 with rfl | rfl
  ·have:f=b:=by omega
   rcases h2 with rfl | rfl <;> refine ⟨rfl,?_,?_,this⟩ <;> omega
  ·have:b=0/\e=0:=by omega
   obtain ⟨rfl,rfl⟩:=this
   refine ⟨rfl,?_,?_,rfl⟩ <;> omega
 ·rcases h3 with rfl | rfl
  ·have:a=0/\f=0:=by omega
   obtain ⟨rfl,rfl⟩:=this
   refine ⟨rfl,?_,?_,rfl⟩ <;> omega
  ·have:e=a:=by omega
   rcases h2 with rfl | rfl <;> refine ⟨this.symm,?_,?_,rfl⟩ <;> omega
variable {ks ds:List Int}
theorem Xm (hl:ks.length=ds.length)(hk:∀ p,p<ks.length->ks.getD p 0=0 \/ ks.getD p 0=1 \/ ks.getD p 0=2)(hd:∀ p,p<ks.length->ds.getD p 0=0 \/ ds.getD p 0=1 \/ ds.getD p 0=2)(hc:∀ v,ks.count v=ds.count v) :
  xR (xch (cel ds ks)) (ks.map some,none) (ds.map some,none)/\(lft (cel ds ks) 0 1).length=(lft (cel ds ks) 1 2).length/\(lft (cel ds ks) 1 2).length=(lft (cel ds ks) 2 0).length/\(lft (cel ds ks) 0 2).length=(lft (cel ds ks) 2 1).length/\(lft (cel ds ks) 2 1).length=(lft (cel ds ks) 1 0).length:=by
 obtain ⟨w1,C1,d1,l1,c1,o1,a1,b1,e1⟩:=ye (i:=0) (j:=1) (by decide) _ _ ks _ (IY ds ks) rfl rfl
 rw [vz] at b1
 have a1:C1 0 1=lft (cel ds ks) 0 1:=a1
 obtain ⟨w2,C2,d2,l2,c2,o2,a2,b2,e2⟩:=ye (i:=0) (j:=2) (by decide) _ _ w1 C1 o1 rfl rfl
 have f02:C1 0 2=cel ds ks 0 2:=e1 0 2 (by decide) (by decide)
 have f20:C1 2 0=cel ds ks 2 0:=e1 2 0 (by decide) (by decide)
 rw [f02,f20] at a2 b2 d2
 rw [vz] at b2
 have a2:C2 0 2=lft (cel ds ks) 0 2:=a2
 obtain ⟨w3,C3,d3,l3,c3,o3,a3,b3,e3⟩:=ye (i:=1) (j:=2) (by decide) _ _ w2 C2 o2 rfl rfl
 have f12:C2 1 2=cel ds ks 1 2:=(e2 1 2 (by decide) (by decide)).trans (e1 1 2 (by decide) (by decide))
 have f21:C2 2 1=cel ds ks 2 1:=(e2 2 1 (by decide) (by decide)).trans (e1 2 1 (by decide) (by decide))
 rw [f12,f21] at a3 b3 d3
 rw [vz] at b3
 have a3:C3 1 2=lft (cel ds ks) 1 2:=a3
 have g01:C3 0 1=lft (cel ds ks) 0 1:=(e3 0 1 (by decide) (by decide)).trans ((e2 0 1 (by decide) (by decide)).trans a1)
 have g10:C3 1 0=lft (cel ds ks) 1 0:=(e3 1 0 (by decide) (by decide)).trans ((e2 1 0 (by decide) (by decide)).trans b1)
 have g02:C3 0 2=lft (cel ds ks) 0 2:=(e3 0 2 (by decide) (by decide)).trans a2
 have g20:C3 2 0=lft (cel ds ks) 2 0:=(e3 2 0 (by decide) (by decide)).trans b2
 have lw:w3.length=ks.length:=by omega
 have cw:∀ v,w3.count v=ds.count v:=fun v=>by rw [c3,c2,c1,hc]
 have in3:∀ (row:List Int),row.length=ds.length->(∀ v,row.count v=ds.count v)->∀ p,p<row.length->row.getD p 0=0 \/ row.getD p 0=1 \/ row.getD p 0=2:=fun row hlr hcr p hp=>by
  have hm:row.getD p 0 ∈ row:=by rw [aq,af hp];exact bh _
  have h1:=iK.mpr hm
  rw [hcr] at h1
  obtain ⟨q,hq⟩:=List.mem_iff_getElem?.mp (iK.mp h1)
  have hql:=(aF.mp hq).1
  have:=hd q (by omega)
  rw [aq,hq] at this
  exact this
 have bl:=fun v=>bal (ds:=ds) (row:=w3) (by omega) (fun p hp=>hd p (by omega)) (in3 w3 (by omega) cw) cw v
 have L:=fun {i j:Int} (ne:i ≠ j)=>o3.len ne
 have q0:=bl 0
 have q1:=bl 1
 have q2:=bl 2
 rw [<- L (i:=0) (j:=1) (by decide),<- L (i:=0) (j:=2) (by decide),<- L (i:=1) (j:=0) (by decide),<- L (i:=2) (j:=0) (by decide),g01,g02,g10,g20] at q0
 rw [<- L (i:=1) (j:=0) (by decide),<- L (i:=1) (j:=2) (by decide),<- L (i:=0) (j:=1) (by decide),<- L (i:=2) (j:=1) (by decide),g10,a3,g01,b3] at q1
 rw [<- L (i:=2) (j:=0) (by decide),<- L (i:=2) (j:=1) (by decide),<- L (i:=0) (j:=2) (by decide),<- L (i:=1) (j:=2) (by decide),g20,b3,g02,a3] at q2
 obtain ⟨z1,z2,z3,z4⟩:=zz6 (q0l q0) (q1l q1) (FM (cel ds ks) 0 1) (FM (cel ds ks) 0 2) (FM (cel ds ks) 1 2)
 obtain ⟨w4,C4,d4,l4,c4,o4,a4,b4,t4,e4⟩:=yN (f:=0) (s:=1) (t:=2) (by decide) (by decide) (by decide) _ _ _ w3 C3 z1 z2 o3 g01 a3 g20
 have h02:C4 0 2=lft (cel ds ks) 0 2:=(e4 0 2 (by decide) (by decide) (by decide)).trans g02
 have h21:C4 2 1=lft (cel ds ks) 2 1:=(e4 2 1 (by decide) (by decide) (by decide)).trans b3
 have h10:C4 1 0=lft (cel ds ks) 1 0:=(e4 1 0 (by decide) (by decide) (by decide)).trans g10
 obtain ⟨w5,C5,d5,l5,c5,o5,a5,b5,t5,e5⟩:=yN (f:=0) (s:=2) (t:=1) (by decide) (by decide) (by decide) _ _ _ w4 C4 z3 z4 o4 h02 h21 h10
 have lw5:w5.length=ds.length:=by omega
 have fin:w5=ds:=o5.done lw5 fun p hp hne=>by
  have x1:=hd p (by omega)
  have x2:=in3 w5 lw5 (fun v=>by rw [c5,c4,cw]) p hp
  rcases x1 with u | u | u <;> rcases x2 with v | v | v <;> rw [u,v] <;> rw [u,v] at hne
  ·exact absurd rfl hne
  ·exact (e5 0 1 (by decide) (by decide) (by decide)).trans a4
  ·exact a5
  ·exact t5
  ·exact absurd rfl hne
  ·exact (e5 1 2 (by decide) (by decide) (by decide)).trans b4
  ·exact (e5 2 0 (by decide) (by decide) (by decide)).trans t4
  ·exact b5
  ·exact absurd rfl hne
 subst fin
 exact ⟨(((d1.append d2).append d3).append d4).append d5,z1,z2,z3,z4⟩
variable {D:Int->Int->List Nat}
theorem Yk {f s t:Int}(h1:(D f s).length=(D s t).length)(h2:(D s t).length=(D t f).length):(rnd D f s t).length=2 * (D f s).length:=by
 unfold rnd
 have:∀ l:List (Nat × Nat × Nat),(l.flatMap fun z=>[De.swap z.1 z.2.1,De.swap z.1 z.2.2]).length=2 * l.length:=fun l=>by
  induction l with
  | nil=>rfl
  | cons a r ih=>rw [gG,bc,ih,aN,aN,aN,bV];omega
 rw [this,cD,cD];omega
theorem Ez {n01 n10 n02 n20 n12 n21 m1 m2 m3 a b c d e f:Nat}(h1:n01=m1+a)(h2:n10=m1+b)(h3:n02=m2+c)(h4:n20=m2+d)(h5:n12=m3+e)(h6:n21=m3+f)(z1:a=e)(z2:e=d)(z3:c=f)(z4:f=b) :
  ((m1+m2+m3+2 * a+2 * c:Nat):Int)=(m1:Int)+(m2:Int)+(m3:Int)+((n01:Int)+n02+n10+n12+n20+n21 - 2 * ((m1:Int)+(m2:Int)+(m3:Int))) / 3 * 2:=by
 subst h1 h2 h3 h4 h5 h6 z1 z2 z3 z4
 omega
theorem ER {C:Int->Int->List Nat}(z1:(lft C 0 1).length=(lft C 1 2).length)(z2:(lft C 1 2).length=(lft C 2 0).length)(z3:(lft C 0 2).length=(lft C 2 1).length)(z4:(lft C 2 1).length=(lft C 1 0).length) :
  ((xch C).length:Int)=((min (C 0 1).length (C 1 0).length:Nat):Int)+((min (C 0 2).length (C 2 0).length:Nat):Int)+((min (C 1 2).length (C 2 1).length:Nat):Int) +
   (((C 0 1).length:Int)+(C 0 2).length+(C 1 0).length+(C 1 2).length+(C 2 0).length+(C 2 1).length - 2 * (((min (C 0 1).length (C 1 0).length:Nat):Int)+((min (C 0 2).length (C 2 0).length:Nat):Int)+((min (C 1 2).length (C 2 1).length:Nat):Int))) / 3 * 2:=by
 have p:∀ i j,(prs C i j).length=min (C i j).length (C j i).length:=fun i j=>by unfold prs;rw [az,cD]
 have e:(xch C).length=min (C 0 1).length (C 1 0).length+min (C 0 2).length (C 2 0).length+min (C 1 2).length (C 2 1).length+2 * (lft C 0 1).length+2 * (lft C 0 2).length:=by
  unfold xch
  rw [bc,bc,bc,bc,p,p,p,Yk z1 z2,Yk z3 z4]
 rw [e]
 exact Ez (JQ C 0 1) (Zv C 0 1) (JQ C 0 2) (Zv C 0 2) (JQ C 1 2) (Zv C 1 2) z1 z2 z3 z4
noncomputable def deD:De->Dat
 | .swap a b=>.tup [.str (ap "swap"),.int (a:Int),.int (b:Int)]
 | .take p=>.tup [.str (ap "take"),.int (p:Int)]
 | .move p g=>.tup [.str (ap "move"),.int (p:Int),.int (g:Int)]
 | .lay g=>.tup [.str (ap "lay"),.int (g:Int)]
noncomputable def srt (ks:List Int):List Int:=ks.mergeSort fun x y=>decide (x<=y)
theorem zZ (ks:List Int):(srt ks).Perm ks:=List.mergeSort_perm _ _
theorem Ip (ks:List Int):(srt ks).Pairwise (·<=·):=by
 have:=List.pairwise_mergeSort (le:=fun x y:Int=>decide (x<=y)) (fun a b c h1 h2=>by simp at h1 h2 ⊢;omega) (fun a b=>by simp;omega) ks
 exact this.imp fun h=>by simpa using h
theorem ZH {ks ns:List Int}(p:ns.Perm ks)(h:ns.Pairwise (·<=·)):ns=srt ks:=(p.trans (zZ ks).symm).eq_of_pairwise (fun _ _ _ _ x y=>Int.le_antisymm x y) h (Ip ks)
noncomputable def kk (k:Nat):List Key:=ikT [((k / 3:Nat):Int),((k % 3:Nat):Int)]
theorem Kx {k l:Nat}(h:kk k=kk l):k=l:=by
 have h1:=(dX h).1
 have h2:=(dX (dX h).2).1
 have h1:((k / 3:Nat):Int)=((l / 3:Nat):Int):=fj.inj h1
 have h2:((k % 3:Nat):Int)=((l % 3:Nat):Int):=fj.inj h2
 omega
noncomputable def kvN (n:Nat)(E:Nat->AV):List (List Key × AV):=(bT n).map fun k=>(kk k,E k)
theorem Z9 (n:Nat)(E:Nat->AV):(kvN n E).length=n:=by simp [kvN]
variable {E:Nat->AV}
theorem kY (h:k<n):kM (kvN n E) (kk k)=some (E k):=by
 unfold kM kvN
 have:((bT n).map fun k=>(kk k,E k)).find? (fun kv=>decide (kv.1=kk k))=some (kk k,E k):=by
  rw [List.find?_map]
  have:(bT n).find? ((fun kv:List Key × AV=>decide (kv.1=kk k)) ∘ fun k=>(kk k,E k))=some k:=by
   rw [List.find?_range_eq_some]
   exact ⟨by simp,cv.mpr h,fun j hj=>by simp;exact fun z=>by have:=Kx z;omega⟩
  rw [this];rfl
 rw [this];rfl
theorem YA:((kvN n E).any fun kv=>decide (kv.1=kk k))=decide (k<n):=by
 unfold kvN
 rw [List.any_map]
 by_cases h:k<n
 ·rw [decide_eq_true h,List.any_eq_true];exact ⟨k,cv.mpr h,by simp⟩
 ·rw [decide_eq_false h,nJ]
  intro j hj
  have:=cv.mp hj
  simp only [nj,decide_eq_true_eq]
  exact fun z=>by have:=Kx z;omega
theorem Fq {v:AV}(h:k<n):wG (kvN n E) (kk k) v=kvN n fun l=>if l=k then v else E l:=by
 unfold wG
 rw [YA,decide_eq_true h,if_pos rfl]
 unfold kvN
 rw [bR]
 refine eM fun j _=>?_
 dsimp only [nj]
 by_cases c:j=k
 ·rw [if_pos (by rw [c]),if_pos c]
 ·rw [if_neg (fun z=>c (Kx z)),if_neg c]
theorem F8 {v:AV}:wG (kvN n E) (kk n) v=kvN (n+1) fun l=>if l=n then v else E l:=by
 unfold wG
 rw [YA,decide_eq_false (by omega),if_neg (by simp)]
 unfold kvN
 rw [mw,bX]
 congr 1
 ·refine eM fun j hj=>?_
  have:=cv.mp hj
  dsimp only
  rw [if_neg (by omega)]
 ·simp
noncomputable abbrev nI (n:Nat):AV:=.d (.int (n:Int))
structure PlN (M M':MH)(D:aw)(P:Nat->aw)(C:Nat->List Nat)(n:Nat):Prop where
 d:M' D=some (.dT (kvN n fun k=>.ref (P k)))
 p:∀ k,k<n->M' (P k)=some (.lst ((C k).map nI))
 d0:M D=none
 p0:∀ k,k<n->M (P k)=none
 pd:∀ k,k<n->P k ≠ D
 inj:∀ k l,k<n->l<n->P k=P l->k=l
 els:∀ a,a ≠ D->(∀ k,k<n->a ≠ P k)->M' a=M a
theorem PlN.start {D:aw}(h:M D=none){P:Nat->aw}{C:Nat->List Nat}:PlN M (mup M D (.dT [])) D P C 0:=
 ⟨zk,fun _ z=>by omega,h,fun _ z=>by omega,fun _ z=>by omega,fun _ _ z=>by omega,fun a ha _=>zn ha⟩
variable {M':MH}
theorem PlN.fr {D:aw}{P:Nat->aw}{C:Nat->List Nat} (h:PlN M M' D P C n):Fr M M':=fun q hq=>h.els q (fun z=>hq (by rw [z];exact h.d0)) fun k hk z=>hq (by rw [z];exact h.p0 k hk)
theorem PlN.more {D p:aw}{P:Nat->aw}{C:Nat->List Nat} (h:PlN M M' D P C n)(hp:M' p=none)(hC:C n=[]):PlN M (mup (mup M' p (.lst [])) D (.dT (wG (kvN n fun k=>.ref (P k)) (kk n) (.ref p)))) D (fun k=>if k=n then p else P k) C (n+1):=by
 have pD:p ≠ D:=fun z=>by rw [z,h.d] at hp;cases hp
 have pP:∀ k,k<n->P k ≠ p:=fun k hk z=>by rw [<- z,h.p k hk] at hp;cases hp
 have mp:M p=none:=by rw [<- h.els p pD fun k hk z=>pP k hk z.symm];exact hp
 refine ⟨?_,fun k hk=>?_,h.d0,fun k hk=>?_,fun k hk=>?_,fun k l hk hl e=>?_,fun a ha hk=>?_⟩
 ·rw [zk,F8]
  congr 2
  unfold kvN
  refine eM fun j _=>?_
  dsimp only
  by_cases c:j=n
  ·rw [if_pos c,if_pos c]
  ·rw [if_neg c,if_neg c]
 ·by_cases c:k=n
  ·rw [if_pos c,zn pD,zk,c,hC];rfl
  ·rw [if_neg c,zn (h.pd k (by omega)),zn (pP k (by omega))];exact h.p k (by omega)
 ·split
  ·exact mp
  ·exact h.p0 k (by omega)
 ·split
  ·exact pD
  ·exact h.pd k (by omega)
 ·by_cases c:k=n <;> by_cases c2:l=n
  ·omega
  ·rw [if_pos c,if_neg c2] at e;exact absurd e.symm (pP l (by omega))
  ·rw [if_neg c,if_pos c2] at e;exact absurd e (pP k (by omega))
  ·rw [if_neg c,if_neg c2] at e;exact h.inj k l (by omega) (by omega) e
 ·have a1:a ≠ p:=by have:=hk n (by omega);rw [if_pos rfl] at this;exact this
  rw [zn ha,zn a1]
  exact h.els a ha fun k hk2=>by have:=hk k (by omega);rw [if_neg (by omega)] at this;exact this
theorem PlN.app {D:aw}{P:Nat->aw}{C:Nat->List Nat} (h:PlN M M' D P C n)(hk:k<n)(x:Nat):PlN M (mup M' (P k) (.lst ((C k).map nI ++ [nI x]))) D P (fun l=>if l=k then C l ++ [x] else C l) n:=by
 refine ⟨by rw [zn (Ne.symm (h.pd k hk))];exact h.d,fun l hl=>?_,h.d0,h.p0,h.pd,h.inj,fun a ha hk2=>by rw [zn (hk2 k hk)];exact h.els a ha hk2⟩
 by_cases c:l=k
 ·rw [if_pos c,c,zk,bX];rfl
 ·rw [if_neg c,zn (fun z=>c (h.inj l k hl hk z))];exact h.p l hl
noncomputable def jd (ds ks:List Int)(i k:Nat):List Nat:=(bT i).filter fun p=>decide (ds.getD p 0=((k / 3:Nat):Int)) && decide (ks.getD p 0=((k % 3:Nat):Int))
theorem vJ:jd ds ks ks.length k=cel ds ks ((k / 3:Nat):Int) ((k % 3:Nat):Int):=rfl
theorem Zs (ds ks:List Int)(i k:Nat){g h:Nat}(hg:ds.getD i 0=(g:Int))(hh:ks.getD i 0=(h:Int))(g3:g<3)(h3:h<3):jd ds ks (i+1) k=if k=3 * g+h then jd ds ks i k ++ [i] else jd ds ks i k:=by
 unfold jd
 rw [mw,List.filter_append]
 rw [show [i].filter (fun p=>decide (ds.getD p 0=((k / 3:Nat):Int)) && decide (ks.getD p 0=((k % 3:Nat):Int)))=if k=3 * g+h then [i] else [] from ?_]
 ·split
  ·rfl
  ·rw [cu]
 ·rw [oF,hg,hh,List.filter_nil]
  by_cases c:k=3 * g+h
  ·rw [if_pos c,if_pos (by simp;omega)]
  ·rw [if_neg c,if_neg (by simp;omega)]
noncomputable def I0:ASp:=fun xs M Q=>∃ (y:AV) (ks:List Int),xs=[y]/\qz y M=some (bp (fun i=>AV.d (.int i)) ks)/\(∀ k ∈ ks,0<=k/\k<3)/\ks.length<=63/\∀ M' D P,PlN M M' D P (jd (srt ks) ks ks.length) 9->Q (.ref D) M'
noncomputable abbrev Ax:de:=top 17
theorem D9:zr ["kinds","found","place","goal","i","j"] ["kinds"] (zf Ax):=⟨rfl,rfl,rfl,by decide +kernel,rfl,by decide +kernel,by decide +kernel⟩
theorem Ic (a:At K mg "places_by_kinds" Ax)(B:Blt mg):Df P w K mg base "places_by_kinds" ["kinds"] 2 (cSp I0):=by
 refine dfA (k:=1) a D9 (fun _ _ _ _ _ _=>Pn1_ fun _=>rfl) (fun xs M Q h=>?_) (fun f cdv A outer s H E hr=>?_)
 ·obtain ⟨_,_,rfl,_⟩:=h;rfl
 have sc:=D9
 have hsl:=hsl
 refine ⟨_,(zd (Wp (j:=1) rfl sc.nd rfl (by first | exact bf rfl | exact bg rfl) (ts:=[4,5]) rfl (qL rfl B.range (za zc zb)) (fun _ _ _ _=>(zu (i:=4) sc.nd rfl (by first | exact bf rfl | exact bg rfl))) (fun _ _ _ _=>qg) (fun _ _ _ _ _=>(WM rfl rfl (by intro _ e;cases e <;> rfl) (qL rfl B.range (za zc zb)) (fun _=>rfl) (zu (i:=5) sc.nd rfl (by first | exact bf rfl | exact bg rfl)) qg (WC (Nat.lt_of_succ_lt (kq hr)) rfl (zA (za (pv 4) (za (pv 5) zb))) (kJ (zL zb)) (fun _ _ z=>z)) (fun _ _ z=>z))))
  (zd (ka db rfl (wQ rfl B.enumerate (za (zm qx rfl B.sorted jF (za (pv 0) zb)) zb)) (jo (K:=K) 2 rfl rfl (zG (zu (i:=2) sc.nd rfl (by first | exact bf rfl | exact bg rfl)) (zG (zu (i:=3) sc.nd rfl (by first | exact bf rfl | exact bg rfl)) qS))) (zh (jW (Yc eP PySem.F.slot_list_append PySem.F.type_list_append YX (kL (kq hr) (pv 1) (zA (za (pv 3) (za (zB zV (pv 0) (pv 2) (fun _ _=>rfl)) zb))) (fun _ _=>rfl)) (za (pv 2) zb)))))
  (zh (zK (pv 1))))),?_⟩
 refine ex2 (by walk_at "sim") ?_
 rintro xs M Q ⟨y,ks,rfl,hy,hk,hn,q⟩
 rw [show zR ["kinds","found","place","goal","i","j"] [y]=[some y,none,none,none,none,none] from rfl]
 refine ze fun r hr0=>?_
 walk_at "ra"
 refine ⟨by decide,by decide,fun D hD=>?_⟩
 refine ⟨fun i ρ M'=>i<=3/\∃ u v P,ρ=[some y,none,none,none,u,v]/\PlN M M' D P (fun _=>[]) (3 * i),⟨by omega,none,none,fun _=>0,rfl,PlN.start hD⟩,?_,?_⟩
 ·rintro i x ρ M' hx ⟨hi,u,v,P,rfl,hP⟩
  obtain ⟨hi3,rfl⟩:=jJ hx
  have hi3:i<3:=hi3
  refine ⟨trivial,?_⟩
  walk_at "ra"
  refine ⟨by decide,by decide,?_⟩
  refine ⟨fun j ρ M'=>j<=3/\∃ v P,ρ=[some y,none,none,none,some (.d (.int (0+(i:Int) * 1))),v]/\PlN M M' D P (fun _=>[]) (3 * i+j),⟨by omega,_,P,rfl,hP⟩,?_,?_⟩
  ·rintro j x ρ M' hx ⟨hj,v,P,rfl,hP⟩
   obtain ⟨hj3,rfl⟩:=jJ hx
   have hj3:j<3:=hj3
   refine ⟨trivial,?_⟩
   walk_at "ra"
   refine ⟨aZ (by decide) (fF hsl),fun p hp _=>?_⟩
   have pD:D ≠ p:=fun z=>by rw [<- z,hP.d] at hp;cases hp
   have ek:ikT [0+(i:Int) * 1,0+(j:Int) * 1]=kk (3 * i+j):=by
    unfold kk
    rw [show (3 * i+j) / 3=i by omega,show (3 * i+j) % 3=j by omega,ie,ie,gr,gr]
   refine ⟨_,[0+(i:Int) * 1,0+(j:Int) * 1],rfl,(zn pD).trans hP.d,by rw [Z9];omega,by omega,(fun k=>if k=3 * i+j then p else P k),?_⟩
   rw [ek]
   exact hP.more hp rfl
  ·rintro ρ M1 ⟨_,v,P,rfl,hP⟩
   exact ⟨trivial,by omega,⟨_,_,rfl⟩,P,hP⟩
 rintro ρ M1 ⟨_,u,v,P,rfl,hP⟩
 refine ⟨trivial,?_⟩
 have hP:PlN M M1 D P (fun _=>[]) 9:=hP
 dsimp only
 subst hr0
 have sy:∀ {M2:MH} {P:Nat->aw} {C:Nat->List Nat},PlN M M2 D P C 9->qz y M2=some (bp (fun i=>AV.d (.int i)) ks):=fun h=>FJ hy h.fr
 refine ze fun r hr0=>?_
 walk_at "ra"
 refine ⟨ks,sy hP,hn,fun ns' pm pw=>?_⟩
 have es:=ZH pm pw
 subst es
 have sl:(srt ks).length=ks.length:=(zZ ks).length_eq
 have s3:∀ k ∈ srt ks,0<=k/\k<3:=fun k h=>hk k ((zZ ks).mem_iff.mp h)
 refine ⟨fun i ρ M'=>i<=ks.length/\∃ u v,ρ=[some y,some (.ref D),u,v,none,none]/\PlN M M' D P (jd (srt ks) ks i) 9,⟨ci _,_,_,rfl,hP⟩,?_,?_⟩
 ·rintro i x ρ M' hx ⟨hi,u,v,rfl,hP⟩
  obtain ⟨d,hd,rfl⟩:=xC hx
  rw [aD] at hd
  obtain ⟨g,hg,rfl⟩:=bM.mp hd
  have hil:i<ks.length:=by rw [<- sl];exact (aF.mp hg).1
  have g3:=s3 g (bJ hg)
  have hh:=af hil
  have h3:=hk ks[i] (bh hil)
  have eg:(srt ks).getD i 0=((g.toNat:Nat):Int):=by rw [aq,hg];show g=_;omega
  have eh:ks.getD i 0=((ks[i].toNat:Nat):Int):=by rw [aq,hh];show ks[i]=_;omega
  refine ⟨trivial,?_⟩
  walk_at "ra"
  have k9:3 * g.toNat+ks[i].toNat<9:=by omega
  have ek:ikT [g,ks[i]]=kk (3 * g.toNat+ks[i].toNat):=by
   unfold kk
   rw [show (3 * g.toNat+ks[i].toNat) / 3=g.toNat by omega,show (3 * g.toNat+ks[i].toNat) % 3=ks[i].toNat by omega,show ((g.toNat:Nat):Int)=g by omega,show ((ks[i].toNat:Nat):Int)=ks[i] by omega]
  have hc:(jd (srt ks) ks i (3 * g.toNat+ks[i].toNat)).length<=i:=aZ (eu _ _) (by simp)
  have hpk:=hP.p _ k9
  have step:(fun l=>if l=3 * g.toNat+ks[i].toNat then jd (srt ks) ks i l ++ [i] else jd (srt ks) ks i l)=jd (srt ks) ks (i+1):=by
   funext l
   rw [Zs (srt ks) ks i l eg eh (by omega) (by omega)]
  refine ⟨_,sy hP,.d (.int ks[i]),?_,aZ (by decide) (fF hsl),[.int g,.int ks[i]],rfl,_,hP.d,[g,ks[i]],rfl,.ref (P (3 * g.toNat+ks[i].toNat)),by rw [ek];exact kY k9,⟨_,qH hpk⟩,_,rfl,_,hpk,?_,by omega,?_⟩
  ·rw [Qg (Int.natCast_nonneg i) (by simpa using hil) (.d .non),aq,bQ,aD,hh];rfl
  ·rw [az];exact b8 (aZ hc (aZ hi hn)) (by rw [cC];decide)
  ·rw [<- step]
   exact hP.app k9 i
 ·rintro ρ M1 ⟨_,u,v,rfl,hP⟩
  refine ⟨trivial,?_⟩
  rw [ku,az,sl] at hP
  subst hr0
  walk_at "ra"
  refine ⟨.ref D,M1,⟨fun q=>.inl rfl,fun q o e=>?_,.inl ⟨rfl,fun p z=>by cases z;rw [hP.d];exact fun z=>nomatch z⟩⟩,q _ _ _ hP⟩
  by_cases c:q=D
  ·rw [c,hP.d] at e;cases e
   refine .inr fun r hr=>?_
   obtain ⟨kv,hkv,er⟩:=bZ.mp hr
   obtain ⟨k,hkr,rfl⟩:=bZ.mp hkv
   cases er
   rw [hP.p k (cv.mp hkr)];exact fun z=>nomatch z
  ·by_cases c2:∃ k,k<9/\q=P k
   ·obtain ⟨k,h9,rfl⟩:=c2
    rw [hP.p k h9] at e;cases e
    refine .inr fun r hr=>?_
    obtain ⟨kv,hkv,er⟩:=bZ.mp hr
    cases er
   ·refine .inl ?_
    rw [<- hP.els q c fun k hk z=>c2 ⟨k,hk,z⟩];exact e
theorem ZS {x:AV}{M:MH}{l:List AV}(h:zY x M=some l):qz x M=some l:=by
 cases x with
 | d x=>cases x <;> first | exact h | (cases h)
 | ref a=>exact h
noncomputable abbrev nD (n:Nat):Dat:=.int (n:Int)
theorem wC (l:List Nat):l.map nI=(l.map nD).map AV.d:=by rw [bR];rfl
theorem wy {x:AV}{M:MH}{q:aw}{o:MO}(h:x ≠ .ref q):zY x (mup M q o)=zY x M:=by
 cases x with
 | d x=>cases x <;> rfl
 | ref a=>unfold zY;dsimp only;rw [zn fun z=>h (by rw [z])]
theorem Ah (l1 l2:List Nat):Jt (l1.map nD) (l2.map nD)=(l1.zip l2).map fun z=>AV.d (.tup [nD z.1,nD z.2]):=by
 refine dM fun i=>?_
 unfold Jt
 rw [aD,aD,az,az]
 by_cases h:i<min l1.length l2.length
 ·have h1:i<l1.length:=by omega
  have h2:i<l2.length:=by omega
  rw [cF h,show (l1.zip l2)[i]?=some (l1[i],l2[i]) from fP.mpr ⟨af h1,af h2⟩]
  show some (AV.d (.tup [(l1.map nD).getD i .non,(l2.map nD).getD i .non]))=_
  rw [aq,aq,aD,aD,af h1,af h2];rfl
 ·rw [bA (by rw [cK];omega),bA (by rw [cD];omega)];rfl
structure XSt (M0 M':MH)(D p:aw)(E:Nat->AV)(C:Nat->List Nat)(pl:List De):Prop where
 d:M' D=some (.dT (kvN 9 E))
 e:∀ k,k<9->zY (E k) M'=some ((C k).map nI)
 pp:M' p=some (.lst ((pl.map deD).map .d))
 ed:∀ k,k<9->E k ≠ .ref D/\E k ≠ .ref p
 dp:D ≠ p
 d0:M0 D=none
 p0:M0 p=none
 fr:Fr M0 M'
theorem XSt.more {D p:aw} {C:Nat->List Nat}{pl l:List De}(h:XSt M0 M' D p E C pl):XSt M0 (mup M' p (.lst ((pl.map deD).map .d ++ (l.map deD).map .d))) D p E C (pl ++ l):=
 ⟨by rw [zn h.dp];exact h.d,fun k hk=>by rw [wy (h.ed k hk).2];exact h.e k hk,by rw [zk,bX,bX],h.ed,h.dp,h.d0,h.p0,h.fr.mup h.p0 _⟩
variable {pl:List De}
theorem XSt.put {D p:aw} {C:Nat->List Nat} (h:XSt M0 M' D p E C pl) (hk:k<9)(l:List Nat):XSt M0 (mup M' D (.dT (wG (kvN 9 E) (kk k) (.d (.lst (l.map nD)))))) D p (fun j=>if j=k then .d (.lst (l.map nD)) else E j) (fun j=>if j=k then l else C j) pl:=
 ⟨by rw [zk,Fq hk],fun j hj=>by
  by_cases c:j=k
  ·rw [if_pos c,if_pos c,wC];rfl
  ·rw [if_neg c,if_neg c,wy (h.ed j hj).1];exact h.e j hj,by rw [zn (Ne.symm h.dp)];exact h.pp,fun j hj=>by
  split
  ·exact ⟨fun z=>(nomatch z),fun z=>(nomatch z)⟩
  ·exact h.ed j hj,h.dp,h.d0,h.p0,h.fr.mup h.d0 _⟩
noncomputable def GH : AS := yp (Xi (Qs (qM 1) (ZM (qd (qM 3) (qd (qM 4) xq)))) (jw 5))
      (yp (Xi (Qs (qM 1) (ZM (qd (qM 4) (qd (qM 3) xq)))) (jw 6))
        (yp (Jn (aBM vo (qM 2) (qd (aFz (Yr [11,12] (aiZ (qd (qM 5) (qd (qM 6) xq))) (XY 2 (xQ (jw 11) (xQ (jw 12) Xn))) vS (yX (ZM (qd (aC (Dat.str (ap "swap"))) (qd (qM 11) (qd (qM 12) xq))))))) xq)))
          (yp (Xi (aCB (bI2 fun i j=>if j<i then j else i) (qd (aCB Gf (qd (qM 5) xq)) (qd (aCB Gf (qd (qM 6) xq)) xq))) (jw 7))
            (yp (ZO (qM 1) (ZM (qd (qM 3) (qd (qM 4) xq))) (aFz (fSl (qM 5) (XM (qM 7)) Gp)))
              (ZO (qM 1) (ZM (qd (qM 4) (qd (qM 3) xq))) (aFz (fSl (qM 6) (XM (qM 7)) Gp)))))))
noncomputable def zt (C:Nat->List Nat)(i j:Nat):Nat->List Nat:=fun k=>if k=3 * j+i then (C (3 * j+i)).drop (min (C (3 * i+j)).length (C (3 * j+i)).length) else if k=3 * i+j then (C (3 * i+j)).drop (min (C (3 * i+j)).length (C (3 * j+i)).length) else C k
noncomputable def kT (C:Nat->List Nat)(i j:Nat):List De:=((C (3 * i+j)).zip (C (3 * j+i))).map fun z=>De.swap z.1 z.2
theorem w8 {i j:Nat}(hj:j<3):ikT [(i:Int),(j:Int)]=kk (3 * i+j):=by
 unfold kk
 rw [show (3 * i+j) / 3=i by omega,show (3 * i+j) % 3=j by omega]
variable {B:MH} {D':xY} {y u5 u6 u7:Option AV}
theorem vD {D p:aw} {C:Nat->List Nat} (h:XSt M0 M' D p E C pl){i j:Nat}(hi:i<3)(hj:j<3)(ne:i ≠ j)(hc:∀ k,(C k).length<=1000)(hp:pl.length<=10000)
  (q:∀ M'' E' v5 v6 v7,XSt M0 M'' D p E' (zt C i j) (pl ++ kT C i j)->D'.nx [y,some (.ref D),some (.ref p),some (.d (.int (i:Int))),some (.d (.int (j:Int))),v5,v6,v7,none,none,none,none,none,none] M'') :
  GH B D' [y,some (.ref D),some (.ref p),some (.d (.int (i:Int))),some (.d (.int (j:Int))),u5,u6,u7,none,none,none,none,none,none] M':=by
 have hsl:=hsl
 have kij:3 * i+j<9:=by omega
 have kji:3 * j+i<9:=by omega
 unfold GH
 refine ze fun r hr0=>?_
 walk_at "ra"
 refine ⟨by omega,_,h.d,[(i:Int),(j:Int)],rfl,_,by rw [w8 hj];exact kY kij,?_⟩
 subst hr0
 refine ze fun r hr0=>?_
 walk_at "ra"
 refine ⟨by omega,_,h.d,[(j:Int),(i:Int)],rfl,_,by rw [w8 hi];exact kY kji,?_⟩
 subst hr0
 refine ze fun r hr0=>?_
 walk_at "ra"
 refine ⟨⟨_,qH h.pp⟩,_,h.e _ kij,_,(C (3 * i+j)).map nD,by rw [wC];exact zS _,h.e _ kji,(C (3 * j+i)).map nD,by rw [wC];exact zS _,?_⟩
 rw [Ah]
 have c1:=hc (3 * i+j)
 have c2:=hc (3 * j+i)
 have lz:((C (3 * i+j)).zip (C (3 * j+i))).length<=1000:=by rw [cD];omega
 refine jC (fun o:Option AV × Option AV=>[y,some (AV.ref D),some (AV.ref p),some (AV.d (Dat.int ↑i)),some (AV.d (Dat.int ↑j)),some (E (3 * i+j)),some (E (3 * j+i)),u7,none,none,none,o.1,o.2,none]) (fun z:Nat × Nat=>AV.d (.tup [nD z.1,nD z.2])) (fun z=>AV.d (deD (.swap z.1 z.2))) _ ⟨(none,none),rfl⟩ ⟨h.e _ kij,h.e _ kji⟩ (by omega) (fun o z Q hz q=>?_) fun o=>?_
 ·walk_at "ra"
  exact ⟨by omega,q (_,_)⟩
 have e1:((C (3 * i+j)).zip (C (3 * j+i))).map (fun z=>AV.d (deD (.swap z.1 z.2)))=((kT C i j).map deD).map AV.d:=by unfold kT;rw [bR,bR];rfl
 rw [e1]
 have lp:(kT C i j).length<=1000:=by unfold kT;rw [az];exact lz
 refine ⟨_,zS _,_,h.pp,by simp only [az];omega,?_⟩
 have h:=h.more (l:=kT C i j)
 generalize mup M' p (MO.lst ((pl.map deD).map .d ++ ((kT C i j).map deD).map .d))=M2 at h ⊢
 subst hr0
 refine ze fun r hr0=>?_
 walk_at "ra"
 refine ⟨_,ZS (h.e _ kij),_,ZS (h.e _ kji),?_⟩
 rw [az,az,show (if ((C (3 * j+i)).length:Int)<((C (3 * i+j)).length:Int) then ((C (3 * j+i)).length:Int) else ((C (3 * i+j)).length:Int))=((min (C (3 * i+j)).length (C (3 * j+i)).length:Nat):Int) by split <;> omega]
 subst hr0
 refine ze fun r hr0=>?_
 walk_at "ra"
 have cm:∀ (l:List Nat) (k:Nat),qN (l.map nI) (some (k:Int)) none=((l.drop k).map nD).map AV.d:=fun l k=>by rw [jE,<- lg,wC]
 refine ⟨_,h.e _ kij,_,by rw [cm];exact zS _,by omega,_,h.d,[(i:Int),(j:Int)],rfl,by rw [Z9];omega,?_⟩
 rw [w8 hj]
 have h2:=h.put kij ((C (3 * i+j)).drop (min (C (3 * i+j)).length (C (3 * j+i)).length))
 generalize mup M2 D _=M3 at h2 ⊢
 subst hr0
 walk_at "ra"
 have nk:3 * j+i ≠ 3 * i+j:=by omega
 have e2:=h2.e _ kji
 rw [if_neg nk,if_neg nk] at e2
 refine ⟨_,e2,_,by rw [cm];exact zS _,by omega,_,h2.d,[(j:Int),(i:Int)],rfl,by rw [Z9];omega,?_⟩
 rw [w8 hi]
 exact q _ _ _ _ _ (h2.put kji ((C (3 * j+i)).drop (min (C (3 * i+j)).length (C (3 * j+i)).length)))
noncomputable def GF (f s t:Nat):AS:=Ft (Lj (qd (vT (qM 1) [(f:Int),(s:Int)]) (qd (vT (qM 1) [(s:Int),(t:Int)]) (qd (vT (qM 1) [(t:Int),(f:Int)]) xq))))
 (XY 3 (xQ (jw 11) (xQ (jw 12) (xQ (jw 13) Xn))))
 (Jn (aBM vo (qM 2) (qd (aFz (Lc (qd (ZM (qd (aC (Dat.str (ap "swap"))) (qd (qM 11) (qd (qM 12) xq)))) (qd (ZM (qd (aC (Dat.str (ap "swap"))) (qd (qM 11) (qd (qM 13) xq)))) xq)))) xq)))
noncomputable def Xl (z:Nat × Nat × Nat):List De:=[De.swap z.1 z.2.1,De.swap z.1 z.2.2]
noncomputable def wI (C:Nat->List Nat)(f s t:Nat):List De:=((C (3 * f+s)).zip ((C (3 * s+t)).zip (C (3 * t+f)))).flatMap Xl
theorem YU (l1 l2 l3:List Nat):Zq (l1.map nD) (l2.map nD) (l3.map nD)=(l1.zip (l2.zip l3)).map fun z=>AV.d (.tup [nD z.1,nD z.2.1,nD z.2.2]):=by
 unfold Zq
 rw [List.zip_map,List.zip_map,bR];rfl
theorem Yn {D p:aw} {C:Nat->List Nat} (h:XSt M0 M' D p E C pl){f s t:Nat}(hf:f<3)(hs:s<3)(ht:t<3)(l1:(C (3 * f+s)).length=(C (3 * s+t)).length)(l2:(C (3 * s+t)).length=(C (3 * t+f)).length)(hc:(C (3 * f+s)).length<=1000)(hp:pl.length<=10000) {y u3 u4 u5 u6 u7 u11 u12 u13:Option AV}
  (q:∀ M'' v11 v12 v13,XSt M0 M'' D p E C (pl ++ wI C f s t)->D'.nx [y,some (.ref D),some (.ref p),u3,u4,u5,u6,u7,none,none,none,v11,v12,v13] M'') :
  GF f s t B D' [y,some (.ref D),some (.ref p),u3,u4,u5,u6,u7,none,none,none,u11,u12,u13] M':=by
 have hsl:=hsl
 have k1:3 * f+s<9:=by omega
 have k2:3 * s+t<9:=by omega
 have k3:3 * t+f<9:=by omega
 unfold GF
 walk_at "ra"
 have lk:∀ {a b:Nat},b<3->3 * a+b<9->kM (kvN 9 E) [fj (a:Int),fj (b:Int)]=some (E (3 * a+b)):=fun {a b} hb h9=>by
  rw [show ([fj (a:Int),fj (b:Int)]:List Key)=kk (3 * a+b) from w8 hb];exact kY h9
 have le:∀ {M2:MH} {pl2:List De},XSt M0 M2 D p E C pl2->∀ k,k<9->zY (E k) M2=some (((C k).map nD).map AV.d):=fun h k hk=>by rw [<- wC];exact h.e k hk
 refine ⟨_,h.d,_,lk hs k1,_,h.d,_,lk ht k2,_,h.d,_,lk hf k3,_,le h _ k1,_,le h _ k2,_,le h _ k3,by simpa using l1,by simpa using l2,?_⟩
 rw [YU]
 have zl:((C (3 * f+s)).zip ((C (3 * s+t)).zip (C (3 * t+f)))).length<=1000:=by rw [cD];omega
 refine ⟨fun i ρ M2=>i<=((C (3 * f+s)).zip ((C (3 * s+t)).zip (C (3 * t+f)))).length/\(∃ v11 v12 v13,ρ=[y,some (.ref D),some (.ref p),u3,u4,u5,u6,u7,none,none,none,v11,v12,v13])/\XSt M0 M2 D p E C (pl ++ (((C (3 * f+s)).zip ((C (3 * s+t)).zip (C (3 * t+f)))).take i).flatMap Xl),⟨ci _,⟨_,_,_,rfl⟩,by simpa using h⟩,?_,?_⟩
 ·rintro i x ρ M2 hx ⟨hi,⟨v11,v12,v13,rfl⟩,h2⟩
  rw [aD] at hx
  obtain ⟨z,hz,rfl⟩:=bM.mp hx
  refine ⟨⟨(le h2 _ k1).trans (le h _ k1).symm,(le h2 _ k2).trans (le h _ k2).symm,(le h2 _ k3).trans (le h _ k3).symm⟩,?_⟩
  have hil:=(aF.mp hz).1
  have fl:∀ l:List (Nat × Nat × Nat),(l.flatMap Xl).length=2 * l.length:=fun l=>by
   induction l with
   | nil=>rfl
   | cons a r ih=>rw [gG,bc,ih,aN];show 2+_=_;omega
  walk_at "ra"
  refine ⟨⟨_,qH h2.pp⟩,by omega,by omega,by omega,_,h2.pp,?_,?_⟩
  ·simp only [az,bc,fl,cg,aN,bV];omega
  ·have h3:=h2.more (l:=Xl z)
   rw [nQ] at h3
   refine ⟨by omega,⟨_,rfl⟩,?_⟩
   rw [List.take_succ,hz,List.flatMap_append]
   exact h3
 ·rintro ρ M2 ⟨_,⟨v11,v12,v13,rfl⟩,h2⟩
  refine ⟨⟨(le h2 _ k1).trans (le h _ k1).symm,(le h2 _ k2).trans (le h _ k2).symm,(le h2 _ k3).trans (le h _ k3).symm⟩,q _ _ _ _ ?_⟩
  rw [az,gQ] at h2
  exact h2
theorem k3 {l:List Int}(h:∀ k ∈ l,0<=k/\k<3)(p:Nat)(hp:p<l.length):l.getD p 0=0 \/ l.getD p 0=1 \/ l.getD p 0=2:=by
 have:=h l[p] (bh hp)
 rw [aq,af hp]
 show l[p]=0 \/ l[p]=1 \/ l[p]=2
 omega
theorem BJ {C:Nat->List Nat}{f s t:Nat}(h:(C (3 * f+s)).length<=1000):(wI C f s t).length<=2000:=by
 unfold wI
 have fl:∀ l:List (Nat × Nat × Nat),(l.flatMap Xl).length=2 * l.length:=fun l=>by
  induction l with
  | nil=>rfl
  | cons a r ih=>rw [gG,bc,ih,aN];show 2+_=_;omega
 rw [fl,cD];omega
theorem Fw {C:Nat->List Nat} (h:∀ i j:Nat,i<3->j<3->C (3 * i+j)=D (i:Int) (j:Int)) :
  zt (zt (zt C 0 1) 0 2) 1 2 (3 * 0+1)=lft D 0 1/\zt (zt (zt C 0 1) 0 2) 1 2 (3 * 0+2)=lft D 0 2/\zt (zt (zt C 0 1) 0 2) 1 2 (3 * 1+2)=lft D 1 2/\zt (zt (zt C 0 1) 0 2) 1 2 (3 * 1+0)=lft D 1 0/\zt (zt (zt C 0 1) 0 2) 1 2 (3 * 2+0)=lft D 2 0/\zt (zt (zt C 0 1) 0 2) 1 2 (3 * 2+1)=lft D 2 1 /\
  [] ++ kT C 0 1 ++ kT (zt C 0 1) 0 2 ++ kT (zt (zt C 0 1) 0 2) 1 2 ++ wI (zt (zt (zt C 0 1) 0 2) 1 2) 0 1 2 ++ wI (zt (zt (zt C 0 1) 0 2) 1 2) 0 2 1=xch D:=by
 have e01:C 1=D 0 1:=h 0 1 (by omega) (by omega)
 have e02:C 2=D 0 2:=h 0 2 (by omega) (by omega)
 have e10:C 3=D 1 0:=h 1 0 (by omega) (by omega)
 have e12:C 5=D 1 2:=h 1 2 (by omega) (by omega)
 have e20:C 6=D 2 0:=h 2 0 (by omega) (by omega)
 have e21:C 7=D 2 1:=h 2 1 (by omega) (by omega)
 have a1:zt (zt (zt C 0 1) 0 2) 1 2 1=lft D 0 1:=by simp [zt,lft,e01,e10]
 have a2:zt (zt (zt C 0 1) 0 2) 1 2 2=lft D 0 2:=by simp [zt,lft,e02,e20]
 have a3:zt (zt (zt C 0 1) 0 2) 1 2 3=lft D 1 0:=by simp [zt,lft,e01,e10,ig]
 have a5:zt (zt (zt C 0 1) 0 2) 1 2 5=lft D 1 2:=by simp [zt,lft,e12,e21]
 have a6:zt (zt (zt C 0 1) 0 2) 1 2 6=lft D 2 0:=by simp [zt,lft,e02,e20,ig]
 have a7:zt (zt (zt C 0 1) 0 2) 1 2 7=lft D 2 1:=by simp [zt,lft,e12,e21,ig]
 refine ⟨a1,a2,a5,a3,a6,a7,?_⟩
 have q1:kT C 0 1=prs D 0 1:=by show ((C 1).zip (C 3)).map _=_;rw [e01,e10];rfl
 have q2:kT (zt C 0 1) 0 2=prs D 0 2:=by show ((zt C 0 1 2).zip (zt C 0 1 6)).map _=_;rw [show zt C 0 1 2=C 2 by simp [zt],show zt C 0 1 6=C 6 by simp [zt],e02,e20];rfl
 have q3:kT (zt (zt C 0 1) 0 2) 1 2=prs D 1 2:=by show ((zt (zt C 0 1) 0 2 5).zip (zt (zt C 0 1) 0 2 7)).map _=_;rw [show zt (zt C 0 1) 0 2 5=C 5 by simp [zt],show zt (zt C 0 1) 0 2 7=C 7 by simp [zt],e12,e21];rfl
 have r1:wI (zt (zt (zt C 0 1) 0 2) 1 2) 0 1 2=rnd (lft D) 0 1 2:=by show List.flatMap Xl ((zt (zt (zt C 0 1) 0 2) 1 2 1).zip ((zt (zt (zt C 0 1) 0 2) 1 2 5).zip (zt (zt (zt C 0 1) 0 2) 1 2 6)))=_;rw [a1,a5,a6];rfl
 have r2:wI (zt (zt (zt C 0 1) 0 2) 1 2) 0 2 1=rnd (lft D) 0 2 1:=by show List.flatMap Xl ((zt (zt (zt C 0 1) 0 2) 1 2 2).zip ((zt (zt (zt C 0 1) 0 2) 1 2 7).zip (zt (zt (zt C 0 1) 0 2) 1 2 3)))=_;rw [a2,a7,a3];rfl
 rw [q1,q2,q3,r1,r2,List.nil_append];rfl
def KW (K:ax)(mg:Str->Option aj):Prop:=∃ a b0 b1 b2:aw,mg "PAIRS"=some (.ref a)/\KT1 K a [.ref b0,.ref b1,.ref b2]/\KT1 K b0 [.int 0,.int 1]/\KT1 K b1 [.int 0,.int 2]/\KT1 K b2 [.int 1,.int 2]
def XI (K:ax)(mg:Str->Option aj):Prop:=∃ a r0 r1 c0 c1 c2 c3 c4 c5:aw,mg "ROUNDS"=some (.ref a)/\KT1 K a [.ref r0,.ref r1]/\KT1 K r0 [.ref c0,.ref c1,.ref c2]/\KT1 K r1 [.ref c3,.ref c4,.ref c5]/\KT1 K c0 [.int 0,.int 1]/\KT1 K c1 [.int 1,.int 2]/\KT1 K c2 [.int 2,.int 0]/\KT1 K c3 [.int 0,.int 2]/\KT1 K c4 [.int 2,.int 1]/\KT1 K c5 [.int 1,.int 0]
variable {tb:TS}
theorem Hf {F f s t n:Nat}{g:TG} (hf:f<n)(hs:s<n)(ht:t<n)(fs:f ≠ s)(ft:f ≠ t)(st:s ≠ t){u v x:V}{D:kl}{σ:L2.St} (hl:σ.length=n)
  (h:Z4 (vL K (qW (qK K (qT F) (tC u)) (qW (qK K (qT F) (tC v)) (qW (qK K (qT F) (tC x)) vF)))) g tb D (setAll [f,s,t] [u,v,x] σ) H) :
  Z4 (vL K (qW (qK K (qT F) (qT f)) (qW (qK K (qT F) (qT s)) (qW (qK K (qT F) (qT t)) vF)))) g tb D (setAll [f,s,t] [u,v,x] σ) H:=by
 have e1:(setAll [f,s,t] [u,v,x] σ)[f]?=some (some u):=by
  show (((σ.set f (some u)).set s (some v)).set t (some x))[f]?=_
  rw [cL (Ne.symm ft),cL (Ne.symm fs),dg (by omega)]
 have e2:(setAll [f,s,t] [u,v,x] σ)[s]?=some (some v):=by
  show (((σ.set f (some u)).set s (some v)).set t (some x))[s]?=_
  rw [cL (Ne.symm st),dg (by rw [aV];omega)]
 have e3:(setAll [f,s,t] [u,v,x] σ)[t]?=some (some x):=by
  show (((σ.set f (some u)).set s (some v)).set t (some x))[t]?=_
  rw [dg (by rw [aV,aV];omega)]
 obtain ⟨x1,q1,a1,b1,kv1,k1,w1,p1,p2,p3,p4,p5,x2,q2,a2,b2,kv2,k2,w2,p6,p7,p8,p9,p10,x3,q3,a3,b3,kv3,k3,w3,p11,p12,p13,p14,p15,h⟩:=h
 exact ⟨x1,q1,u,e1,a1,b1,kv1,k1,w1,p1,p2,p3,p4,p5,x2,q2,v,e2,a2,b2,kv2,k2,w2,p6,p7,p8,p9,p10,x3,q3,x,e3,a3,b3,kv3,k3,w3,p11,p12,p13,p14,p15,h⟩
theorem Mz {ab:AS}{v1 v2 v3:List V}{x1 x2 x3:List (Option AV)}(h1:VOs v1 x1)(h2:VOs v2 x2)(h3:VOs v3 x3)(h:jg tb ab):JA (fun _=>tb) [v1,v2,v3] [(x1,ab),(x2,ab),(x3,ab)]:=.cons h1 h (.cons h2 h (.cons h3 h .nil))
noncomputable def LR:ASp:=fun xs M Q=>∃ (y:AV) (ks:List Int),xs=[y]/\qz y M=some (bp (fun i=>AV.d (.int i)) ks)/\(∀ k ∈ ks,0<=k/\k<3)/\ks.length<=63/\∀ p,M p=none->Q (.ref p) (mup M p (.lst (((xch (cel (srt ks) ks)).map deD).map .d)))
noncomputable abbrev Bu:de:=top 19
theorem Wl:zr ["kinds","found","plan","i","j","one","other","both","first","second","third","a","b","c"] ["kinds"] (zf Bu):=⟨rfl,rfl,rfl,by decide +kernel,rfl,by decide +kernel,by decide +kernel⟩
theorem Hu (a:At K mg "exchanges" Bu)(B:Blt mg)(KP:KW K mg)(KR:XI K mg)(D_places_by_kinds:Df P w K mg base "places_by_kinds" ["kinds"] 2 (cSp I0)):Df P w K mg base "exchanges" ["kinds"] 3 (cSp LR):=by
 refine dfA (k:=2) a Wl (fun _ _ _ _ _ _=>Pn1_ fun _=>rfl) (fun xs M Q h=>?_) (fun f cdv A outer s H E hr=>?_)
 ·obtain ⟨_,_,rfl,_⟩:=h;rfl
 have sc:=Wl
 have hsl:=hsl
 obtain ⟨aP,b0,b1,b2,KG_PAIRS,KA_PAIRS',kb0,kb1,kb2⟩:=KP
 obtain ⟨aR,r0,r1,c0,c1,c2,c3,c4,c5,KG_ROUNDS,KA_ROUNDS',kr0,kr1,kc0,kc1,kc2,kc3,kc4,kc5⟩:=KR
 have KA_PAIRS:KT1 K aP ([b0,b1,b2].map .ref):=KA_PAIRS'
 have KA_ROUNDS:KT1 K aR ([r0,r1].map .ref):=KA_ROUNDS'
 have KB_PAIRS:∀ (j:Nat) (c:aw) vs,[b0,b1,b2][j]?=some c->([[.int 0,.int 1],[.int 0,.int 2],[.int 1,.int 2]]:List (List V))[j]?=some vs->KT1 K c vs:=fun j c vs e1 e2=>by
  match j,e1,e2 with
  | 0,e1,e2=>cases e1;cases e2;exact kb0
  | 1,e1,e2=>cases e1;cases e2;exact kb1
  | 2,e1,e2=>cases e1;cases e2;exact kb2
  | _+3,e1,e2=>simp at e1
 have KB_ROUNDS:∀ (j:Nat) (c:aw) vs,[r0,r1][j]?=some c->([[.ref c0,.ref c1,.ref c2],[.ref c3,.ref c4,.ref c5]]:List (List V))[j]?=some vs->KT1 K c vs:=fun j c vs e1 e2=>by
  match j,e1,e2 with
  | 0,e1,e2=>cases e1;cases e2;exact kr0
  | 1,e1,e2=>cases e1;cases e2;exact kr1
  | _+2,e1,e2=>simp at e1
 have KL_PAIRS:∀ vs ∈ ([[.int 0,.int 1],[.int 0,.int 2],[.int 1,.int 2]]:List (List V)),[3,4].length=vs.length:=fun vs h=>by simp at h;rcases h with rfl | rfl | rfl <;> rfl
 have KL_ROUNDS:∀ vs ∈ ([[.ref c0,.ref c1,.ref c2],[.ref c3,.ref c4,.ref c5]]:List (List V)),[8,9,10].length=vs.length:=fun vs h=>by simp at h;rcases h with rfl | rfl <;> rfl
 have KC_ROUNDS:∀ {g:TG} {tb:TS},∀ vs ∈ ([[.ref c0,.ref c1,.ref c2],[.ref c3,.ref c4,.ref c5]]:List (List V)),∀ (D:kl) (σ:L2.St) (H:Hp),σ.length=14->Z4 (vL K (qW (qK K (qT 1) (tC (vs.getD 0 .non))) (qW (qK K (qT 1) (tC (vs.getD 1 .non))) (qW (qK K (qT 1) (tC (vs.getD 2 .non))) vF)))) g tb D (setAll [8,9,10] vs σ) H ->
   Z4 (vL K (qW (qK K (qT 1) (qT 8)) (qW (qK K (qT 1) (qT 9)) (qW (qK K (qT 1) (qT 10)) vF)))) g tb D (setAll [8,9,10] vs σ) H:=fun vs hv D σ H hl h=>by
  simp at hv
  rcases hv with rfl | rfl
  ·exact Hf (by omega) (by omega) (by omega) (by decide) (by decide) (by decide) hl h
  ·exact Hf (by omega) (by omega) (by omega) (by decide) (by decide) (by decide) hl h
 refine ⟨_,(zd (zy (i:=1) sc.nd rfl (by first | exact bf rfl | exact bg rfl) (zT D_places_by_kinds hr rfl (za (pv 0) zb)))
  (zd (zy (i:=2) sc.nd rfl (by first | exact bf rfl | exact bg rfl) (kJ (zL zb)))
  (zd (BR (b:=fun _=>_) (is:=[3,4]) db rfl rfl KG_PAIRS KA_PAIRS KB_PAIRS rfl KL_PAIRS (zG (zu (i:=3) sc.nd rfl (by first | exact bf rfl | exact bg rfl)) (zG (zu (i:=4) sc.nd rfl (by first | exact bf rfl | exact bg rfl)) qS)) (zd (zy (i:=5) sc.nd rfl (by first | exact bf rfl | exact bg rfl) (kL (kq hr) (pv 1) (zA (za (pv 3) (za (pv 4) zb))) (fun _ _=>rfl)))
  (zd (zy (i:=6) sc.nd rfl (by first | exact bf rfl | exact bg rfl) (kL (kq hr) (pv 1) (zA (za (pv 4) (za (pv 3) zb))) (fun _ _=>rfl)))
  (zd (jW (Yc eP li lj wO (pv 2) (za (qR (ts:=[11,12]) rfl rfl (DU rfl B.zip (za (pv 5) (za (pv 6) zb))) (fun _ _ _ _=>(jo (K:=K) 2 rfl rfl (zG (zu (i:=11) sc.nd rfl (by first | exact bf rfl | exact bg rfl)) (zG (zu (i:=12) sc.nd rfl (by first | exact bf rfl | exact bg rfl)) qS)))) (fun _ _ _ _=>qg) (fun _ _ _ _=>(zA (za zI (za (pv 11) (za (pv 12) zb)))))) zb)))
  (zd (zy (i:=7) sc.nd rfl (by first | exact bf rfl | exact bg rfl) (zm (yK rfl) rfl B.min K8 (za (zm zE rfl B.len qB (za (pv 5) zb)) (za (zm zE rfl B.len qB (za (pv 6) zb)) zb))))
  (zd (YQ (kq hr) (pv 1) (zA (za (pv 3) (za (pv 4) zb))) (zx qb (pv 5) (zz (pv 7)) zF) rfl)
  (zh (YQ (kq hr) (pv 1) (zA (za (pv 4) (za (pv 3) zb))) (zx qb (pv 6) (zz (pv 7)) zF) rfl))))))) (fun _ _ _ _ _ _ h=>h))
  (zd (BR (b:=fun vs=>Z4 (vL K (qW (qK K (qT 1) (tC (vs.getD 0 .non))) (qW (qK K (qT 1) (tC (vs.getD 1 .non))) (qW (qK K (qT 1) (tC (vs.getD 2 .non))) vF)))) _ _) (is:=[8,9,10]) db rfl rfl KG_ROUNDS KA_ROUNDS KB_ROUNDS rfl KL_ROUNDS (zG (zu (i:=8) sc.nd rfl (by first | exact bf rfl | exact bg rfl)) (zG (zu (i:=9) sc.nd rfl (by first | exact bf rfl | exact bg rfl)) (zG (zu (i:=10) sc.nd rfl (by first | exact bf rfl | exact bg rfl)) qS))) (zh (ka db rfl (Fm rfl B.zip (za (vI (kq hr) (pv 1) (pv 8) (fun _ _=>rfl)) (za (vI (kq hr) (pv 1) (pv 9) (fun _ _=>rfl)) (za (vI (kq hr) (pv 1) (pv 10) (fun _ _=>rfl)) zb)))) (jo (K:=K) 3 rfl rfl (zG (zu (i:=11) sc.nd rfl (by first | exact bf rfl | exact bg rfl)) (zG (zu (i:=12) sc.nd rfl (by first | exact bf rfl | exact bg rfl)) (zG (zu (i:=13) sc.nd rfl (by first | exact bf rfl | exact bg rfl)) qS)))) (zh (jW (Yc eP li lj wO (pv 2) (za (zL (za (zA (za zI (za (pv 11) (za (pv 12) zb)))) (za (zA (za zI (za (pv 11) (za (pv 13) zb)))) zb))) zb)))))) KC_ROUNDS)
  (zh (zK (pv 2))))))),?_⟩
 refine ex2 (by
  walk_at "sim"
  ·refine' Yy (Mz (x1:=[some (.d (.int 0)),some (.d (.int 1))]) (x2:=[some (.d (.int 0)),some (.d (.int 2))]) (x3:=[some (.d (.int 1)),some (.d (.int 2))]) (.cons rfl (.cons rfl .nil)) (.cons rfl (.cons rfl .nil)) (.cons rfl (.cons rfl .nil)) _)
   all_goals walk_at "sim"
  ·refine' Yy (.cons (xs:=[none,none,none]) (.cons trivial (.cons trivial (.cons trivial .nil))) (ZX (ZT (jI (jG (ks:=[0,1]) kc0 kF) (jI (jG (ks:=[1,2]) kc1 kF) (jI (jG (ks:=[2,0]) kc2 kF) Z7)))) _ _) (.cons (xs:=[none,none,none]) (.cons trivial (.cons trivial (.cons trivial .nil))) (ZX (ZT (jI (jG (ks:=[0,2]) kc3 kF) (jI (jG (ks:=[2,1]) kc4 kF) (jI (jG (ks:=[1,0]) kc5 kF) Z7)))) _ _) .nil))
   all_goals walk_at "sim") ?_
 rintro xs M Q ⟨y,ks,rfl,hy,hk,hn,q⟩
 rw [show zR ["kinds","found","plan","i","j","one","other","both","first","second","third","a","b","c"] [y]=[some y,none,none,none,none,none,none,none,none,none,none,none,none,none] from rfl]
 refine ze fun r hr0=>?_
 walk_at "ra"
 refine ⟨y,ks,rfl,hy,hk,hn,fun M1 D P hP=>?_⟩
 subst hr0
 refine ze fun r hr0=>?_
 walk_at "ra"
 intro p hp _
 subst hr0
 refine ze fun r hr0=>?_
 have cl:∀ k,(jd (srt ks) ks ks.length k).length<=1000:=fun k=>aZ (eu _ _) (by rw [cK];omega)
 have pD:D ≠ p:=fun z=>by rw [<- z,hP.d] at hp;cases hp
 have h0:XSt M (mup M1 p (.lst [])) D p (fun k=>.ref (P k)) (jd (srt ks) ks ks.length) []:=
  ⟨by rw [zn pD];exact hP.d,fun k hk=>by
   have:P k ≠ p:=fun z=>by rw [<- z,hP.p k hk] at hp;cases hp
   exact qH (by rw [zn this];exact hP.p k hk),zk,fun k hk=>⟨fun z=>hP.pd k hk (AV.ref.inj z),fun z=>by have:=hP.p k hk;rw [AV.ref.inj z,hp] at this;cases this⟩,pD,hP.d0,hP.fr.non hp,hP.fr.mup (hP.fr.non hp) _⟩
 generalize mup M1 p (.lst [])=M2 at h0 ⊢
 have cc:∀ {C:Nat->List Nat} (i j:Nat),(∀ k,(C k).length<=1000)->∀ k,(zt C i j k).length<=1000:=fun i j h k=>by
  unfold zt
  split
  ·rw [bN];have:=h (3 * j+i);omega
  ·split
   ·rw [bN];have:=h (3 * i+j);omega
   ·exact h k
 have pc:∀ {C:Nat->List Nat} (i j:Nat),(∀ k,(C k).length<=1000)->(kT C i j).length<=1000:=fun {C} i j h=>by
  unfold kT;rw [az,cD];have:=h (3 * i+j);omega
 refine ⟨rfl,?_⟩
 refine vD (i:=0) (j:=1) h0 (by omega) (by omega) (by omega) cl (by simp) fun M3 E3 v5 v6 v7 h1=>⟨rfl,?_⟩
 refine vD (i:=0) (j:=2) h1 (by omega) (by omega) (by omega) (cc 0 1 cl) (by have:=pc 0 1 cl;simp;omega) fun M4 E4 v5 v6 v7 h2=>⟨rfl,?_⟩
 refine vD (i:=1) (j:=2) h2 (by omega) (by omega) (by omega) (cc 0 2 (cc 0 1 cl)) (by have:=pc 0 1 cl;have:=pc 0 2 (cc 0 1 cl);simp;omega) fun M5 E5 v5 v6 v7 h3=>?_
 subst hr0
 show WH _ _ _ _ _ _ _
 have hm:=Xm (ks:=ks) (ds:=srt ks) (zZ ks).length_eq.symm (k3 hk) (fun q hq=>k3 (fun k h=>hk k ((zZ ks).mem_iff.mp h)) q (by rw [(zZ ks).length_eq];exact hq)) fun v=>((zZ ks).count_eq v).symm
 obtain ⟨_,z1,z2,z3,z4⟩:=hm
 have hx:=Fw (C:=jd (srt ks) ks ks.length) (D:=cel (srt ks) ks) (fun i j _ hj=>by rw [vJ,show (3 * i+j) / 3=i by omega,show (3 * i+j) % 3=j by omega])
 refine ⟨rfl,?_⟩
 have c3:=cc 1 2 (cc 0 2 (cc 0 1 cl))
 have p3:=pc 0 1 cl
 have p4:=pc 0 2 (cc 0 1 cl)
 have p5:=pc 1 2 (cc 0 2 (cc 0 1 cl))
 refine Yn (f:=0) (s:=1) (t:=2) h3 (by omega) (by omega) (by omega) (by rw [hx.1,hx.2.2.1];exact z1) (by rw [hx.2.2.1,hx.2.2.2.2.1];exact z2) (c3 _) (by simp;omega) fun M6 v11 v12 v13 h4=>⟨rfl,?_⟩
 have r4:(wI (zt (zt (zt (jd (srt ks) ks ks.length) 0 1) 0 2) 1 2) 0 1 2).length<=2000:=BJ (c3 _)
 refine Yn (f:=0) (s:=2) (t:=1) h4 (by omega) (by omega) (by omega) (by rw [hx.2.1,hx.2.2.2.2.2.1];exact z3) (by rw [hx.2.2.2.2.2.1,hx.2.2.2.1];exact z4) (c3 _) (by simp;omega) fun M7 v11 v12 v13 h5=>?_
 dsimp only [WH]
 walk_at "ra"
 have e:=hx.2.2.2.2.2.2
 refine ⟨_,_,F3 h5.fr h5.p0 h5.pp (zS _),?_⟩
 rw [show ([] ++ kT (jd (srt ks) ks ks.length) 0 1 ++ kT (zt (jd (srt ks) ks ks.length) 0 1) 0 2 ++ kT (zt (zt (jd (srt ks) ks ks.length) 0 1) 0 2) 1 2 ++ wI (zt (zt (zt (jd (srt ks) ks ks.length) 0 1) 0 2) 1 2) 0 1 2 ++ wI (zt (zt (zt (jd (srt ks) ks ks.length) 0 1) 0 2) 1 2) 0 2 1)=xch (cel (srt ks) ks) from e]
 exact q p h5.p0
theorem Ge {x:AV} {l:List AV}(h:zY x M=some l)(f:Fr M M'):zY x M'=some l:=by
 rcases yt h with ⟨m,rfl,rfl⟩ | ⟨a,rfl,e⟩
 ·rfl
 ·exact qH ((f a (by rw [e];exact fun z=>nomatch z)).trans e)
structure RwS (M M':MH)(pr:aw)(p:Nat->aw)(c:Nat->Nat->Nat):Prop where
 r:M' pr=some (.lst [.ref (p 0),.ref (p 1),.ref (p 2)])
 e:∀ g,g<3->M' (p g)=some (.lst [nI (c g 0),nI (c g 1),nI (c g 2)])
 ne:∀ g,g<3->p g ≠ pr
 inj:∀ g h,g<3->h<3->p g=p h->g=h
 r0:M pr=none
 p0:∀ g,g<3->M (p g)=none
 fr:Fr M M'
theorem RwS.at_ {M M':MH}{pr:aw}{p:Nat->aw}{c:Nat->Nat->Nat}(h:RwS M M' pr p c){g:Nat}(hg:g<3):qz (.ref pr) M'=some [.ref (p 0),.ref (p 1),.ref (p 2)]/\atI [AV.ref (p 0),.ref (p 1),.ref (p 2)] (g:Int)=some (.ref (p g)):=by
 refine ⟨ql h.r,?_⟩
 match g,hg with
 | 0,_=>rfl
 | 1,_=>rfl
 | 2,_=>rfl
theorem RwS.cell {M M':MH}{pr:aw}{p:Nat->aw}{c:Nat->Nat->Nat}(h:RwS M M' pr p c){g k:Nat}(hg:g<3)(hk:k<3):qz (.ref (p g)) M'=some [nI (c g 0),nI (c g 1),nI (c g 2)]/\atI [nI (c g 0),nI (c g 1),nI (c g 2)] (k:Int)=some (nI (c g k)):=by
 refine ⟨ql (h.e g hg),?_⟩
 match k,hk with
 | 0,_=>rfl
 | 1,_=>rfl
 | 2,_=>rfl
theorem RwS.up {pr:aw}{p:Nat->aw}{c c':Nat->Nat->Nat}(h:RwS M M' pr p c){g k:Nat}(hg:g<3)(hk:k<3) (hv:v=(c' g k:Int))(ho:∀ a b,a<3->b<3->¬ (a=g/\b=k)->c' a b=c a b) :
  ixN [nI (c g 0),nI (c g 1),nI (c g 2)].length (k:Int)=some k/\RwS M (mup M' (p g) (.lst ([nI (c g 0),nI (c g 1),nI (c g 2)].set k (.d (.int v))))) pr p c':=by
 refine ⟨by rw [jL (by omega) (by simp only [aN,bV];omega),bQ],by rw [zn (Ne.symm (h.ne g hg))];exact h.r,fun a ha=>?_,h.ne,h.inj,h.r0,h.p0,h.fr.mup (h.p0 g hg) _⟩
 by_cases c1:a=g
 ·subst c1
  rw [zk,hv]
  match k,hk,ho with
  | 0,_,ho=>rw [ho a 1 ha (by omega) (by omega),ho a 2 ha (by omega) (by omega)];rfl
  | 1,_,ho=>rw [ho a 0 ha (by omega) (by omega),ho a 2 ha (by omega) (by omega)];rfl
  | 2,_,ho=>rw [ho a 0 ha (by omega) (by omega),ho a 1 ha (by omega) (by omega)];rfl
 ·rw [zn (fun z=>c1 (h.inj a g ha hg z)),ho a 0 ha (by omega) (fun z=>c1 z.1),ho a 1 ha (by omega) (fun z=>c1 z.1),ho a 2 ha (by omega) (fun z=>c1 z.1)];exact h.e a ha
noncomputable def ln3 (C:Int->Int->List Nat):Int:=((min (C 0 1).length (C 1 0).length:Nat):Int)+((min (C 0 2).length (C 2 0).length:Nat):Int)+((min (C 1 2).length (C 2 1).length:Nat):Int)
noncomputable def QL (C:Int->Int->List Nat):Int:=ln3 C+(((C 0 1).length:Int)+(C 0 2).length+(C 1 0).length+(C 1 2).length+(C 2 0).length+(C 2 1).length - 2 * ln3 C) / 3 * 2
noncomputable def awT (C:Int->Int->List Nat):Nat->Int
 | 0=>0
 | i+1=>awT C i+(((C i 0).length:Int)+(C i 1).length+(C i 2).length) - (C i i).length
noncomputable def LA:ASp:=fun xs M Q=>∃ (y:AV) (ks:List Int),xs=[y]/\zY y M=some (bp (fun i=>AV.d (.int i)) ks)/\(∀ k ∈ ks,0<=k/\k<3)/\ks.length<=63/\Q (.d (.int (QL (cel (srt ks) ks)))) M
noncomputable abbrev KJ:de:=top 27
theorem YN:zr ["_law_kinds_here","_law_due_here","_law_rows","_law_twos","_law_away","_law_i","_law_kind","_law_goal","_law_j"] ["_law_kinds_here"] (zf KJ):=⟨rfl,rfl,rfl,by decide +kernel,rfl,by decide +kernel,by decide +kernel⟩
theorem Gg (a:At K mg "_law_fewest" KJ)(B:Blt mg)(Bsum:mg "sum"=none):Df P w K mg base "_law_fewest" ["_law_kinds_here"] 1 (cSp LA):=by
  refine dfA (k:=0) a YN (fun _ _ _ _ _ _=>Pn1_ fun _=>rfl) (fun xs M Q h=>?_) (fun f cdv A outer s H E hr=>?_)
  · obtain ⟨_,_,rfl,_⟩:=h;rfl
  have sc:=YN
  have hsl:=hsl
  refine' ⟨_,?q0,?qr⟩
  (case q0=>
    refine' zd ?q1 ?q2
    (case q1=>exact (zy (i:=1) sc.nd rfl (by first | exact bf rfl | exact bg rfl) (zm qx rfl B.sorted jF (za (pv 0) zb))))
    (case q2=>
      refine' zd ?q3 ?q4
      (case q3=>
        refine' zy (i:=2) ?q5 ?q6 ?q7 ?q8
        (case q5=>exact sc.nd)
        (case q6=>exact rfl)
        (case q7=>exact (by first | exact bf rfl | exact bg rfl))
        (case q8=>
          refine' kJ ?q9
          (case q9=>
            refine' zL ?q10
            (case q10=>
              refine' za ?q11 ?q12
              (case q11=>exact (kJ (zL (za zc (za zc (za zc zb))))))
              (case q12=>
                refine' za ?q13 ?q14
                (case q13=>exact (kJ (zL (za zc (za zc (za zc zb))))))
                (case q14=>
                  refine' za ?q15 ?q16
                  (case q15=>exact (kJ (zL (za zc (za zc (za zc zb))))))
                  (case q16=>exact zb)))))))
      (case q4=>
        refine' zd ?q17 ?q18
        (case q17=>exact (ka db rfl (DU rfl B.zip (za (pv 0) (za (pv 1) zb))) (jo (K:=K) 2 rfl rfl (zG (zu (i:=6) sc.nd rfl (by first | exact bf rfl | exact bg rfl)) (zG (zu (i:=7) sc.nd rfl (by first | exact bf rfl | exact bg rfl)) qS))) (zh (jN (zp qa (zB zV (zB zV (pv 2) (pv 7) (fun _ _=>rfl)) (pv 6) (fun _ _=>rfl)) zc) (ju (zB zV (pv 2) (pv 7) (fun _ _=>rfl)) (pv 6) zW)))))
        (case q18=>
          refine' zd ?q19 ?q20
          (case q19=>
            refine' zy (i:=3) ?q21 ?q22 ?q23 ?q24
            (case q21=>exact sc.nd)
            (case q22=>exact rfl)
            (case q23=>exact (by first | exact bf rfl | exact bg rfl))
            (case q24=>
              refine' zm ?q25 ?q26 ?q27 ?q28 ?q29
              (case q25=>exact (yx rfl))
              (case q26=>exact rfl)
              (case q27=>exact Bsum)
              (case q28=>exact Ka)
              (case q29=>
                refine' za ?q30 ?q31
                (case q30=>
                  refine' qR (ts:=[5,8]) ?q32 ?q33 ?q34 ?q35 ?q36 ?q37
                  (case q32=>exact rfl)
                  (case q33=>exact rfl)
                  (case q34=>
                    refine' xu ?q38
                    (case q38=>
                      refine' zA ?q39
                      (case q39=>
                        refine' za ?q40 ?q41
                        (case q40=>exact (zA (za zc (za zc zb))))
                        (case q41=>
                          refine' za ?q42 ?q43
                          (case q42=>exact (zA (za zc (za zc zb))))
                          (case q43=>
                            refine' za ?q44 ?q45
                            (case q44=>exact (zA (za zc (za zc zb))))
                            (case q45=>exact zb))))))
                  (case q35=>exact (fun _ _ _ _=>(jo (K:=K) 2 rfl rfl (zG (zu (i:=5) sc.nd rfl (by first | exact bf rfl | exact bg rfl)) (zG (zu (i:=8) sc.nd rfl (by first | exact bf rfl | exact bg rfl)) qS)))))
                  (case q36=>exact (fun _ _ _ _=>qg))
                  (case q37=>exact (fun _ _ _ _=>(zm (yK rfl) rfl B.min K8 (za (zB (jK (K:=K) rfl) (zB (jK (K:=K) rfl) (pv 2) (pv 5) (fun _ _=>rfl)) (pv 8) (fun _ _=>rfl)) (za (zB (jK (K:=K) rfl) (zB (jK (K:=K) rfl) (pv 2) (pv 8) (fun _ _=>rfl)) (pv 5) (fun _ _=>rfl)) zb))))))
                (case q31=>exact zb))))
          (case q20=>exact (zd (zy (i:=4) sc.nd rfl (by first | exact bf rfl | exact bg rfl) zc) (zd (ka db rfl (qL rfl B.range (za zc zb)) (zu (i:=5) sc.nd rfl (by first | exact bf rfl | exact bg rfl)) (zh (zy (i:=4) sc.nd rfl (by first | exact bf rfl | exact bg rfl) (zp ZR (zp qa (pv 4) (zm (yx rfl) rfl Bsum Ka (za (zB zV (pv 2) (pv 5) (fun _ _=>rfl)) zb))) (zB zV (zB zV (pv 2) (pv 5) (fun _ _=>rfl)) (pv 5) (fun _ _=>rfl)))))) (zh (zK (zp qa (pv 3) (zp jS (zp YF (zp ZR (pv 4) (zp jS zc (pv 3))) zc) zc)))))))))))
  refine ex2 (by walk_at "sim") ?_
  rintro xs M Q ⟨y,ks,rfl,hy,hk,hn,q⟩
  rw [show zR ["_law_kinds_here","_law_due_here","_law_rows","_law_twos","_law_away","_law_i","_law_kind","_law_goal","_law_j"] [y]=[some y,none,none,none,none,none,none,none,none] from rfl]
  refine ze fun r hr0=>?_
  walk_at "ra"
  refine ⟨ks,ZS hy,hn,fun ns' pm pw=>?_⟩
  have es:=ZH pm pw
  subst es
  subst hr0
  refine ze fun r hr0=>?_
  walk_at "ra"
  refine ⟨by omega,fun p0 n0 _=>⟨by omega,fun p1 n1 _=>⟨by omega,fun p2 n2 _=>⟨by omega,fun pr nr0 nr=>?_⟩⟩⟩⟩
  have sl:(srt ks).length=ks.length:=(zZ ks).length_eq
  have s3:∀ k ∈ srt ks,0<=k/\k<3:=fun k h=>hk k ((zZ ks).mem_iff.mp h)
  have h0:∃ p,RwS M (mup (mup (mup (mup M p0 (.lst [nI 0,nI 0,nI 0])) p1 (.lst [nI 0,nI 0,nI 0])) p2 (.lst [nI 0,nI 0,nI 0])) pr (.lst [.ref p0,.ref p1,.ref p2])) pr p fun g k=>(jd (srt ks) ks 0 (3 * g+k)).length:=by
    have a10:p1 ≠ p0:=fun z=>by rw [z,zk] at n1;cases n1
    rw [zn a10] at n1
    have a21:p2 ≠ p1:=fun z=>by rw [z,zk] at n2;cases n2
    rw [zn a21] at n2
    have a20:p2 ≠ p0:=fun z=>by rw [z,zk] at n2;cases n2
    rw [zn a20] at n2
    have b2:pr ≠ p2:=fun z=>by rw [z,zk] at nr;cases nr
    rw [zn b2] at nr
    have b1:pr ≠ p1:=fun z=>by rw [z,zk] at nr;cases nr
    rw [zn b1] at nr
    have b0:pr ≠ p0:=fun z=>by rw [z,zk] at nr;cases nr
    rw [zn b0] at nr
    refine ⟨fun g=>if g=0 then p0 else if g=1 then p1 else p2,⟨zk,fun g hg=>?_,fun g hg=>?_,fun g h hg hh e=>?_,nr,fun g hg=>?_,(((Fr.refl.mup n0 _).mup n1 _).mup n2 _).mup nr _⟩⟩
    · match g,hg with
      | 0,_=>show mup _ _ _ p0=_;rw [zn (Ne.symm b0),zn (Ne.symm a20),zn (Ne.symm a10),zk];rfl
      | 1,_=>show mup _ _ _ p1=_;rw [zn (Ne.symm b1),zn (Ne.symm a21),zk];rfl
      | 2,_=>show mup _ _ _ p2=_;rw [zn (Ne.symm b2),zk];rfl
    · match g,hg with
      | 0,_=>exact Ne.symm b0
      | 1,_=>exact Ne.symm b1
      | 2,_=>exact Ne.symm b2
    · match g,hg,h,hh,e with
      | 0,_,0,_,_=>rfl
      | 0,_,1,_,e=>exact absurd e (Ne.symm a10)
      | 0,_,2,_,e=>exact absurd e (Ne.symm a20)
      | 1,_,0,_,e=>exact absurd e a10
      | 1,_,1,_,_=>rfl
      | 1,_,2,_,e=>exact absurd e (Ne.symm a21)
      | 2,_,0,_,e=>exact absurd e a20
      | 2,_,1,_,e=>exact absurd e a21
      | 2,_,2,_,_=>rfl
    · match g,hg with
      | 0,_=>exact n0
      | 1,_=>exact n1
      | 2,_=>exact n2
  obtain ⟨p,h0⟩:=h0
  generalize hM2:mup (mup (mup (mup M p0 (.lst [AV.d (.int 0),AV.d (.int 0),AV.d (.int 0)])) p1 (.lst [AV.d (.int 0),AV.d (.int 0),AV.d (.int 0)])) p2 (.lst [AV.d (.int 0),AV.d (.int 0),AV.d (.int 0)])) pr (.lst [.ref p0,.ref p1,.ref p2])=M2
  have h0:RwS M M2 pr p fun g k=>(jd (srt ks) ks 0 (3 * g+k)).length:=by rw [<- hM2];exact h0
  have ly:∀ {M3:MH} {c:Nat->Nat->Nat},RwS M M3 pr p c->zY y M3=some ((ks.map Dat.int).map AV.d):=fun h=>by rw [kB];exact Ge hy h.fr
  clear hM2 n0 n1 n2 nr nr0
  subst hr0
  refine ze fun r hr0=>?_
  walk_at "ra"
  refine ⟨_,ly h0,_,ks.map .int,zS _,rfl,(srt ks).map .int,qO _,?_⟩
  refine ⟨fun i ρ M'=>i<=ks.length/\∃ u v,ρ=[some y,some (.d (.lst ((srt ks).map .int))),some (.ref pr),none,none,none,u,v,none]/\RwS M M' pr p fun g k=>(jd (srt ks) ks i (3 * g+k)).length,⟨ci _,_,_,rfl,h0⟩,?_,?_⟩
  · rintro i x ρ M' hx ⟨hi,u,v,rfl,hP⟩
    obtain ⟨d,e,hd,he,rfl⟩:=Q8 hx
    rw [aD] at hd he
    obtain ⟨h,hh,rfl⟩:=bM.mp hd
    obtain ⟨g,hg,rfl⟩:=bM.mp he
    have hil:i<ks.length:=(aF.mp hh).1
    have g3:=s3 g (bJ hg)
    have h3:=hk h (bJ hh)
    obtain ⟨a,rfl⟩:∃ a:Nat,g=a:=⟨g.toNat,by omega⟩
    obtain ⟨b,rfl⟩:∃ b:Nat,h=b:=⟨h.toNat,by omega⟩
    have eg:(srt ks).getD i 0=(a:Int):=by rw [aq,hg];rfl
    have eh:ks.getD i 0=(b:Int):=by rw [aq,hh];rfl
    have st:=fun k=>Zs (srt ks) ks i k eg eh (by omega) (by omega)
    obtain ⟨u1,u2⟩:=hP.up (g:=a) (k:=b) (c':=fun g k=>(jd (srt ks) ks (i+1) (3 * g+k)).length) (v:=((jd (srt ks) ks i (3 * a+b)).length:Int)+1) (by omega) (by omega) (by rw [st,if_pos rfl,bc];simp) (fun x y hx hy z=>by show (jd (srt ks) ks (i+1) (3 * x+y)).length=_;rw [st,if_neg (by omega)])
    refine ⟨⟨ly hP,rfl⟩,?_⟩
    walk_at "ra"
    have c1:=hP.at_ (g:=a) (by omega)
    have c2:=hP.cell (g:=a) (k:=b) (by omega) (by omega)
    exact ⟨_,c1.1,_,c1.2,_,c2.1,_,c2.2,_,rfl,_,c1.1,_,c1.2,_,rfl,_,hP.e a (by omega),_,u1,hil,u2⟩
  · rintro ρ M1 ⟨_,u,v,rfl,hP⟩
    refine ⟨⟨ly hP,rfl⟩,?_⟩
    rw [wB,az,az,sl,nU] at hP
    subst hr0
    dsimp only
    have cE:∀ g k:Nat,g<3->k<3->(jd (srt ks) ks ks.length (3 * g+k)).length=(cel (srt ks) ks (g:Int) (k:Int)).length:=fun g k hg hk=>by rw [vJ,show (3 * g+k) / 3=g by omega,show (3 * g+k) % 3=k by omega]
    refine ze fun r hr0=>?_
    walk_at "ra"
    refine ⟨by omega,by omega,by omega,by omega,?_⟩
    refine jC (fun o:Option AV × Option AV=>[some y,some (.d (.lst ((srt ks).map .int))),some (.ref pr),none,none,o.1,u,v,o.2]) (fun z:Nat × Nat=>AV.d (.tup [nD z.1,nD z.2])) (fun z=>nI (min (cel (srt ks) ks z.1 z.2).length (cel (srt ks) ks z.2 z.1).length)) [(0,1),(0,2),(1,2)] ⟨(none,none),rfl⟩ trivial (by simp) (fun o z Q hz q=>?_) fun o=>?_
    · have z3 : z.1 < 3 /\ z.2 < 3 := by
        simp only [aE,aT,or_false] at hz
        rcases hz with rfl | rfl | rfl <;> exact ⟨by decide,by decide⟩
      walk_at "ra"
      have c1:=hP.at_ z3.1
      have c2:=hP.cell z3.1 z3.2
      have c3:=hP.at_ z3.2
      have c4:=hP.cell z3.2 z3.1
      refine ⟨_,c1.1,_,c1.2,_,c2.1,_,c2.2,_,c3.1,_,c3.2,_,c4.1,_,c4.2,_,rfl,_,rfl,?_⟩
      have:=q (some (.d (.int z.1)),some (.d (.int z.2)))
      rw [cE _ _ z3.1 z3.2,cE _ _ z3.2 z3.1,show (if ((cel (srt ks) ks z.2 z.1).length:Int)<((cel (srt ks) ks z.1 z.2).length:Int) then ((cel (srt ks) ks z.2 z.1).length:Int) else ((cel (srt ks) ks z.1 z.2).length:Int))=((min (cel (srt ks) ks z.1 z.2).length (cel (srt ks) ks z.2 z.1).length:Nat):Int) by split <;> omega]
      exact this
    have cb:∀ g k:Int,(cel (srt ks) ks g k).length<=1000:=fun g k=>aZ (eu _ _) (by rw [cK];omega)
    have b01:=cb 0 1
    have b02:=cb 0 2
    have b12:=cb 1 2
    refine ⟨_,rfl,[((min (cel (srt ks) ks 0 1).length (cel (srt ks) ks 1 0).length:Nat):Int),((min (cel (srt ks) ks 0 2).length (cel (srt ks) ks 2 0).length:Nat):Int),((min (cel (srt ks) ks 1 2).length (cel (srt ks) ks 2 1).length:Nat):Int)],rfl,fun x hx=>?_,by simp,?_⟩
    · simp only [aE,aT,or_false] at hx
      rcases hx with rfl | rfl | rfl <;> omega
    have e3:[((min (cel (srt ks) ks 0 1).length (cel (srt ks) ks 1 0).length:Nat):Int),((min (cel (srt ks) ks 0 2).length (cel (srt ks) ks 2 0).length:Nat):Int),((min (cel (srt ks) ks 1 2).length (cel (srt ks) ks 2 1).length:Nat):Int)].sum=ln3 (cel (srt ks) ks):=by
      simp only [gU,nZ];unfold ln3;omega
    rw [e3]
    subst hr0
    refine ze fun r hr0=>?_
    walk_at "ra"
    subst hr0
    refine ze fun r hr0=>?_
    walk_at "ra"
    refine ⟨by omega,by omega,?_⟩
    refine ⟨fun i ρ M'=>M1=M'/\i<=3/\∃ u5,ρ=[some y,some (.d (.lst ((srt ks).map .int))),some (.ref pr),some (.d (.int (ln3 (cel (srt ks) ks)))),some (.d (.int (awT (cel (srt ks) ks) i))),u5,u,v,none],⟨rfl,by omega,_,rfl⟩,?_,?_⟩
    · rintro i x ρ M' hx ⟨rfl,hi,u5,rfl⟩
      obtain ⟨hi3,rfl⟩:=jJ hx
      have hi3:i<3:=hi3
      refine ⟨trivial,?_⟩
      rw [ie,gr]
      walk_at "ra"
      have c1:=hP.at_ hi3
      have c2:=hP.cell hi3 hi3
      refine ⟨_,c1.1,_,c1.2,[((cel (srt ks) ks i 0).length:Int),((cel (srt ks) ks i 1).length:Int),((cel (srt ks) ks i 2).length:Int)],?_,fun x hx=>?_,by simp,?_⟩
      · rw [qH (hP.e i hi3),cE i 0 hi3 (by omega),cE i 1 hi3 (by omega),cE i 2 hi3 (by omega)];rfl
      · simp only [aE,aT,or_false] at hx
        have:=cb i 0
        have:=cb i 1
        have:=cb i 2
        rcases hx with rfl | rfl | rfl <;> omega
      · refine ⟨_,c1.1,_,c1.2,_,c2.1,_,c2.2,_,rfl,by omega,?_,_,rfl⟩
        rw [cE i i hi3 hi3]
        simp only [gU,nZ,awT]
        omega
    · rintro ρ M' ⟨rfl,_,u5,rfl⟩
      refine ⟨trivial,?_⟩
      dsimp only
      subst hr0
      walk_at "ra"
      refine ⟨Xj (by omega) (by omega),Yl (by omega) (by omega),Xk (by omega) (by omega),?_⟩
      refine ⟨_,_,qP hP.fr _,?_⟩
      have ea:awT (cel (srt ks) ks) 3=((cel (srt ks) ks 0 1).length:Int)+(cel (srt ks) ks 0 2).length+(cel (srt ks) ks 1 0).length+(cel (srt ks) ks 1 2).length+(cel (srt ks) ks 2 0).length+(cel (srt ks) ks 2 1).length:=by
        show 0+(((cel (srt ks) ks 0 0).length:Int)+(cel (srt ks) ks 0 1).length+(cel (srt ks) ks 0 2).length) - (cel (srt ks) ks 0 0).length+(((cel (srt ks) ks 1 0).length:Int)+(cel (srt ks) ks 1 1).length+(cel (srt ks) ks 1 2).length) - (cel (srt ks) ks 1 1).length+(((cel (srt ks) ks 2 0).length:Int)+(cel (srt ks) ks 2 1).length+(cel (srt ks) ks 2 2).length) - (cel (srt ks) ks 2 2).length=_
        omega
      rw [kz,show Int.toNat 3=3 from rfl,ea]
      exact q
theorem BP {n01 n10 n02 n20 n12 n21 m1 m2 m3 a b c d e f:Nat}(h1:n01=m1+a)(h2:n10=m1+b)(h3:n02=m2+c)(h4:n20=m2+d)(h5:n12=m3+e)(h6:n21=m3+f)(z1:a=e)(z2:e=d)(z3:c=f)(z4:f=b)(h0:a=0 \/ b=0) :
  (m1:Int)+(m2:Int)+(m3:Int)+2 * (if (n01:Int) - n10<0 then -((n01:Int) - n10) else (n01:Int) - n10)=(m1:Int)+(m2:Int)+(m3:Int)+((n01:Int)+n02+n10+n12+n20+n21 - 2 * ((m1:Int)+(m2:Int)+(m3:Int))) / 3 * 2:=by
 subst h1 h2 h3 h4 h5 h6 z1 z2 z3 z4
 rcases h0 with h0 | h0 <;> split <;> omega
theorem HI (hk:∀ k ∈ ks,0<=k/\k<3):ln3 (cel (srt ks) ks)+2 * (if ((cel (srt ks) ks 0 1).length:Int) - ((cel (srt ks) ks 1 0).length:Int)<0 then -(((cel (srt ks) ks 0 1).length:Int) - ((cel (srt ks) ks 1 0).length:Int)) else ((cel (srt ks) ks 0 1).length:Int) - ((cel (srt ks) ks 1 0).length:Int))=QL (cel (srt ks) ks):=by
 have hm:=Xm (ks:=ks) (ds:=srt ks) (zZ ks).length_eq.symm (k3 hk) (fun q hq=>k3 (fun k h=>hk k ((zZ ks).mem_iff.mp h)) q (by rw [(zZ ks).length_eq];exact hq)) fun v=>((zZ ks).count_eq v).symm
 obtain ⟨_,z1,z2,z3,z4⟩:=hm
 unfold QL ln3
 exact BP (JQ (cel (srt ks) ks) 0 1) (Zv (cel (srt ks) ks) 0 1) (JQ (cel (srt ks) ks) 0 2) (Zv (cel (srt ks) ks) 0 2) (JQ (cel (srt ks) ks) 1 2) (Zv (cel (srt ks) ks) 1 2) z1 z2 z3 z4 (FM (cel (srt ks) ks) 0 1)
noncomputable def aFE:ASp:=fun xs M Q=>∃ (y:AV) (ks:List Int),xs=[y]/\qz y M=some (bp (fun i=>AV.d (.int i)) ks)/\(∀ k ∈ ks,0<=k/\k<3)/\ks.length<=63/\Q (.d (.int (QL (cel (srt ks) ks)))) M
noncomputable abbrev DL:de:=top 18
theorem BH:zr ["kinds","found","swaps","rounds","i","j"] ["kinds"] (zf DL):=⟨rfl,rfl,rfl,by decide +kernel,rfl,by decide +kernel,by decide +kernel⟩
theorem LF (a:At K mg "fewest_exchanges" DL)(B:Blt mg)(Bsum:mg "sum"=none)(KP:KW K mg)(D_places_by_kinds:Df P w K mg base "places_by_kinds" ["kinds"] 2 (cSp I0)):Df P w K mg base "fewest_exchanges" ["kinds"] 3 (cSp aFE):=by
 refine dfA (k:=2) a BH (fun _ _ _ _ _ _=>Pn1_ fun _=>rfl) (fun xs M Q h=>?_) (fun f cdv A outer s H E hr=>?_)
 ·obtain ⟨_,_,rfl,_⟩:=h;rfl
 have sc:=BH
 have hsl:=hsl
 obtain ⟨aP,b0,b1,b2,KG_PAIRS,KA_PAIRS',kb0,kb1,kb2⟩:=KP
 have KA_PAIRS:KT1 K aP ([b0,b1,b2].map .ref):=KA_PAIRS'
 have KB_PAIRS:∀ (j:Nat) (c:aw) vs,[b0,b1,b2][j]?=some c->([[.int 0,.int 1],[.int 0,.int 2],[.int 1,.int 2]]:List (List V))[j]?=some vs->KT1 K c vs:=fun j c vs e1 e2=>by
  match j,e1,e2 with
  | 0,e1,e2=>cases e1;cases e2;exact kb0
  | 1,e1,e2=>cases e1;cases e2;exact kb1
  | 2,e1,e2=>cases e1;cases e2;exact kb2
  | _+3,e1,e2=>simp at e1
 have KL_PAIRS:∀ vs ∈ ([[.int 0,.int 1],[.int 0,.int 2],[.int 1,.int 2]]:List (List V)),[4,5].length=vs.length:=fun vs h=>by simp at h;rcases h with rfl | rfl | rfl <;> rfl
 refine ⟨_,(zd (zy (i:=1) sc.nd rfl (by first | exact bf rfl | exact bg rfl) (zT D_places_by_kinds hr rfl (za (pv 0) zb)))
  (zd (zy (i:=2) sc.nd rfl (by first | exact bf rfl | exact bg rfl) (zm (yx rfl) rfl Bsum Ka (za (Fh (ts:=[4,5]) (is:=[4,5]) (K:=K) rfl rfl rfl rfl KG_PAIRS KA_PAIRS KB_PAIRS rfl KL_PAIRS (fun _ _ _ _=>(jo (K:=K) 2 rfl rfl (zG (zu (i:=4) sc.nd rfl (by first | exact bf rfl | exact bg rfl)) (zG (zu (i:=5) sc.nd rfl (by first | exact bf rfl | exact bg rfl)) qS)))) (fun _ _ _ _=>(zm (yK rfl) rfl B.min K8 (za (zm (j4 (K:=K) rfl) rfl B.len qB (za (kL (kq hr) (pv 1) (zA (za (pv 4) (za (pv 5) zb))) (fun _ _=>rfl)) zb)) (za (zm (j4 (K:=K) rfl) rfl B.len qB (za (kL (kq hr) (pv 1) (zA (za (pv 5) (za (pv 4) zb))) (fun _ _=>rfl)) zb)) zb))))) zb)))
  (zd (zy (i:=3) sc.nd rfl (by first | exact bf rfl | exact bg rfl) (zm vN rfl B.abs J8 (za (zp ZR (zm zE rfl B.len qB (za (kL (kq hr) (pv 1) (zA (za zc (za zc zb))) (fun _ _=>rfl)) zb)) (zm zE rfl B.len qB (za (kL (kq hr) (pv 1) (zA (za zc (za zc zb))) (fun _ _=>rfl)) zb))) zb)))
  (zh (zK (zp qa (pv 2) (zp jS zc (pv 3)))))))),?_⟩
 refine ex2 (by
  walk_at "sim"
  ·refine' Xd (xss:=[[some (.d (.int 0)),some (.d (.int 1))],[some (.d (.int 0)),some (.d (.int 2))],[some (.d (.int 1)),some (.d (.int 2))]]) (.cons (.cons rfl (.cons rfl .nil)) (.cons (.cons rfl (.cons rfl .nil)) (.cons (.cons rfl (.cons rfl .nil)) .nil))) _
   all_goals walk_at "sim") ?_
 rintro xs M Q ⟨y,ks,rfl,hy,hk,hn,q⟩
 rw [show zR ["kinds","found","swaps","rounds","i","j"] [y]=[some y,none,none,none,none,none] from rfl]
 refine ze fun r hr0=>?_
 walk_at "ra"
 refine ⟨y,ks,rfl,hy,hk,hn,fun M1 D P hP=>?_⟩
 subst hr0
 refine ze fun r hr0=>?_
 walk_at "ra"
 unfold Bs yV yV yV yV
 dsimp only [JZ,Zd,List.set_cons_zero,List.set_cons_succ]
 walk_at "ra"
 have lk:∀ i j:Nat,i<3->j<3->kM (kvN 9 fun k=>.ref (P k)) (ikT [(i:Int),(j:Int)])=some (.ref (P (3 * i+j))):=fun i j hi hj=>by rw [w8 hj];exact kY (by omega)
 have sq:∀ i j:Nat,i<3->j<3->qz (.ref (P (3 * i+j))) M1=some ((cel (srt ks) ks (i:Int) (j:Int)).map nI):=fun i j hi hj=>by
  have:=hP.p (3 * i+j) (by omega)
  rw [vJ,show (3 * i+j) / 3=i by omega,show (3 * i+j) % 3=j by omega] at this
  exact ql this
 have cb:∀ g k:Int,(cel (srt ks) ks g k).length<=1000:=fun g k=>aZ (eu _ _) (by rw [cK];omega)
 refine ⟨rfl,by omega,_,hP.d,[0,1],rfl,_,lk 0 1 (by omega) (by omega),_,sq 0 1 (by omega) (by omega),by omega,_,hP.d,[1,0],rfl,_,lk 1 0 (by omega) (by omega),_,sq 1 0 (by omega) (by omega),by omega,rfl,by omega,_,hP.d,[0,2],rfl,_,lk 0 2 (by omega) (by omega),_,sq 0 2 (by omega) (by omega),by omega,_,hP.d,[2,0],rfl,_,lk 2 0 (by omega) (by omega),_,sq 2 0 (by omega) (by omega),by omega,rfl,by omega,_,hP.d,[1,2],rfl,_,lk 1 2 (by omega) (by omega),_,sq 1 2 (by omega) (by omega),by omega,_,hP.d,[2,1],rfl,_,lk 2 1 (by omega) (by omega),_,sq 2 1 (by omega) (by omega),by omega,?_⟩
 have mn:∀ i j:Int,(if ((cel (srt ks) ks j i).length:Int)<((cel (srt ks) ks i j).length:Int) then ((cel (srt ks) ks j i).length:Int) else ((cel (srt ks) ks i j).length:Int))=((min (cel (srt ks) ks i j).length (cel (srt ks) ks j i).length:Nat):Int):=fun i j=>by split <;> omega
 simp only [az,mn]
 have b1:=cb 0 1
 have b2:=cb 0 2
 have b3:=cb 1 2
 refine ⟨[((min (cel (srt ks) ks 0 1).length (cel (srt ks) ks 1 0).length:Nat):Int),((min (cel (srt ks) ks 0 2).length (cel (srt ks) ks 2 0).length:Nat):Int),((min (cel (srt ks) ks 1 2).length (cel (srt ks) ks 2 1).length:Nat):Int)],rfl,fun x hx=>?_,by simp,?_⟩
 ·simp only [aE,aT,or_false] at hx
  rcases hx with rfl | rfl | rfl <;> omega
 rw [show [((min (cel (srt ks) ks 0 1).length (cel (srt ks) ks 1 0).length:Nat):Int),((min (cel (srt ks) ks 0 2).length (cel (srt ks) ks 2 0).length:Nat):Int),((min (cel (srt ks) ks 1 2).length (cel (srt ks) ks 2 1).length:Nat):Int)].sum=ln3 (cel (srt ks) ks) by simp only [gU,nZ];unfold ln3;omega]
 subst hr0
 refine ze fun r hr0=>?_
 walk_at "ra"
 refine ⟨by omega,_,hP.d,[0,1],rfl,_,lk 0 1 (by omega) (by omega),_,sq 0 1 (by omega) (by omega),by omega,_,hP.d,[1,0],rfl,_,lk 1 0 (by omega) (by omega),_,sq 1 0 (by omega) (by omega),?_⟩
 subst hr0
 walk_at "ra"
 refine ⟨Xj (by omega) (by omega),_,_,qP hP.fr _,?_⟩
 have e:=HI hk
 rw [<- e] at q
 exact q
noncomputable def Hg:ASp:=fun xs M Q=>∃ (y:Dat) (ks:List Int),xs=[.d y]/\(y=.lst (ks.map .int) \/ y=.tup (ks.map .int))/\(∀ k ∈ ks,0<=k/\k<3)/\ks.length<=63/\Q (.d (.bl true)) M
noncomputable abbrev J9:de:=top 20
theorem XE:zr ["thing","kind"] ["thing"] (zf J9):=⟨rfl,rfl,rfl,by decide +kernel,rfl,by decide +kernel,by decide +kernel⟩
theorem Eu (a:At K mg "are_kinds" J9)(B:Blt mg)(Ball:mg "all"=none)(D_is_place:Df P w K mg base "is_place" ["thing","n"] 1 (cSp wD)):Df P w K mg base "are_kinds" ["thing"] 2 (cSp Hg):=by
 refine dfA (k:=1) a XE (fun _ _ _ _ _ _=>Pn1_ fun _=>rfl) (fun xs M Q h=>?_) (fun f cdv A outer s H E hr=>?_)
 ·obtain ⟨_,_,rfl,_⟩:=h;rfl
 have sc:=XE
 have hsl:=hsl
 refine ⟨_,(zh (zK (Ku (zm yC rfl B.isinstance zN (za (pv 0) (za (zA (za (qt (v:=.ty "list") rfl B.list jV rfl) (za (qt (v:=.ty "tuple") rfl B.tuple qJ rfl) zb))) zb))) (WI (zm (yH rfl) rfl Ball K0 (za (qR (ts:=[1]) rfl rfl (xu (pv 0)) (fun _ _ _ _=>(zu (i:=1) sc.nd rfl (by first | exact bf rfl | exact bg rfl))) (fun _ _ _ _=>qg) (fun _ _ _ _=>(zT D_is_place hr rfl (za (pv 1) (za zc zb))))) zb)))))),?_⟩
 refine ex2 (by walk_at "sim") ?_
 rintro xs M Q ⟨y,ks,rfl,hy,hk,hn,q⟩
 rw [show zR ["thing","kind"] [.d y]=[some (.d y),none] from rfl]
 walk_at "ra"
 have ty:∃ t,tyA (.d y) M=some t/\y8 t ["list","tuple"]=some true:=by
  rcases hy with rfl | rfl
  ·exact ⟨_,rfl,rfl⟩
  ·exact ⟨_,rfl,rfl⟩
 obtain ⟨t,t1,t2⟩:=ty
 have sq:∀ M,qz (.d y) M=some (ks.map fun i=>AV.d (.int i)):=fun M=>by rcases hy with rfl | rfl <;> (unfold qz;dsimp only;rw [kB])
 refine ⟨by omega,_,t1,_,t2,?_⟩
 rw [if_pos rfl]
 refine ⟨_,sq M,?_⟩
 refine jC (fun o=>[some (AV.d y),o]) (fun i:Int=>AV.d (.int i)) (fun _=>AV.d (.bl true)) ks ⟨_,rfl⟩ (sq M) (by omega) (fun o x Q hx q=>?_) fun o=>?_
 ·walk_at "ra"
  have hb:=hk x hx
  have:=q (some (.d (.int x)))
  refine ⟨.int x,3,rfl,by rw [kE];omega,?_⟩
  rw [show zC (.int x) 3=true from decide_eq_true hb]
  exact this
 ·refine ⟨aS ks.length (.bl true),?_,aS ks.length true,by rw [gm,gm],?_⟩
  ·rw [show ks.map (fun _=>AV.d (.bl true))=(aS ks.length (Dat.bl true)).map AV.d by rw [gm];exact List.map_const' ..];exact zS _
  ·rw [show (aS ks.length true).all id=true by rw [fJ];exact fun x hx=>(List.mem_replicate.mp hx).2]
   exact wv Fr.refl q
noncomputable def W2:ASp:=fun xs M Q=>∃ (y:Dat) (ds:List De),xs=[.d y]/\(y=.lst (ds.map dD) \/ y=.tup (ds.map dD))/\ds.length<=1000/\Q (.d (.tup [.int ((ds.map dW).count (ap "swap")),.int ((ds.map dW).count (ap "take")),.int ((ds.map dW).count (ap "move")),.int ((ds.map dW).count (ap "lay"))])) M
noncomputable abbrev QE:de:=top 13
theorem QY:zr ["plan","words","deed","word"] ["plan"] (zf QE):=⟨rfl,rfl,rfl,by decide +kernel,rfl,by decide +kernel,by decide +kernel⟩
theorem Bv (a:At K mg "deeds_of" QE)(B:Blt mg):Df P w K mg base "deeds_of" ["plan"] 1 (cSp W2):=by
 refine dfA (k:=0) a QY (fun _ _ _ _ _ _=>Pn1_ fun _=>rfl) (fun xs M Q h=>?_) (fun f cdv A outer s H E hr=>?_)
 ·obtain ⟨_,_,rfl,_⟩:=h;rfl
 have sc:=QY
 have hsl:=hsl
 refine ⟨_,(zd (zy (i:=1) sc.nd rfl (by first | exact bf rfl | exact bg rfl) (qR (ts:=[2]) rfl rfl (xu (pv 0)) (fun _ _ _ _=>(zu (i:=2) sc.nd rfl (by first | exact bf rfl | exact bg rfl))) (fun _ _ _ _=>qg) (fun _ _ _ _=>(zB (jK (K:=K) rfl) (pv 2) zc (fun _ _=>rfl)))))
  (zh (zK (zU qy rfl B.tuple qJ (za (qR (ts:=[3]) rfl rfl (xu (zA (za zI (za zI (za zI (za zI zb)))))) (fun _ _ _ _=>(zu (i:=3) sc.nd rfl (by first | exact bf rfl | exact bg rfl))) (fun _ _ _ _=>qg) (fun _ _ _ _=>(LO (K:=K) rfl eP PySem.F.slot_list_count PySem.F.type_list_count DH (pv 1) (za (pv 3) zb)))) zb))))),?_⟩
 refine ex2 (by walk_at "sim") ?_
 rintro xs M Q ⟨y,ds,rfl,hy,hn,q⟩
 rw [show zR ["plan","words","deed","word"] [.d y]=[some (.d y),none,none,none] from rfl]
 refine ze fun r hr0=>?_
 walk_at "ra"
 have sq:∀ M,qz (.d y) M=some ((ds.map dD).map AV.d):=fun M=>by rcases hy with rfl | rfl <;> rfl
 refine ⟨_,sq M,?_⟩
 rw [bR]
 refine jC (fun o=>[some (AV.d y),none,o,none]) (AV.d ∘ dD) (fun d=>AV.d (.str (dW d))) ds ⟨_,rfl⟩ (by rw [<- bR];exact sq M) (by omega) (fun o x Q hx q=>?_) fun o=>?_
 ·have e:dD x=.tup (.str (dW x) :: (dPs x).map fun k:Nat=>Dat.int k):=Ag x
  dsimp only [nj]
  rw [e]
  walk_at "ra"
  exact ⟨_,at0 _ _,q _⟩
 ·rw [show ds.map (fun d=>AV.d (.str (dW d)))=(ds.map fun d=>Dat.str (dW d)).map AV.d by rw [bR];rfl]
  refine ⟨_,zS _,?_⟩
  subst hr0
  walk_at "ra"
  refine ⟨by omega,?_⟩
  have fl:∀ l:List De,KO ((l.map fun d=>Dat.str (dW d)).map AV.d)=some (l.map fun d=>V.str (dW d)):=fun l=>by
   induction l with
   | nil=>rfl
   | cons a r ih=>simp only [aY] at ih ⊢;unfold KO;rw [ih];rfl
  refine jC (fun o=>[some (AV.d y),some (AV.d (Dat.lst (bp (fun d=>Dat.str (dW d)) ds))),none,o]) (fun w:Str=>AV.d (.str w)) (fun w=>AV.d (.int ((ds.map dW).count w))) [ap "swap",ap "take",ap "move",ap "lay"] ⟨_,rfl⟩ trivial (by simp) (fun o w Q hw q=>?_) fun o=>?_
  ·walk_at "ra"
   refine ⟨⟨_,rfl⟩,_,fl ds,_,rfl,?_⟩
   rw [show (ds.map fun d=>V.str (dW d)).countP (fun y=>eqV y (.str w))=(ds.map dW).count w by
    rw [mC,List.count,mC]
    exact List.countP_congr fun d _=>by simp [eqV]]
   exact q _
  ·exact ⟨_,rfl,wv Fr.refl q⟩
noncomputable def swL:List De->List Int->Option (List Int)
 | [],row=>some row
 | .swap a b :: ds,row=>if a ≠ b/\a<row.length/\b<row.length then swL ds ((row.set a (row.getD b 0)).set b (row.getD a 0)) else none
 | _ :: _,_=>none
theorem Zu {f:Int->Int}{row:List Int}{p:Nat}(h:p<row.length):(row.map f).getD p 0=f (row.getD p 0):=by
 rw [aq,aq,aD,af h];rfl
theorem QG (f:Int->Int):∀ (ds:List De) (row:List Int),swL ds (row.map f)=(swL ds row).map (bp f)
 | [],row=>rfl
 | .swap a b :: ds,row=>by
  unfold swL
  rw [az]
  by_cases c:a ≠ b/\a<row.length/\b<row.length
  ·rw [if_pos c,if_pos c,Zu c.2.2,Zu c.2.1,<- dq,<- dq];exact QG f ds _
  ·rw [if_neg c,if_neg c];rfl
 | .take _ :: _,_=>rfl
 | .move _ _ :: _,_=>rfl
 | .lay _ :: _,_=>rfl
theorem X6:∀ (ds:List De) {row r:List Int},swL ds row=some r->r.length=row.length
 | [],row,r,h=>by cases h;rfl
 | .swap a b :: ds,row,r,h=>by
  unfold swL at h
  split at h
  ·have:=X6 ds h;rw [aV,aV] at this;exact this
  ·cases h
 | .take _ :: _,_,_,h=>by cases h
 | .move _ _ :: _,_,_,h=>by cases h
 | .lay _ :: _,_,_,h=>by cases h
theorem X7:∀ (ds:List De) {row r:List Int},swL ds row=some r->xR ds (row.map some,none) (r.map some,none)
 | [],row,r,h=>by cases h;exact .nil
 | .swap a b :: ds,row,r,h=>by
  unfold swL at h
  split at h
  ·rename_i c
   exact .cons (Yz c.1 c.2.1 c.2.2 rfl rfl) (X7 ds h)
  ·cases h
 | .take _ :: _,_,_,h=>by cases h
 | .move _ _ :: _,_,_,h=>by cases h
 | .lay _ :: _,_,_,h=>by cases h
theorem ZK:∀ {ds:List De} {row:List Int} {t:ES},(∀ d ∈ ds,∃ a b,d=.swap a b)->xR ds (row.map some,none) t->∃ r,swL ds row=some r/\t=(r.map some,none)
 | [],row,t,_,h=>by cases h;exact ⟨row,rfl,rfl⟩
 | d :: ds,row,t,hs,h=>by
  obtain ⟨a,b,rfl⟩:=hs d (.head _)
  cases h with
  | cons d1 d2=>
   cases d1 with
   | @swap _ _ _ _ xa xb nab ga gb=>
    rw [aD] at ga gb
    obtain ⟨va,ha,e1⟩:=bM.mp ga
    obtain ⟨vb,hb,e2⟩:=bM.mp gb
    cases e1
    cases e2
    have la:=(aF.mp ha).1
    have lb:=(aF.mp hb).1
    have ea:row.getD a 0=xa:=by rw [aq,ha];rfl
    have eb:row.getD b 0=xb:=by rw [aq,hb];rfl
    rw [<- dq,<- dq,<- ea,<- eb] at d2
    obtain ⟨r,h1,h2⟩:=ZK (fun d hd=>hs d (.tail _ hd)) d2
    refine ⟨r,?_,h2⟩
    unfold swL
    rw [if_pos ⟨nab,la,lb⟩]
    exact h1
theorem K3:∀ (ds:List De) {row r:List Int},swL ds row=some r->∀ d ∈ ds,∃ a b,d=.swap a b
 | [],_,_,_,_,h=>nomatch h
 | .swap a b :: ds,row,r,h,d,hd=>by
  rcases aE.mp hd with rfl | hd
  ·exact ⟨a,b,rfl⟩
  ·unfold swL at h
   split at h
   ·exact K3 ds h d hd
   ·cases h
 | .take _ :: _,_,_,h,_,_=>by cases h
 | .move _ _ :: _,_,_,h,_,_=>by cases h
 | .lay _ :: _,_,_,h,_,_=>by cases h
theorem Z2:∀ (ds es:List De) (row:List Int),swL (ds ++ es) row=(swL ds row).bind (swL es)
 | [],es,row=>rfl
 | .swap a b :: ds,es,row=>by
  show (if a ≠ b/\a<row.length/\b<row.length then swL (ds ++ es) _ else none)=(if a ≠ b/\a<row.length/\b<row.length then swL ds _ else none).bind _
  split
  ·exact Z2 ds es _
  ·rfl
 | .take _ :: _,_,_=>rfl
 | .move _ _ :: _,_,_=>rfl
 | .lay _ :: _,_,_=>rfl
theorem Wi {d e:De}(h:dD d=dD e):d=e:=by
 rw [Ag,Ag] at h
 have h:=dX (Dat.tup.inj h)
 have hw:dW d=dW e:=Dat.str.inj h.1
 have hp:∀ {l m:List Nat},l.map (fun k:Nat=>Dat.int k)=m.map (fun k:Nat=>Dat.int k)->l=m:=fun {l m} z=>gn (fun a b y=>Int.ofNat_inj.mp (Dat.int.inj y)) |>.mp z
 have hp:=hp h.2
 have st:ap "swap" ≠ ap "take":=by decide +kernel
 have sm:ap "swap" ≠ ap "move":=by decide +kernel
 have sl:ap "swap" ≠ ap "lay":=by decide +kernel
 have tm:ap "take" ≠ ap "move":=by decide +kernel
 have tl:ap "take" ≠ ap "lay":=by decide +kernel
 have ml:ap "move" ≠ ap "lay":=by decide +kernel
 cases d <;> cases e <;> first | exact absurd hw st | exact absurd hw sm | exact absurd hw sl | exact absurd hw tm | exact absurd hw tl | exact absurd hw ml | exact absurd hw.symm st | exact absurd hw.symm sm | exact absurd hw.symm sl | exact absurd hw.symm tm | exact absurd hw.symm tl | exact absurd hw.symm ml | (simp only [dPs,List.cons.injEq,and_true] at hp;first | (obtain ⟨rfl,rfl⟩:=hp;rfl) | (subst hp;rfl))
def ShX (ks:List Int)(x:Dat):Prop:=∃ ds:List De,(x=.lst (ds.map dD) \/ x=.tup (ds.map dD))/\(ds.length:Int)=QL (cel (srt ks) ks)/\swL ds ks=some (srt ks)
noncomputable def shX (ks:List Int)(x:Dat):Bool:=@decide (ShX ks x) (gv _)
theorem XS {x:Dat}(h:ShX ks x):shX ks x=true:=@decide_eq_true _ (gv _) h
theorem Zp {x:Dat}(h:¬ ShX ks x):shX ks x=false:=@decide_eq_false _ (gv _) h
theorem YV {ds:List De}{s t:ES}(h:xR ds s t):∀ i ms,∃ ms',kN i (s,ms) (ds.map dD)=.ok (t,ms'):=by
 induction h with
 | nil=>exact fun i ms=>⟨ms,rfl⟩
 | @cons d l s t u h1 h2 ih=>
  intro i ms
  obtain ⟨ms',e⟩:=ih (i+1) ((Z3 s d).foldl ya ms)
  refine ⟨ms',?_⟩
  rw [aY]
  unfold kN
  rw [Dq h1 ms]
  exact e
theorem yz:∀ {l:List Dat} {i:Nat} {s t:RS},kN i s l=.ok t->∃ ds,l=ds.map dD/\xR ds s.1 t.1
 | [],i,s,t,h=>by cases h;exact ⟨[],rfl,.nil⟩
 | x :: l,i,s,t,h=>by
  unfold kN at h
  cases e:doR s.1 s.2 x with
  | error w=>rw [e] at h;cases h
  | ok t'=>
   rw [e] at h
   obtain ⟨d,rfl,hd⟩:=XJ e
   obtain ⟨ds,rfl,h2⟩:=yz h
   exact ⟨d :: ds,rfl,.cons hd h2⟩
theorem K2 (ks:List Int):(jj 0 1 ks.length).map (fun i=>ks.getD i.toNat 0)=ks:=by
 refine dM fun p=>?_
 unfold jj
 rw [bR,aD]
 by_cases h:p<ks.length
 ·rw [cF h,af h]
  show some (ks.getD (0+(p:Int) * 1).toNat 0)=_
  rw [show (0+(p:Int) * 1).toNat=p by omega,aq,af h];rfl
 ·rw [bA (by rw [cK];omega),bA (by omega)];rfl
theorem Y4 {x:Dat}{t:RS}(h:vK n x=.ok t):∃ ds,(x=.lst (ds.map dD) \/ x=.tup (ds.map dD))/\xR ds ((jj 0 1 n).map some,none) t.1:=by
 unfold vK at h
 split at h
 ·obtain ⟨ds,rfl,hd⟩:=yz h;exact ⟨ds,.inl rfl,hd⟩
 ·obtain ⟨ds,rfl,hd⟩:=yz h;exact ⟨ds,.inr rfl,hd⟩
 ·cases h
theorem Dn {x:Dat}(h:ShX ks x):∃ t,vK ks.length x=.ok t:=by
 obtain ⟨ds,hx,_,hs⟩:=h
 rw [<- K2 ks,QG] at hs
 obtain ⟨r,hr,_⟩:=bM.mp hs
 rw [K2] at *
 obtain ⟨ms,e⟩:=YV (X7 ds hr) 0 (aS ks.length 0)
 rcases hx with rfl | rfl <;> exact ⟨_,e⟩
theorem X5 {P:Int->Prop}:∀ (ds:List De) {row r:List Int},(∀ x ∈ row,P x)->swL ds row=some r->∀ x ∈ r,P x
 | [],row,r,hp,h=>by cases h;exact hp
 | .swap a b :: ds,row,r,hp,h=>by
  unfold swL at h
  split at h
  ·rename_i c
   have g:∀ p,p<row.length->P (row.getD p 0):=fun p hl=>by
    rw [aq,af hl];exact hp _ (bh hl)
   refine X5 ds (fun x hx=>?_) h
   rcases cf hx with hx | rfl
   ·rcases cf hx with hx | rfl
    ·exact hp x hx
    ·exact g b c.2.2
   ·exact g a c.2.1
  ·cases h
 | .take _ :: _,_,_,_,h=>by cases h
 | .move _ _ :: _,_,_,_,h=>by cases h
 | .lay _ :: _,_,_,_,h=>by cases h
theorem AH (ds:List De)(n:Int):((((ds.map dW).count (ap "swap"):Nat):Int)=n/\(ds.map dW).count (ap "take")=0/\(ds.map dW).count (ap "move")=0/\(ds.map dW).count (ap "lay")=0) ↔ ((∀ d ∈ ds,∃ a b,d=.swap a b)/\(ds.length:Int)=n):=by
 have al:(∀ d ∈ ds,∃ a b,d=De.swap a b)->(ds.map dW)=aS ds.length (ap "swap"):=fun h=>by
  refine List.eq_replicate_iff.mpr ⟨by rw [az],fun w hw=>?_⟩
  obtain ⟨d,hd,rfl⟩:=bZ.mp hw
  obtain ⟨a,b,rfl⟩:=h d hd
  rfl
 have st:¬ (ap "swap" == ap "take")=true:=by decide +kernel
 have sm:¬ (ap "swap" == ap "move")=true:=by decide +kernel
 have sl:¬ (ap "swap" == ap "lay")=true:=by decide +kernel
 constructor
 ·rintro ⟨h1,h2,h3,h4⟩
  have hs:∀ d ∈ ds,∃ a b,d=De.swap a b:=fun d hd=>by
   have n2:=iL.mp h2
   have n3:=iL.mp h3
   have n4:=iL.mp h4
   cases d with
   | swap a b=>exact ⟨a,b,rfl⟩
   | take p=>exact absurd (bZ.mpr ⟨_,hd,rfl⟩) n2
   | move p g=>exact absurd (bZ.mpr ⟨_,hd,rfl⟩) n3
   | lay g=>exact absurd (bZ.mpr ⟨_,hd,rfl⟩) n4
  refine ⟨hs,?_⟩
  rw [al hs,iP] at h1
  exact h1
 ·rintro ⟨hs,h⟩
  rw [al hs,iP,g0,g0,g0,if_neg st,if_neg sm,if_neg sl]
  exact ⟨h,rfl,rfl,rfl⟩
theorem Ij (a b c d n:Int):eqD (.tup [.int a,.int b,.int c,.int d]) (.tup [.int n,.int 0,.int 0,.int 0])=decide (a=n/\b=0/\c=0/\d=0):=by
 rw [eqD,j7,j7,j7,j7,j7,kf,kf,kf,kf]
 by_cases h1:a=n <;> by_cases h2:b=0 <;> by_cases h3:c=0 <;> by_cases h4:d=0 <;> simp [h1,h2,h3,h4]
theorem G8 (a b c d:Int):dp (.tup [.int a,.int b,.int c,.int d])<=40:=by simp [dp,dps]
theorem JL {x:Dat}{ds es:List De}(h:x=.lst (ds.map dD) \/ x=.tup (ds.map dD))(h2:x=.lst (es.map dD) \/ x=.tup (es.map dD)):ds=es:=by
 have inj:ds.map dD=es.map dD->ds=es:=fun z=>gn (fun a b y=>Wi y) |>.mp z
 rcases h with rfl | rfl <;> rcases h2 with h2 | h2
 ·exact inj (Dat.lst.inj h2)
 ·cases h2
 ·cases h2
 ·exact inj (Dat.tup.inj h2)
structure XP (K:ax)(cP:aw):Prop where
 i:d9 K (.ref cP) (.ref cP)=some true
noncomputable def Mi:ASp:=fun xs M Q=>∃ (y x:Dat) (ks:List Int),xs=[.d y,.d x]/\(y=.lst (ks.map .int) \/ y=.tup (ks.map .int))/\(∀ k ∈ ks,0<=k/\k<3)/\ks.length<=63/\OkP x/\Q (.d (.bl (shX ks x))) M
noncomputable abbrev DI:de:=top 21
theorem Du:zr ["kinds","plan","room","thing"] ["kinds","plan"] (zf DI):=⟨rfl,rfl,rfl,by decide +kernel,rfl,by decide +kernel,by decide +kernel⟩
theorem IA (a:At K mg "shows_exchanges" DI)(R:RTx K C)(B:Blt mg){cBadPlan:aw}(XG_BadPlan:mg "BadPlan"=some (.ref cBadPlan))(X2:XP K cBadPlan)(DX_room_behind:DfX P w K mg base "room_behind" ["n","plan"] 8 (jU (GJ C cBadPlan)))(D_are_kinds:Df P w K mg base "are_kinds" ["thing"] 8 (cSp Hg))(D_deeds_of:Df P w K mg base "deeds_of" ["plan"] 8 (cSp W2))(D_fewest_exchanges:Df P w K mg base "fewest_exchanges" ["kinds"] 8 (cSp aFE))(M_row_now:Dm P w K mg base C "row_now" ["self"] 8 (cSp (GR C))):Df P w K mg base "shows_exchanges" ["kinds","plan"] 9 (cSp Mi):=by
 refine dfA (k:=8) a Du (fun _ _ _ _ _ _=>Pn2_ fun _ _=>rfl) (fun xs M Q h=>?_) (fun f cdv A outer s H E hr=>?_)
 ·obtain ⟨_,_,_,rfl,_⟩:=h;rfl
 have sc:=Du
 have hsl:=hsl
 have CL:=R.cl
 refine ⟨_,(zd (qj (jy (jh (zT D_are_kinds hr rfl (za (pv 0) zb)) (fun _=>rfl))) (zh (zK jb)) zO)
  (zd (Dr (K:=K) rfl rfl rfl rfl rfl XG_BadPlan (fun pins xe Eh hP=>(zh (zy (i:=2) sc.nd rfl (by first | exact bf rfl | exact bg rfl) (MK DX_room_behind hr rfl hP (za (zm (j4 (K:=K) rfl) rfl B.len qB (za (pv 0) zb)) (za (pv 1) zb)))))) (fun x=>(zh (zK jb))))
  (zd (qj (zJ (xo hr.units) (zT D_deeds_of hr rfl (za (pv 1) zb)) (zA (za (zT D_fewest_exchanges hr rfl (za (pv 0) zb)) (za zc (za zc (za zc zb))))) (zH _)) (zh (zK jb)) zO)
  (zh (zK (jm (qC hr.units) (qR (ts:=[3]) rfl rfl (xu (LG CL M_row_now hr (pv 2))) (fun _ _ _ _=>(zu (i:=3) sc.nd rfl (by first | exact bf rfl | exact bg rfl))) (fun _ _ _ _=>qg) (fun _ _ _ _=>(zB (jK (K:=K) rfl) (pv 0) (pv 3) (fun _ _=>rfl)))) (zm qx rfl B.sorted jF (za (pv 0) zb)) (zH _))))))),?_⟩
 refine ex2 (by walk_at "sim") ?_
 rintro xs M Q ⟨y,x,ks,rfl,hy,hk,hn,ok,q⟩
 rw [show zR ["kinds","plan","room","thing"] [.d y,.d x]=[some (.d y),some (.d x),none,none] from rfl]
 have sq:∀ M,qz (.d y) M=some (ks.map fun i=>AV.d (.int i)):=fun M=>by rcases hy with rfl | rfl <;> (unfold qz;dsimp only;rw [kB])
 refine ze fun r1 hr1=>?_
 walk_at "ra"
 refine ⟨y,ks,rfl,hy,hk,hn,true,rfl,?_⟩
 rw [if_neg (by decide)]
 subst hr1
 refine ze fun r1 hr1=>?_
 walk_at "ra"
 refine ⟨_,sq M,ks.length,x,by rw [az],by omega,ok,fun i w h=>⟨X2.i,fun z hz=>?_⟩,fun t ht p rw_ mv hp hrw hmv n1 n2 n3=>?_⟩
 ·have e:shX ks x=false:=Zp fun hs=>by obtain ⟨t,e⟩:=Dn hs;rw [e] at h;cases h
  rw [e] at q
  exact wv (Fr.refl.mup hz _) q
 obtain ⟨ds,hx,hd⟩:=Y4 ht
 have fr:Fr M (rmP C M p rw_ mv t.1 t.2):=((Fr.refl.mup hp _).mup hrw _).mup hmv _
 have rm:=wo (C:=C) (M:=M) (s:=t.1) (ms:=t.2) n1 n2 n3
 generalize rmP C M p rw_ mv t.1 t.2=M1 at *
 have ln:ds.length<=1000:=by
  rcases hx with rfl | rfl
  ·have:=(ok.2 _ (.inr rfl)).1;rw [az] at this;exact this
  ·have:=(ok.2 _ (.inl rfl)).1;rw [az] at this;exact this
 subst hr1
 refine ze fun r1 hr1=>?_
 walk_at "ra"
 refine ⟨x,ds,rfl,hx,ln,.d y,ks,rfl,sq M1,hk,hn,by omega,_,rfl,_,rfl,G8 _ _ _ _,G8 _ _ _ _,?_⟩
 rw [Ij]
 by_cases c:(((ds.map dW).count (ap "swap"):Nat):Int)=QL (cel (srt ks) ks)/\(((ds.map dW).count (ap "take"):Nat):Int)=0/\(((ds.map dW).count (ap "move"):Nat):Int)=0/\(((ds.map dW).count (ap "lay"):Nat):Int)=0
 ·rw [decide_eq_true c,if_neg (by decide)]
  obtain ⟨hs,hl⟩:=(AH ds _).mp ⟨c.1,by omega,by omega,by omega⟩
  obtain ⟨r,hr,et⟩:=ZK hs hd
  have ek:=QG (fun i=>ks.getD i.toNat 0) ds (jj 0 1 ks.length)
  rw [K2,hr] at ek
  have rl:=X6 ds hr
  rw [jX] at rl
  have hb:∀ x ∈ r,0<=x/\x<(ks.length:Int):=X5 ds (fun x hx=>by
   obtain ⟨k,hk,rfl⟩:=bZ.mp hx
   have:=cv.mp hk
   omega) hr
  have e:shX ks x=decide (r.map (fun i=>ks.getD i.toNat 0)=srt ks):=by
   by_cases c2:r.map (fun i=>ks.getD i.toNat 0)=srt ks
   ·rw [decide_eq_true c2];exact XS ⟨ds,hx,hl,by rw [ek,<- c2];rfl⟩
   ·rw [decide_eq_false c2]
    refine Zp fun ⟨es,h1,_,h3⟩=>c2 ?_
    rw [<- JL hx h1,ek] at h3
    exact bC h3
  rw [e] at q
  subst hr1
  walk_at "ra"
  refine ⟨_,rm.ins,rfl,p,rw_,mv,t.1,t.2,rfl,rm,by rw [et];show (r.map some).length<=1000;rw [az];omega,?_⟩
  have eo:t.1.1.map oD=r.map Dat.int:=by rw [et];show (r.map some).map oD=_;rw [bR];rfl
  rw [eo]
  refine ⟨_,rfl,?_⟩
  rw [kB]
  refine jC (fun o=>[some (AV.d y),some (AV.d x),some (AV.ref p),o]) (fun i:Int=>AV.d (.int i)) (fun i=>AV.d (.int (ks.getD i.toNat 0))) r ⟨_,rfl⟩ (by rw [<- kB];rfl) (by omega) (fun o i Q hi q=>?_) fun o=>?_
  ·walk_at "ra"
   have hb2:=hb i hi
   have hil:i.toNat<ks.length:=by omega
   refine ⟨_,sq _,_,?_,q _⟩
   rw [Qg hb2.1 (by rw [az];omega) (.d .non),aq,aD,af hil,aq,af hil];rfl
  ·rw [show r.map (fun i=>AV.d (.int (ks.getD i.toNat 0)))=(r.map fun i:Int=>ks.getD i.toNat 0).map fun i=>AV.d (.int i) by rw [bR];rfl]
   refine ⟨_,qO _,ks,sq _,hn,fun ns' pm pw=>?_⟩
   have es:=ZH pm pw
   subst es
   refine ⟨aZ (vf _) (by decide),aZ (vf _) (by decide),?_⟩
   rw [JG]
   exact wv fr q
 ·rw [decide_eq_false c,if_pos rfl]
  have e:shX ks x=false:=Zp fun ⟨es,h1,h2,h3⟩=>by
   have:=JL hx h1
   subst this
   have:=(AH ds (QL (cel (srt ks) ks))).mpr ⟨K3 ds h3,h2⟩
   exact c ⟨this.1,by omega,by omega,by omega⟩
  rw [e] at q
  exact wv fr q
noncomputable def isS (x:Dat)(n:Nat):Bool:=match x with
 | .tup [.str w,p,q]=>decide (w=ap "swap") && (zC p n && zC q n) && !eqD p q
 | _=>false
noncomputable def LV:ASp:=fun xs M Q=>∃ (x:Dat) (n:Nat),xs=[.d x,.d (.int n)]/\OkX x/\n<=1000/\Q (.d (.bl (isS x n))) M
noncomputable abbrev Kl:de:=top 29
theorem XX:zr ["_law_deed","_law_n","_law_one"] ["_law_deed","_law_n"] (zf Kl):=⟨rfl,rfl,rfl,by decide +kernel,rfl,by decide +kernel,by decide +kernel⟩
noncomputable def LZ:Dat->Bool
 | .tup _=>true
 | _=>false
noncomputable def MG:Dat->Bool
 | .str _=>true
 | _=>false
theorem GO {x:Dat}(hd:dp x<=40)(M:MH):∃ t,tyA (.d x) M=some t/\isT t "tuple"=some (LZ x)/\isT t "str"=some (MG x):=by
 cases x with
 | rng _ _ _=>simp [dp] at hd
 | scr _ _=>simp [dp] at hd
 | ty _=>simp [dp] at hd
 | non=>exact ⟨_,rfl,WK,DW⟩
 | bl _=>exact ⟨_,rfl,BG,W4⟩
 | int _=>exact ⟨_,rfl,BC,W3⟩
 | str _=>exact ⟨_,rfl,Ab,Wx⟩
 | lst _=>exact ⟨_,rfl,B1,WL⟩
 | tup _=>exact ⟨_,rfl,DY,DE⟩
theorem ET (a:At K mg "_law_is_swap" Kl)(B:Blt mg)(Ball:mg "all"=none):Df P w K mg base "_law_is_swap" ["_law_deed","_law_n"] 1 (cSp LV):=by
 refine dfA (k:=0) a XX (fun _ _ _ _ _ _=>Pn2_ fun _ _=>rfl) (fun xs M Q h=>?_) (fun f cdv A outer s H E hr=>?_)
 ·obtain ⟨_,_,rfl,_⟩:=h;rfl
 have sc:=XX
 have hsl:=hsl
 refine ⟨_,(zd (qj (PW.pt (kZ (jy (jh (zm jp rfl B.isinstance zN (za (pv 0) (za (qt (v:=.ty "tuple") rfl B.tuple qJ rfl) zb))) (fun _=>rfl))) (kZ (zJ (xo hr.units) (zm zE rfl B.len qB (za (pv 0) zb)) zc (zH _)) (kZ (jy (jh (zm jp rfl B.isinstance zN (za (zB zV (pv 0) zc (fun _ _=>rfl)) (za (qt (v:=.ty "str") rfl B.str A8 rfl) zb))) (fun _=>rfl))) (xk (zJ (xo hr.units) (zB zV (pv 0) zc (fun _ _=>rfl)) zI (zH _))))))) (zh (zK jb)) zO)
  (zd (qj (jy (jh (zm (yH rfl) rfl Ball K0 (za (qR (ts:=[2]) rfl rfl (xu (zx ji (pv 0) (zz zc) zF)) (fun _ _ _ _=>(zu (i:=2) sc.nd rfl (by first | exact bf rfl | exact bg rfl))) (fun _ _ _ _=>qg) (fun _ _ _ _=>(Ku (zm (wU (K:=K) rfl) rfl B.isinstance zN (za (pv 2) (za (qt (v:=.ty "int") rfl B.int xT rfl) zb))) (Ku (Hi (zm (wU (K:=K) rfl) rfl B.isinstance zN (za (pv 2) (za (qt (v:=.ty "bool") rfl B.bool ZW rfl) zb)))) (WI (Je G1 Yw zc (pv 2) (pv 1))))))) zb)) (fun _=>rfl))) (zh (zK jb)) zO)
  (zh (zK (jm (xo hr.units) (zB zV (pv 0) zc (fun _ _=>rfl)) (zB zV (pv 0) zc (fun _ _=>rfl)) (zH _)))))),?_⟩
 refine ex2 (by walk_at "sim") ?_
 rintro xs M Q ⟨x,n,rfl,ok,hn,q⟩
 rw [show zR ["_law_deed","_law_n","_law_one"] [.d x,.d (.int n)]=[some (.d x),some (.d (.int n)),none] from rfl]
 refine ze fun r1 hr1=>?_
 walk_at "ra"
 obtain ⟨t,t1,t2,t3⟩:=GO ok.1 M
 refine ⟨_,t1,_,t2,?_⟩
 have no:isS x n=false->rtA M Q (AV.d (Dat.bl false)) M:=fun e=>by rw [e] at q;exact wv Fr.refl q
 cases x with
 | rng _ _ _=>exact absurd ok.1 (by simp [dp])
 | scr _ _=>exact absurd ok.1 (by simp [dp])
 | ty _=>exact absurd ok.1 (by simp [dp])
 | non=>exact no rfl
 | bl _=>exact no rfl
 | int _=>exact no rfl
 | str _=>exact no rfl
 | lst _=>exact no rfl
 | tup l=>
  show if true=false then _ else _
  rw [if_neg (by decide)]
  refine ⟨_,rfl,?_⟩
  by_cases c3:l.length=3
  ·rw [if_neg (by rw [az,c3];simp)]
   obtain ⟨u,p,q2,rfl⟩:∃ u p q2,l=[u,p,q2]:=by
    match l,c3 with
    | [u,p,q2],_=>exact ⟨u,p,q2,rfl⟩
   have dps3:dps [u,p,q2]<=39:=by have:=ok.1;rw [dp] at this;omega
   have du:=kG dps3 u (by simp)
   have d1:=kG dps3 p (by simp)
   have d2:=kG dps3 q2 (by simp)
   obtain ⟨t,s1,s2,s3⟩:=GO (x:=u) (by omega) M
   refine ⟨_,rfl,_,rfl,_,s1,_,s3,?_⟩
   cases u with
   | rng _ _ _=>exact absurd du (by simp [dp])
   | scr _ _=>exact absurd du (by simp [dp])
   | ty _=>exact absurd du (by simp [dp])
   | non=>exact no rfl
   | bl _=>exact no rfl
   | int _=>exact no rfl
   | lst _=>exact no rfl
   | tup _=>exact no rfl
   | str wd=>
    show if true=false then _ else _
    rw [if_neg (by decide)]
    refine ⟨_,rfl,_,rfl,_,rfl,by rw [yM];omega,?_⟩
    rw [JW]
    have eS:isS (.tup [.str wd,p,q2]) n=(decide (wd=ap "swap") && (zC p n && zC q2 n) && !eqD p q2):=rfl
    by_cases cw:wd=ap "swap"
    ·rw [decide_eq_true cw,if_neg (by decide)]
     rw [eS,decide_eq_true cw,ni] at q
     subst hr1
     refine ze fun r1 hr1=>?_
     walk_at "ra"
     refine ⟨by decide,?_⟩
     rw [show qN [Dat.str wd,p,q2] (some 1) none=[p,q2] from jE _ 1]
     refine jC (fun o=>[some (AV.d (Dat.tup [Dat.str wd,p,q2])),some (AV.d (Dat.int (n:Int))),o]) AV.d (fun d=>AV.d (.bl (zC d n))) [p,q2] ⟨_,rfl⟩ trivial (by simp) (fun o d Q hd q=>?_) fun o=>?_
     ·have dd:dp d<=39:=kG dps3 d (by simp only [aE,aT,or_false] at hd ⊢;exact .inr hd)
      walk_at "ra"
      cases d with
      | rng _ _ _=>exact absurd dd (by simp [dp])
      | scr _ _=>exact absurd dd (by simp [dp])
      | ty _=>exact absurd dd (by simp [dp])
      | non=>exact ⟨_,rfl,_,DC,q _⟩
      | str _=>exact ⟨_,rfl,_,BB,q _⟩
      | lst _=>exact ⟨_,rfl,_,Wr,q _⟩
      | tup _=>exact ⟨_,rfl,_,Bi,q _⟩
      | bl b=>exact ⟨_,rfl,_,WE,_,rfl,_,Dk,q _⟩
      | int i=>
       refine ⟨_,rfl,_,Wg,_,rfl,_,WN,?_⟩
       have:=q (some (.d (.int i)))
       rw [if_pos rfl]
       refine ⟨i,rfl,?_⟩
       by_cases h0:0<=i
       ·rw [if_pos h0]
        refine ⟨i,rfl,?_⟩
        rw [show decide (i<(n:Int))=zC (.int i) n from by unfold zC;by_cases h1:i<(n:Int) <;> simp [h0,h1]]
        exact this
       ·rw [if_neg h0]
        rw [show zC (.int i) n=false from decide_eq_false fun z=>h0 z.1] at this
        exact this
     ·refine ⟨[.bl (zC p n),.bl (zC q2 n)],rfl,[zC p n,zC q2 n],rfl,?_⟩
      rw [show [zC p n,zC q2 n].all id=(zC p n && zC q2 n) by simp]
      cases cp:(zC p n && zC q2 n) with
      | false=>
       rw [if_pos rfl]
       exact no (by rw [eS,cp,decide_eq_true cw];rfl)
      | true=>
       rw [if_neg (by decide)]
       rw [cp,ni] at q
       subst hr1
       walk_at "ra"
       refine ⟨_,rfl,_,rfl,_,rfl,_,rfl,by omega,by omega,?_⟩
       exact wv Fr.refl q
    ·rw [decide_eq_false cw,if_pos rfl]
     exact no (by rw [eS,decide_eq_false cw];rfl)
  ·rw [if_pos (by rw [az];omega)]
   refine no ?_
   unfold isS
   split
   ·rename_i e;cases e;exact absurd rfl c3
   ·rfl
theorem XH {x:Dat}:isS x n=true ↔ ∃ a b,x=dD (.swap a b)/\a ≠ b/\a<n/\b<n:=by
 constructor
 ·intro h
  unfold isS at h
  split at h
  ·rename_i w p q
   simp only [b7,decide_eq_true_eq,nW] at h
   obtain ⟨⟨rfl,h1,h2⟩,h3⟩:=h
   unfold zC at h1 h2
   split at h1
   ·split at h2
    ·rename_i i _ j
     have h1:=of_decide_eq_true h1
     have h2:=of_decide_eq_true h2
     rw [kf,decide_eq_false_iff_not] at h3
     refine ⟨i.toNat,j.toNat,?_,by omega,by omega,by omega⟩
     show _=Dat.tup [Dat.str (ap "swap"),Dat.int ((i.toNat:Nat):Int),Dat.int ((j.toNat:Nat):Int)]
     rw [show ((i.toNat:Nat):Int)=i by omega,show ((j.toNat:Nat):Int)=j by omega]
    ·cases h2
   ·cases h1
  ·cases h
 ·rintro ⟨a,b,rfl,nab,ha,hb⟩
  show (decide _ && (zC (.int a) n && zC (.int b) n) && !eqD (.int a) (.int b))=true
  rw [kf,decide_eq_true rfl,show zC (.int (a:Int)) n=true from decide_eq_true ⟨by omega,by omega⟩,show zC (.int (b:Int)) n=true from decide_eq_true ⟨by omega,by omega⟩,decide_eq_false (by omega)];rfl
noncomputable def Me:ASp:=fun xs M Q=>∃ (ks:List Int) (x:Dat),xs=[.d (ilD ks),.d x]/\(∀ k ∈ ks,0<=k/\k<3)/\ks.length<=63/\OkP x/\Q (.d (.bl (shX ks x))) M
noncomputable abbrev KQ:de:=top 30
theorem YL:zr ["_law_kinds_here","_law_plan","_law_row","_law_deed"] ["_law_kinds_here","_law_plan"] (zf KQ):=⟨rfl,rfl,rfl,by decide +kernel,rfl,by decide +kernel,by decide +kernel⟩
theorem EO (a:At K mg "_law_due" KQ)(B:Blt mg)(D_law_is_swap:Df P w K mg base "_law_is_swap" ["_law_deed","_law_n"] 1 (cSp LV))(D_law_fewest:Df P w K mg base "_law_fewest" ["_law_kinds_here"] 1 (cSp LA)):Df P w K mg base "_law_due" ["_law_kinds_here","_law_plan"] 2 (cSp Me):=by
 refine dfA (k:=1) a YL (fun _ _ _ _ _ _=>Pn2_ fun _ _=>rfl) (fun xs M Q h=>?_) (fun f cdv A outer s H E hr=>?_)
 ·obtain ⟨_,_,rfl,_⟩:=h;rfl
 have sc:=YL
 have hsl:=hsl
 refine ⟨_,(zd (qj (PW.pt (kZ (jy (jh (zm yC rfl B.isinstance zN (za (pv 1) (za (zA (za (qt (v:=.ty "list") rfl B.list jV rfl) (za (qt (v:=.ty "tuple") rfl B.tuple qJ rfl) zb))) zb))) (fun _=>rfl))) (xk (zJ (xo hr.units) (zm zE rfl B.len qB (za (pv 1) zb)) (zT D_law_fewest hr rfl (za (pv 0) zb)) (zH _))))) (zh (zK jb)) zO)
  (zd (zy (i:=2) sc.nd rfl (by first | exact bf rfl | exact bg rfl) (kJ (zU jD rfl B.list jV (za (pv 0) zb))))
  (zd (ka db rfl (xu (pv 1)) (zu (i:=3) sc.nd rfl (by first | exact bf rfl | exact bg rfl)) (zd (qj (jy (jh (zT D_law_is_swap hr rfl (za (pv 3) (za (zm zE rfl B.len qB (za (pv 2) zb)) zb))) (fun _=>rfl))) (zh (zK jb)) zO)
  (zh (jN (zA (za (zB zV (pv 2) (zB zV (pv 3) zc (fun _ _=>rfl)) (fun _ _=>rfl)) (za (zB zV (pv 2) (zB zV (pv 3) zc (fun _ _=>rfl)) (fun _ _=>rfl)) zb))) (jo (K:=K) 2 rfl rfl (zG (ju (pv 2) (zB zV (pv 3) zc (fun _ _=>rfl)) zW) (zG (ju (pv 2) (zB zV (pv 3) zc (fun _ _=>rfl)) zW) qS)))))))
  (zh (zK (jm (qC hr.units) (pv 2) (zm qx rfl B.sorted jF (za (pv 0) zb)) (zH _))))))),?_⟩
 refine ex2 (by walk_at "sim") ?_
 rintro xs M Q ⟨ks,x,rfl,hk,hn,ok,q⟩
 rw [show zR ["_law_kinds_here","_law_plan","_law_row","_law_deed"] [.d (ilD ks),.d x]=[some (.d (ilD ks)),some (.d x),none,none] from rfl]
 refine ze fun r1 hr1=>?_
 walk_at "ra"
 have no:¬ ShX ks x->rtA M Q (AV.d (Dat.bl false)) M:=fun e=>by rw [Zp e] at q;exact wv Fr.refl q
 have nol:(∀ l,x ≠ .lst l/\x ≠ .tup l)->¬ ShX ks x:=fun h ⟨ds,h1,_⟩=>by rcases h1 with h1 | h1;exact (h _).1 h1;exact (h _).2 h1
 have lk:∀ M':MH,zY (.d (ilD ks)) M'=some (ks.map fun i=>AV.d (.int i)):=fun _=>by rw [show ilD ks=Dat.lst (ks.map .int) from rfl,Kt,kB]
 have dpx:=ok.1
 refine ⟨by omega,?_⟩
 have main:∀ l,(x=.lst l \/ x=.tup l)->∃ x_3,qz (AV.d x) M=some x_3/\LA [AV.d (ilD ks)] M fun y M2=>∃ x_4,ZA y M2=some x_4/\dp x_4<=40/\if eqD (Dat.int (x_3.length:Int)) x_4=false then rtA M Q (AV.d (Dat.bl false)) M2 else r1 M { nx:=fun x M'=>rtA M Q (AV.d Dat.non) M',rt:=rtA M Q } [some (AV.d (ilD ks)),some (AV.d x),none,none] M2:=fun l hx=>by
  have sx:∀ M',qz (.d x) M'=some (l.map AV.d):=fun M'=>by rcases hx with rfl | rfl <;> rfl
  obtain ⟨ll,lo⟩:=ok.2 l hx.symm
  refine ⟨_,sx M,_,ks,rfl,lk M,hk,hn,_,rfl,by rw [kE];omega,?_⟩
  rw [kf,az]
  have ln:∀ {ds:List De},(x=.lst (ds.map dD) \/ x=.tup (ds.map dD))->l=ds.map dD:=fun h=>by
   rcases hx with rfl | rfl <;> rcases h with h | h
   ·exact Dat.lst.inj h
   ·cases h
   ·cases h
   ·exact Dat.tup.inj h
  by_cases cl:(l.length:Int)=QL (cel (srt ks) ks)
  ·rw [decide_eq_true cl,if_neg (by decide)]
   subst hr1
   refine ze fun r1 hr1=>?_
   walk_at "ra"
   intro pr h0 _
   subst hr1
   refine ze fun r1 hr1=>?_
   walk_at "ra"
   have fM:∀ o,Fr M (mup M pr o):=fun o=>Fr.refl.mup h0 o
   refine ⟨_,sx _,?_⟩
   refine ⟨fun i ρ M'=>i<=l.length/\∃ (u:Option AV) (row:List Int) (ds:List De),ρ=[some (.d (ilD ks)),some (.d x),some (.ref pr),u]/\M'=mup M pr (.lst (row.map fun i=>AV.d (.int i)))/\row.length=ks.length/\l.take i=ds.map dD/\swL ds ks=some row,⟨ci _,_,ks,[],rfl,rfl,rfl,rfl,rfl⟩,?_,?_⟩
   ·rintro i d0 ρ M' hd0 ⟨hi,u,row,ds,rfl,rfl,rl,ed,hs⟩
    rw [aD] at hd0
    obtain ⟨d,hd1,rfl⟩:=bM.mp hd0
    have hil:=(aF.mp hd1).1
    refine ⟨sx _,?_⟩
    show yp _ _ _ _ _ _
    refine ze fun r2 hr2=>?_
    walk_at "ra"
    refine ⟨_,ql zk,d,row.length,by rw [az],lo d (bJ hd1),by omega,_,rfl,?_⟩
    cases hb:isS d row.length with
    | false=>
     rw [if_pos rfl]
     refine Eq.mp (congrArg (fun b=>rtA M Q (AV.d (.bl b)) _) (Zp ?_)) (wv (fM _) q)
     rintro ⟨es,h1,h2,h3⟩
     have el:=ln h1
     have et:es.take i=ds:=by
      have:(es.take i).map dD=ds.map dD:=by rw [m9,<- el];exact ed
      exact gn (fun a b y=>Wi y) |>.mp this
     have eli:i<es.length:=by have:=hil;rw [el,az] at this;exact this
     have sp:es=ds ++ es[i] :: es.drop (i+1):=by rw [<- et,<- ez eli,List.take_append_drop]
     rw [sp,Z2,hs] at h3
     have h3:swL (es[i] :: es.drop (i+1)) row=some (srt ks):=h3
     have edd:d=dD es[i]:=by
      rw [el,aD,af eli] at hd1
      exact (bC hd1).symm
     obtain ⟨a,b,eab⟩:=K3 _ h3 _ (.head _)
     rw [eab] at h3 edd
     unfold swL at h3
     split at h3
     ·rename_i c
      rw [XH.mpr ⟨a,b,edd,c⟩] at hb
      cases hb
     ·cases h3
    | true=>
     rw [if_neg (by decide)]
     obtain ⟨a,b,rfl,nab,la,lb⟩:=XH.mp hb
     have ha:=af la
     have hb':=af lb
     subst hr2
     walk_at "ra"
     have at0:∀ {row:List Int} {p:Nat} {v:Int},row[p]?=some v->atI (row.map fun i=>AV.d (.int i)) (p:Int)=some (.d (.int v))/\ixN (row.map fun i=>AV.d (.int i)).length (p:Int)=some p:=fun {row p v} h=>by
      have hp:=(aF.mp h).1
      have e:ixN (row.map fun i=>AV.d (.int i)).length (p:Int)=some p:=by rw [jL (by omega) (by rw [az];omega),bQ]
      refine ⟨?_,e⟩
      unfold atI
      rw [e]
      show (row.map fun i=>AV.d (.int i))[p]?=_
      rw [aD,h];rfl
     have sq:∀ M':MH,qz (AV.d (dD (De.swap a b))) M'=some [AV.d (.str (ap "swap")),.d (.int a),.d (.int b)]:=fun _=>rfl
     have l2:∀ v,(row.set a v)[b]?=some row[b]:=fun v=>by rw [cL nab];exact hb'
     refine ⟨_,sq _,_,rfl,_,ql zk,_,rfl,_,(at0 hb').1,_,sq _,_,rfl,_,ql zk,_,rfl,_,(at0 ha).1,by omega,_,sq _,_,rfl,_,_,rfl,zk,_,(at0 ha).2,_,sq _,_,rfl,_,_,rfl,zk,b,by rw [<- dq (f:=fun i:Int=>AV.d (.int i))];exact (at0 (l2 _)).2,by omega,⟨_,rfl⟩,(row.set a row[b]).set b row[a],?_,by rw [aV,aV];exact rl,ds ++ [.swap a b],by rw [List.take_succ,hd1,ed,bX];rfl,?_⟩
     ·rw [<- dq (f:=fun i:Int=>AV.d (.int i)),<- dq (f:=fun i:Int=>AV.d (.int i))]
     ·rw [Z2,hs]
      show (if _ then _ else _)=_
      rw [if_pos ⟨nab,la,lb⟩,aq,aq,ha,hb'];rfl
   ·rintro ρ M' ⟨_,u,row,ds,rfl,rfl,rl,ed,hs⟩
    refine ⟨sx _,?_⟩
    rw [az,gQ] at ed
    have e:shX ks x=decide (row=srt ks):=by
     have hxd:x=.lst (ds.map dD) \/ x=.tup (ds.map dD):=by rw [<- ed];exact hx
     by_cases c2:row=srt ks
     ·rw [decide_eq_true c2]
      refine XS ⟨ds,hxd,?_,by rw [hs,c2]⟩
      rw [<- cl,ed,az]
     ·rw [decide_eq_false c2]
      refine Zp fun ⟨es,h1,_,h3⟩=>c2 ?_
      rw [<- JL hxd h1,hs] at h3
      exact bC h3
    rw [e] at q
    dsimp only
    subst hr1
    walk_at "ra"
    refine ⟨ks,rfl,hn,fun ns' pm pw=>?_⟩
    have es:=ZH pm pw
    subst es
    refine ⟨_,Be zk (qO _),aZ (vf _) (by decide),aZ (vf _) (by decide),?_⟩
    rw [JG]
    exact wv (fM _) q
  ·rw [decide_eq_false cl,if_pos rfl]
   refine no fun ⟨ds,h1,h2,_⟩=>cl ?_
   rw [ln h1,az];exact h2
 cases x with
 | rng _ _ _=>exact absurd dpx (by simp [dp])
 | scr _ _=>exact absurd dpx (by simp [dp])
 | ty _=>exact absurd dpx (by simp [dp])
 | non=>exact ⟨_,rfl,_,W8,no (nol fun l=>⟨fun z=>(nomatch z),fun z=>(nomatch z)⟩)⟩
 | bl _=>exact ⟨_,rfl,_,DJ,no (nol fun l=>⟨fun z=>(nomatch z),fun z=>(nomatch z)⟩)⟩
 | int _=>exact ⟨_,rfl,_,Bz,no (nol fun l=>⟨fun z=>(nomatch z),fun z=>(nomatch z)⟩)⟩
 | str _=>exact ⟨_,rfl,_,Dg,no (nol fun l=>⟨fun z=>(nomatch z),fun z=>(nomatch z)⟩)⟩
 | lst l=>exact ⟨_,rfl,_,Bg,main l (.inl rfl)⟩
 | tup l=>exact ⟨_,rfl,_,Wh,main l (.inr rfl)⟩
def OkE (x:Dat):Prop:=OkX x/\OkS x
structure OkW (x:Dat):Prop where
 p:OkP x
 d:dp x<=40
 s:(pdD x).showable=true
 l:(pdD x).shown.length<=aM
theorem vi {l:List Dat}(hl:l.length<=1000)(h:∀ d ∈ l,OkE d):OkW (.lst l)/\OkW (.tup l):=by
 have s1:=Kf (b:=500) (n:=1000) hl fun d hd=>(h d hd).2.s
 have s2:=QA (b:=500) (n:=1000) hl fun d hd=>(h d hd).2.s
 have d1:dp (.lst l)<=6:=by rw [dp];exact gR (vR fun d hd=>(h d hd).2.d)
 have d2:dp (.tup l)<=6:=by rw [dp];exact gR (vR fun d hd=>(h d hd).2.d)
 have pp:∀ x,(x=.lst l \/ x=.tup l)->dp x<=6->OkP x:=fun x hx hd=>⟨by omega,fun l' e=>by
  have:l'=l:=by rcases hx with rfl | rfl <;> rcases e with e | e <;> cases e <;> rfl
  subst this
  exact ⟨hl,fun d hd=>(h d hd).1⟩⟩
 exact ⟨⟨pp _ (.inl rfl) d1,by omega,s1.s,aZ s1.l (by rw [cC];decide)⟩,⟨pp _ (.inr rfl) d2,by omega,s2.s,aZ s2.l (by rw [cC];decide)⟩⟩
theorem MY {x:Dat}(h:OkE x):OkW x:=⟨h.2.p,by have:=h.2.d;omega,h.2.s.s,aZ h.2.s.l (by rw [cC];decide)⟩
structure ItD (x:Dat):Prop where
 d:dp x<=4
 s:Sh 100 x
 t:∀ l,x=.tup l->l.length<=1000
theorem ki (h:i.natAbs<10 ^ 20):ItD (.int i):=⟨by rw [kE];omega,(Qw h).mono (by decide),fun l e=>nomatch e⟩
theorem vE (b:Bool):ItD (.bl b):=⟨by rw [Wm];omega,by cases b <;> exact ⟨by decide +kernel,by decide +kernel⟩,fun l e=>nomatch e⟩
theorem vB:ItD .non:=⟨by rw [BF];omega,⟨by decide +kernel,by decide +kernel⟩,fun l e=>nomatch e⟩
theorem kP:ItD (.str (ap "swap")):=⟨by rw [yM];omega,⟨by decide +kernel,by decide +kernel⟩,fun l e=>nomatch e⟩
theorem Ao {w:Str}(h:Sh 100 (.str w)):ItD (.str w):=⟨by rw [yM];omega,h,fun l e=>nomatch e⟩
theorem GD {x:Dat}(hd:dp x<=0)(h:Sh 22 x):ItD (.lst [x])/\ItD (.tup [x]):=by
 have m:∀ d ∈ [x],Sh 22 d:=fun d hd=>by rw [bW.mp hd];exact h
 have d0:dps [x]<=0:=vR fun d hd'=>by rw [bW.mp hd'];exact hd
 exact ⟨⟨by rw [dp];omega,(Kf (n:=1) (by simp) m).mono (by decide),fun l e=>nomatch e⟩,⟨by rw [dp];omega,(QA (n:=1) (by simp) m).mono (by decide),fun l e=>by cases e;simp⟩⟩
theorem jl {l:List Dat}(h:l.length<=4)(hi:∀ d ∈ l,ItD d):OkE (.tup l)/\OkE (.lst l):=by
 have d4:dps l<=4:=vR fun d hd=>(hi d hd).d
 have s1:Sh 500 (.tup l):=(QA (b:=100) (n:=4) h fun d hd=>(hi d hd).s).mono (by decide)
 have s2:Sh 500 (.lst l):=(Kf (b:=100) (n:=4) h fun d hd=>(hi d hd).s).mono (by decide)
 have e1:dp (.tup l)<=5:=by rw [dp];omega
 have e2:dp (.lst l)<=5:=by rw [dp];omega
 refine ⟨⟨⟨by omega,fun l' e=>by cases e;omega⟩,e1,s1,Kq e1 fun l' e=>?_⟩,⟨⟨by omega,fun l' e=>nomatch e⟩,e2,s2,Kq e2 fun l' e=>?_⟩⟩
 ·rcases e with e | e <;> cases e;exact ⟨by omega,fun d hd=>(hi d hd).t⟩
 ·rcases e with e | e <;> cases e;exact ⟨by omega,fun d hd=>(hi d hd).t⟩
theorem kX {x:Dat}(h:ItD x)(n1:∀ l,x ≠ .tup l)(n2:∀ l,x ≠ .lst l):OkE x:=⟨⟨by have:=h.d;omega,fun l e=>absurd e (n1 l)⟩,by have:=h.d;omega,h.s.mono (by decide),Kq (by have:=h.d;omega) fun l e=>e.elim (fun z=>absurd z (n1 l)) fun z=>absurd z (n2 l)⟩
theorem Qb {a b:Nat}(ha:a<=2000)(hb:b<=2000):OkE (dD (.swap a b)):=(jl (by simp) fun d hd=>by
 simp only [aE,aT,or_false] at hd
 rcases hd with rfl | rfl | rfl
 ·exact kP
 ·exact ki (by rw [show ((a:Int)).natAbs=a by omega];exact b8 ha (by decide))
 ·exact ki (by rw [show ((b:Int)).natAbs=b by omega];exact b8 hb (by decide))).1
noncomputable abbrev MS:List Dat:=[.non,.bl true,.bl false,.int 0,.int (-1),.int 7,.str (ap ""),.str (ap "swap"),.tup [],.lst [],.tup [.int 0],.lst [.non],.tup [.str (ap "swap")],.tup [.str (ap "swap"),.int 0],.lst [.int 0,.int 1],.tup [.bl true]]
theorem Gu:∀ d ∈ MS,OkE d:=by
 have i0:∀ i:Int,i.natAbs<=10->ItD (.int i):=fun i h=>ki (b8 h (by decide))
 intro d hd
 simp only [aE,aT,or_false] at hd
 rcases hd with rfl | rfl | rfl | rfl | rfl | rfl | rfl | rfl | rfl | rfl | rfl | rfl | rfl | rfl | rfl | rfl
 ·exact kX vB (fun _ z=>nomatch z) (fun _ z=>nomatch z)
 ·exact kX (vE _) (fun _ z=>nomatch z) (fun _ z=>nomatch z)
 ·exact kX (vE _) (fun _ z=>nomatch z) (fun _ z=>nomatch z)
 ·exact kX (i0 _ (by decide)) (fun _ z=>nomatch z) (fun _ z=>nomatch z)
 ·exact kX (i0 _ (by decide)) (fun _ z=>nomatch z) (fun _ z=>nomatch z)
 ·exact kX (i0 _ (by decide)) (fun _ z=>nomatch z) (fun _ z=>nomatch z)
 ·exact kX (Ao ⟨by decide +kernel,by decide +kernel⟩) (fun _ z=>nomatch z) (fun _ z=>nomatch z)
 ·exact kX kP (fun _ z=>nomatch z) (fun _ z=>nomatch z)
 ·exact (jl (by simp) fun d hd=>absurd hd (by simp)).1
 ·exact (jl (by simp) fun d hd=>absurd hd (by simp)).2
 ·exact (jl (by simp) fun d hd=>by rw [bW.mp hd];exact i0 _ (by decide)).1
 ·exact (jl (by simp) fun d hd=>by rw [bW.mp hd];exact vB).2
 ·exact (jl (by simp) fun d hd=>by rw [bW.mp hd];exact kP).1
 ·exact (jl (by simp) fun d hd=>by simp only [aE,aT,or_false] at hd;rcases hd with rfl | rfl;exact kP;exact i0 _ (by decide)).1
 ·exact (jl (by simp) fun d hd=>by simp only [aE,aT,or_false] at hd;rcases hd with rfl | rfl;exact i0 _ (by decide);exact i0 _ (by decide)).2
 ·exact (jl (by simp) fun d hd=>by rw [bW.mp hd];exact vE _).1
noncomputable def Ec:ASp:=fun xs M Q=>∃ (b:aw) (N:Nat),xs=[.ref b]/\BxM M b N/\N<1000000/\∀ x M',BxS M M' b (N+1)->OkE x->Q (.d x) M'
noncomputable abbrev KS:de:=top 28
theorem Xw:zr ["_law_box_here","_law_some"] ["_law_box_here"] (zf KS):=⟨rfl,rfl,rfl,by decide +kernel,rfl,by decide +kernel,by decide +kernel⟩
theorem EN (a:At K mg "_law_odd" KS)(B:Blt mg)(D_law_take:Df P w K mg base "_law_take" ["_law_box_here","_law_many"] 1 (cSp wr)):Df P w K mg base "_law_odd" ["_law_box_here"] 2 (cSp Ec):=by
 refine dfA (k:=1) a Xw (fun _ _ _ _ _ _=>Pn1_ fun _=>rfl) (fun xs M Q h=>?_) (fun f cdv A outer s H E hr=>?_)
 ·obtain ⟨_,_,rfl,_⟩:=h;rfl
 have sc:=Xw
 have hsl:=hsl
 refine' ⟨_,?q0,?qr⟩
 (case q0=>
  refine' zd ?q1 ?q2
  (case q1=>
   refine' zy (i:=1) ?q3 ?q4 ?q5 ?q6
   (case q3=>exact sc.nd)
   (case q4=>exact rfl)
   (case q5=>exact (by first | exact bf rfl | exact bg rfl))
   (case q6=>
    refine' zL ?q7
    (case q7=>
     refine' za ?q8 ?q9
     (case q8=>exact jk)
     (case q9=>
      refine' za ?q10 ?q11
      (case q10=>exact jb)
      (case q11=>
       refine' za ?q12 ?q13
       (case q12=>exact jb)
       (case q13=>
        refine' za ?q14 ?q15
        (case q14=>exact zc)
        (case q15=>
         refine' za ?q16 ?q17
         (case q16=>exact (Jr wn zc))
         (case q17=>
          refine' za ?q18 ?q19
          (case q18=>exact zc)
          (case q19=>
           refine' za ?q20 ?q21
           (case q20=>exact zI)
           (case q21=>
            refine' za ?q22 ?q23
            (case q22=>exact zI)
            (case q23=>
             refine' za ?q24 ?q25
             (case q24=>exact (zA zb))
             (case q25=>
              refine' za ?q26 ?q27
              (case q26=>exact (zL zb))
              (case q27=>
               refine' za ?q28 ?q29
               (case q28=>exact (zA (za zc zb)))
               (case q29=>
                refine' za ?q30 ?q31
                (case q30=>exact (zL (za jk zb)))
                (case q31=>
                 refine' za ?q32 ?q33
                 (case q32=>exact (zA (za zI zb)))
                 (case q33=>
                  refine' za ?q34 ?q35
                  (case q34=>exact (zA (za zI (za zc zb))))
                  (case q35=>
                   refine' za ?q36 ?q37
                   (case q36=>exact (zL (za zc (za zc zb))))
                   (case q37=>
                    refine' za ?q38 ?q39
                    (case q38=>exact (zA (za jb zb)))
                    (case q39=>exact zb)))))))))))))))))))
  (case q2=>exact (zh (zK (zB zV (pv 1) (zT D_law_take hr rfl (za (pv 0) (za (zm zE rfl B.len qB (za (pv 1) zb)) zb))) (fun _ _=>rfl))))))
 refine ex2 (by walk_at "sim") ?_
 rintro xs M Q ⟨b,N,rfl,hb,hN,q⟩
 rw [show zR ["_law_box_here","_law_some"] [.ref b]=[some (.ref b),none] from rfl]
 have sb:=SB.refl hb
 refine ze fun r1 hr1=>?_
 walk_at "ra"
 repeat (first | refine And.intro (by omega) ?_ | refine And.intro ⟨by decide,by decide,by decide⟩ ?_)
 subst hr1
 walk_at "ra"
 refine ⟨b,16,_,rfl,sb.bx,by omega,by omega,by omega,fun w M1 s1 w0 w1=>?_⟩
 have sb:=sb.go s1
 obtain ⟨d,hd,ed⟩:=Eo (l:=MS) (i:=w) w0 w1
 refine ⟨w,rfl,_,ed,?_⟩
 exact sb.rt fun M' s=>q d M' s (Gu d hd)
noncomputable abbrev MQ (a b:Int)(o:Dat):List Dat:=[.tup [.str (ap "swap"),.int a,.int b],.tup [.str (ap "swap"),.int b,.int a],.tup [.str (ap "swap"),.int a,.int a],.tup [.str (ap "move"),.int a,.int b],.tup [.str (ap "take"),.int a],.tup [.str (ap "lay"),.int a],.lst [.str (ap "swap"),.int a,.int b],.tup [.str (ap "swap"),.int a],.tup [.str (ap "swap"),.int a,.int b,.int 0],.tup [.str (ap "swap"),.bl (decide (a=1)),.int b],.tup [.str (ap "swap"),.int (-1),.int b],.tup [.str (ap "Swap"),.int a,.int b],o]
theorem Gr {a b:Int}{o:Dat}(ha:a.natAbs<10 ^ 20)(hb:b.natAbs<10 ^ 20)(ho:OkE o):∀ d ∈ MQ a b o,OkE d:=by
  have i1:=ki ha
  have i2:=ki hb
  have i0:∀ i:Int,i.natAbs<=10->ItD (.int i):=fun i h=>ki (b8 h (by decide))
  have w:∀ s:String,Sh 100 (.str (ap s))->ItD (.str (ap s)):=fun s h=>Ao h
  have wm:=w "move" ⟨by decide +kernel,by decide +kernel⟩
  have wt:=w "take" ⟨by decide +kernel,by decide +kernel⟩
  have wl:=w "lay" ⟨by decide +kernel,by decide +kernel⟩
  have wS:=w "Swap" ⟨by decide +kernel,by decide +kernel⟩
  intro d hd
  simp only [aE,aT,or_false] at hd
  rcases hd with rfl | rfl | rfl | rfl | rfl | rfl | rfl | rfl | rfl | rfl | rfl | rfl | rfl
  all_goals first
    | exact ho
    | (refine (jl (by simp) fun d hd=>?_).1
       simp only [aE,aT,or_false] at hd
       first
         | (rcases hd with rfl | rfl | rfl | rfl <;> first | exact kP | assumption | exact vE _ | exact i0 _ (by decide))
         | (rcases hd with rfl | rfl | rfl <;> first | exact kP | assumption | exact vE _ | exact i0 _ (by decide))
         | (rcases hd with rfl | rfl <;> first | exact kP | assumption | exact vE _ | exact i0 _ (by decide)))
    | (refine (jl (by simp) fun d hd=>?_).2
       simp only [aE,aT,or_false] at hd
       rcases hd with rfl | rfl | rfl <;> first | exact kP | assumption)
noncomputable def GT:ASp:=fun xs M Q=>∃ (b:aw) (N n:Nat),xs=[.ref b,.d (.int n)]/\BxM M b N/\N<990000/\n<=1000/\∀ x M',BxS M M' b (N+4)->OkE x->Q (.d x) M'
noncomputable abbrev Kh:de:=top 31
theorem Ys:zr ["_law_box_here","_law_n","_law_some","_law_a","_law_b"] ["_law_box_here","_law_n"] (zf Kh):=⟨rfl,rfl,rfl,by decide +kernel,rfl,by decide +kernel,by decide +kernel⟩
theorem EG (a:At K mg "_law_other" Kh)(B:Blt mg)(D_law_take:Df P w K mg base "_law_take" ["_law_box_here","_law_many"] 2 (cSp wr))(D_law_odd:Df P w K mg base "_law_odd" ["_law_box_here"] 2 (cSp Ec)):Df P w K mg base "_law_other" ["_law_box_here","_law_n"] 3 (cSp GT):=by
 refine dfA (k:=2) a Ys (fun _ _ _ _ _ _=>Pn2_ fun _ _=>rfl) (fun xs M Q h=>?_) (fun f cdv A outer s H E hr=>?_)
 ·obtain ⟨_,_,_,rfl,_⟩:=h;rfl
 have sc:=Ys
 have hsl:=hsl
 refine' ⟨_,?q0,?qr⟩
 (case q0=>
  refine' zd ?q1 ?q2
  (case q1=>exact (JX (i:=3) (j:=4) rfl sc.nd rfl rfl (by decide) rfl rfl (za (zT D_law_take hr rfl (za (pv 0) (za (zp qa (pv 1) zc) zb))) (za (zT D_law_take hr rfl (za (pv 0) (za (zp qa (pv 1) zc) zb))) zb)) rfl))
  (case q2=>
   refine' zd ?q3 ?q4
   (case q3=>
    refine' zy (i:=2) ?q5 ?q6 ?q7 ?q8
    (case q5=>exact sc.nd)
    (case q6=>exact rfl)
    (case q7=>exact (by first | exact bf rfl | exact bg rfl))
    (case q8=>
     refine' zL ?q9
     (case q9=>
      refine' za ?q10 ?q11
      (case q10=>exact (zA (za zI (za (pv 3) (za (pv 4) zb)))))
      (case q11=>
       refine' za ?q12 ?q13
       (case q12=>exact (zA (za zI (za (pv 4) (za (pv 3) zb)))))
       (case q13=>
        refine' za ?q14 ?q15
        (case q14=>exact (zA (za zI (za (pv 3) (za (pv 3) zb)))))
        (case q15=>
         refine' za ?q16 ?q17
         (case q16=>exact (zA (za zI (za (pv 3) (za (pv 4) zb)))))
         (case q17=>
          refine' za ?q18 ?q19
          (case q18=>exact (zA (za zI (za (pv 3) zb))))
          (case q19=>
           refine' za ?q20 ?q21
           (case q20=>exact (zA (za zI (za (pv 3) zb))))
           (case q21=>
            refine' za ?q22 ?q23
            (case q22=>exact (zL (za zI (za (pv 3) (za (pv 4) zb)))))
            (case q23=>exact zb))))))))))
   (case q4=>
    refine' zd ?q24 ?q25
    (case q24=>
     refine' zy (i:=2) ?q26 ?q27 ?q28 ?q29
     (case q26=>exact sc.nd)
     (case q27=>exact rfl)
     (case q28=>exact (by first | exact bf rfl | exact bg rfl))
     (case q29=>
      refine' zp ?q30 ?q31 ?q32
      (case q30=>exact qu)
      (case q31=>exact (pv 2))
      (case q32=>
       refine' zL ?q33
       (case q33=>
        refine' za ?q34 ?q35
        (case q34=>exact (zA (za zI (za (pv 3) zb))))
        (case q35=>
         refine' za ?q36 ?q37
         (case q36=>exact (zA (za zI (za (pv 3) (za (pv 4) (za zc zb))))))
         (case q37=>
          refine' za ?q38 ?q39
          (case q38=>exact (zA (za zI (za (jm (qC hr.units) (pv 3) zc (zH _)) (za (pv 4) zb)))))
          (case q39=>
           refine' za ?q40 ?q41
           (case q40=>exact (zA (za zI (za (Jr wn zc) (za (pv 4) zb)))))
           (case q41=>
            refine' za ?q42 ?q43
            (case q42=>exact (zA (za zI (za (pv 3) (za (pv 4) zb)))))
            (case q43=>
             refine' za ?q44 ?q45
             (case q44=>exact (zT D_law_odd hr rfl (za (pv 0) zb)))
             (case q45=>exact zb))))))))))
    (case q25=>exact (zh (zK (zB zV (pv 2) (zT D_law_take hr rfl (za (pv 0) (za zc zb))) (fun _ _=>rfl))))))))
 refine ex2 (by walk_at "sim") ?_
 rintro xs M Q ⟨b,N,n,rfl,hb,hN,hn,q⟩
 rw [show zR ["_law_box_here","_law_n","_law_some","_law_a","_law_b"] [.ref b,.d (.int n)]=[some (.ref b),some (.d (.int n)),none,none,none] from rfl]
 have sb:=SB.refl hb
 refine ze fun r1 hr1=>?_
 walk_at "ra"
 refine ⟨b,(n:Int)+1,_,rfl,sb.bx,by omega,by omega,by omega,fun u M1 s1 p0 p1=>?_⟩
 have sb:=sb.go s1
 refine ⟨b,(n:Int)+1,_,rfl,sb.bx,by omega,by omega,by omega,fun v M2 s2 o0 o1=>?_⟩
 have sb:=sb.go s2
 have bu:u.natAbs<10 ^ 20:=b8 (show _<=1002 by omega) (by decide)
 have bv:v.natAbs<10 ^ 20:=b8 (show _<=1002 by omega) (by decide)
 subst hr1
 refine ze fun r1 hr1=>?_
 walk_at "ra"
 repeat (first | refine And.intro (by omega) ?_ | refine And.intro ⟨by decide,by decide,by decide⟩ ?_)
 subst hr1
 refine ze fun r1 hr1=>?_
 walk_at "ra"
 repeat (first | refine And.intro (by omega) ?_ | refine And.intro ⟨by decide,by decide,by decide⟩ ?_)
 refine ⟨b,_,rfl,sb.bx,by omega,fun o M3 s3 ho=>⟨by omega,_,rfl,by simp only [aN,bV];omega,?_⟩⟩
 have sb:=sb.go s3
 subst hr1
 walk_at "ra"
 refine ⟨b,13,_,rfl,sb.bx,by omega,by omega,by omega,fun w M4 s4 w0 w1=>?_⟩
 have sb:=sb.go s4
 obtain ⟨d,hd,ed⟩:=Eo (l:=MQ u v o) (i:=w) w0 w1
 refine ⟨w,rfl,_,ed,?_⟩
 exact (sb.mono (show _<=N+4 by omega)).rt fun M' s=>q d M' s (Gr bu bv ho d hd)
noncomputable def trD (x:Int):Dat:=if x<2 then .bl (decide (x=1)) else .int x
noncomputable abbrev bdL (a b:Int):List Dat:=[.lst [.str (ap "swap"),.int a,.int b],.tup [.str (ap "swap"),.int a,.int b,.int 0],.tup [.str (ap "swap"),.int a],.tup [.str (ap "swap"),trD a,trD b],.tup [.str (ap "swap"),trD a,trD b],.tup [.lst [.str (ap "swap")],.int a,.int b],.tup [.tup [.str (ap "swap")],.int a,.int b],.tup [.non,.int a,.int b],.tup [.str (ap "swap"),.lst [.int a],.int b],.tup [.tup [.str (ap "swap"),.int a,.int b]]]
theorem HN {a b:Nat}(la:a<=2000)(lb:b<=2000):∀ d ∈ bdL a b,OkE d:=by
  have ba:((a:Int)).natAbs<10 ^ 20:=b8 (show _<=2000 by omega) (by decide)
  have bb:((b:Int)).natAbs<10 ^ 20:=b8 (show _<=2000 by omega) (by decide)
  have i1:=ki ba
  have i2:=ki bb
  have i0:ItD (.int 0):=ki (by decide)
  have ws:Sh 22 (.str (ap "swap")):=⟨by decide +kernel,by decide +kernel⟩
  have tr:∀ {x:Nat},x<=2000->ItD (trD x):=fun {x} h=>by
    unfold trD
    split
    · exact vE _
    · exact ki (b8 (show _<=2000 by omega) (by decide))
  have t1:=tr la
  have t2:=tr lb
  have w1:=GD (x:=.str (ap "swap")) (by rw [yM];omega) ws
  have w2:=GD (x:=.int (a:Int)) (by rw [kE];omega) (Qw ba)
  have w3:ItD (.tup [.str (ap "swap"),.int a,.int b]):=⟨by simp [dp,dps],(QA (b:=22) (n:=3) (by simp) fun d hd=>by
    simp only [aE,aT,or_false] at hd
    rcases hd with rfl | rfl | rfl
    · exact ws
    · exact Qw ba
    · exact Qw bb).mono (by decide),fun l e=>by cases e;simp⟩
  have w1a:=w1.1
  have w1b:=w1.2
  have w2a:=w2.1
  intro d hd
  simp only [aE,aT,or_false] at hd
  rcases hd with rfl | rfl | rfl | rfl | rfl | rfl | rfl | rfl | rfl | rfl
  all_goals first
    | (refine (jl (by simp) fun d hd=>?_).1
       simp only [aE,aT,or_false] at hd
       first
         | (rcases hd with rfl | rfl | rfl | rfl <;> first | exact kP | exact vB | assumption)
         | (rcases hd with rfl | rfl | rfl <;> first | exact kP | exact vB | assumption)
         | (rcases hd with rfl | rfl <;> first | exact kP | exact vB | assumption)
         | (subst hd;assumption))
    | (refine (jl (by simp) fun d hd=>?_).2
       simp only [aE,aT,or_false] at hd
       rcases hd with rfl | rfl | rfl <;> first | exact kP | assumption)
noncomputable def MU:ASp:=fun xs M Q=>∃ (bx:aw) (N a b:Nat),xs=[.ref bx,.d (dD (.swap a b))]/\BxM M bx N/\N<1000000/\a<=2000/\b<=2000/\∀ x M',BxS M M' bx (N+1)->OkE x->Q (.d x) M'
noncomputable abbrev V6:de:=top 32
theorem B3:zr ["_law_box_here","_law_deed","_law_truths","_law_some","_law_one"] ["_law_box_here","_law_deed"] (zf V6):=⟨rfl,rfl,rfl,by decide +kernel,rfl,by decide +kernel,by decide +kernel⟩
theorem HE (a:At K mg "_law_bent_deed" V6)(B:Blt mg)(D_law_take:Df P w K mg base "_law_take" ["_law_box_here","_law_many"] 1 (cSp wr)):Df P w K mg base "_law_bent_deed" ["_law_box_here","_law_deed"] 2 (cSp MU):=by
 refine dfA (k:=1) a B3 (fun _ _ _ _ _ _=>Pn2_ fun _ _=>rfl) (fun xs M Q h=>?_) (fun f cdv A outer s H E hr=>?_)
 ·obtain ⟨_,_,_,_,rfl,_⟩:=h;rfl
 have sc:=B3
 have hsl:=hsl
 refine' ⟨_,?q0,?qr⟩
 (case q0=>
  refine' zd ?q1 ?q2
  (case q1=>exact (zy (i:=2) sc.nd rfl (by first | exact bf rfl | exact bg rfl) (zU qy rfl B.tuple qJ (za (qR (ts:=[4]) rfl rfl (xu (zx ji (pv 1) (zz zc) zF)) (fun _ _ _ _=>(zu (i:=4) sc.nd rfl (by first | exact bf rfl | exact bg rfl))) (fun _ _ _ _=>qg) (fun _ _ _ _=>(zB (jK (K:=K) rfl) (zL (za (pv 4) (za (jm (qC hr.units) (pv 4) zc (zH _)) zb))) (zU ky rfl B.int xT (za (jm Yw (pv 4) zc (zH _)) zb)) (fun _ _=>rfl)))) zb))))
  (case q2=>
   refine' zd ?q3 ?q4
   (case q3=>
    refine' zy (i:=3) ?q5 ?q6 ?q7 ?q8
    (case q5=>exact sc.nd)
    (case q6=>exact rfl)
    (case q7=>exact (by first | exact bf rfl | exact bg rfl))
    (case q8=>
     refine' zL ?q9
     (case q9=>
      refine' za ?q10 ?q11
      (case q10=>exact (zU jD rfl B.list jV (za (pv 1) zb)))
      (case q11=>
       refine' za ?q12 ?q13
       (case q12=>exact (zp jz (pv 1) (zA (za zc zb))))
       (case q13=>
        refine' za ?q14 ?q15
        (case q14=>exact (zx ji (pv 1) zF (zz zc)))
        (case q15=>
         refine' za ?q16 ?q17
         (case q16=>exact (zp jz (zx ji (pv 1) zF (zz zc)) (pv 2)))
         (case q17=>
          refine' za ?q18 ?q19
          (case q18=>exact (zp jz (zx ji (pv 1) zF (zz zc)) (pv 2)))
          (case q19=>
           refine' za ?q20 ?q21
           (case q20=>exact (zp jz (zA (za (zL (za (zB zV (pv 1) zc (fun _ _=>rfl)) zb)) zb)) (zx ji (pv 1) (zz zc) zF)))
           (case q21=>exact zb)))))))))
   (case q4=>exact (zd (zy (i:=3) sc.nd rfl (by first | exact bf rfl | exact bg rfl) (zp qu (pv 3) (zL (za (zp jz (zA (za (zx ji (pv 1) zF (zz zc)) zb)) (zx ji (pv 1) (zz zc) zF)) (za (zp jz (zA (za jk zb)) (zx ji (pv 1) (zz zc) zF)) (za (zp jz (zp jz (zx ji (pv 1) zF (zz zc)) (zA (za (zL (za (zB zV (pv 1) zc (fun _ _=>rfl)) zb)) zb))) (zx ji (pv 1) (zz zc) zF)) (za (zA (za (pv 1) zb)) zb))))))) (zh (zK (zB zV (pv 3) (zT D_law_take hr rfl (za (pv 0) (za zc zb))) (fun _ _=>rfl))))))))
 refine ex2 (by walk_at "sim") ?_
 rintro xs M Q ⟨bx,N,a,b,rfl,hb,hN,la,lb,q⟩
 rw [show zR ["_law_box_here","_law_deed","_law_truths","_law_some","_law_one"] [.ref bx,.d (dD (.swap a b))]=[some (.ref bx),some (.d (.tup [.str (ap "swap"),.int a,.int b])),none,none,none] from rfl]
 have sb:=SB.refl hb
 refine ze fun r1 hr1=>?_
 walk_at "ra"
 refine ⟨by decide,?_⟩
 rw [show qN [Dat.str (ap "swap"),Dat.int (a:Int),Dat.int (b:Int)] (some 1) none=[Dat.int (a:Int),Dat.int (b:Int)] from jE _ 1]
 refine jC (fun o=>[some (.ref bx),some (AV.d (.tup [.str (ap "swap"),.int a,.int b])),none,none,o]) (fun x:Int=>AV.d (.int x)) (fun x=>AV.d (trD x)) [(a:Int),(b:Int)] ⟨_,rfl⟩ trivial (by simp) (fun o x Q hx q=>?_) fun o=>?_
 ·walk_at "ra"
  have hq:=q (some (.d (.int x)))
  unfold trD at hq
  by_cases c:x<2
  ·rw [if_pos c] at hq ⊢
   exact ⟨by omega,_,rfl,hq⟩
  ·rw [if_neg c] at hq ⊢
   exact ⟨by omega,_,rfl,hq⟩
 refine ⟨[trD a,trD b],rfl,?_⟩
 walk_at "ra"
 subst hr1
 refine ze fun r1 hr1=>?_
 walk_at "ra"
 have c1:∀ x y z:Dat,qN [x,y,z] none (some 1)=[x]:=fun _ _ _=>rfl
 have c2:∀ x y z:Dat,qN [x,y,z] none (some 2)=[x,y]:=fun _ _ _=>rfl
 have c3:∀ x y z:Dat,qN [x,y,z] (some 1) none=[y,z]:=fun _ _ _=>jE _ 1
 have c4:∀ x y z:Dat,qN [x,y,z] (some 2) none=[z]:=fun _ _ _=>jE _ 2
 have n1:¬ (HT.sIx (0+1+1+1) 0 none=0/\HT.sIx (0+1+1+1) (0+1+1+1) (some 2)=0+1+1+1):=by decide
 have n2:¬ (HT.sIx (0+1+1+1) 0 none=0/\HT.sIx (0+1+1+1) (0+1+1+1) (some 1)=0+1+1+1):=by decide
 have n3:¬ (HT.sIx (0+1+1+1) 0 (some 1)=0/\HT.sIx (0+1+1+1) (0+1+1+1) none=0+1+1+1):=by decide
 have n4:¬ (HT.sIx (0+1+1+1) 0 (some 2)=0/\HT.sIx (0+1+1+1) (0+1+1+1) none=0+1+1+1):=by decide
 simp only [c1,c2,c3,c4]
 repeat (first | refine And.intro (by omega) ?_ | refine And.intro n1 ?_ | refine And.intro n2 ?_ | refine And.intro n3 ?_ | refine And.intro n4 ?_ | refine And.intro (fN _ _) ?_ | refine And.intro (by simp only [aN,bV];omega) ?_)
 refine ⟨_,rfl,by omega,_,rfl,?_⟩
 repeat (first | refine And.intro (by omega) ?_ | refine And.intro n1 ?_ | refine And.intro n2 ?_ | refine And.intro n3 ?_ | refine And.intro n4 ?_ | refine And.intro (fN _ _) ?_ | refine And.intro (by simp only [aN,bV];omega) ?_)
 subst hr1
 refine ze fun r1 hr1=>?_
 walk_at "ra"
 simp only [c1,c2,c3,c4]
 repeat (first | refine And.intro (by omega) ?_ | refine And.intro n1 ?_ | refine And.intro n2 ?_ | refine And.intro n3 ?_ | refine And.intro n4 ?_ | refine And.intro (fN _ _) ?_ | refine And.intro (by simp only [aN,bV];omega) ?_)
 refine ⟨_,rfl,by omega,_,rfl,by omega,fN _ _,by simp only [aN,bV];omega,n4,by simp,by simp only [bc,aN,bV];omega,by omega,by omega,by omega,?_⟩
 subst hr1
 walk_at "ra"
 refine ⟨bx,10,_,rfl,sb.bx,by omega,by omega,by omega,fun w M1 s1 w0 w1=>?_⟩
 have sb:=sb.go s1
 obtain ⟨d,hd,ed⟩:=Eo (l:=bdL a b) (i:=w) w0 w1
 refine ⟨w,rfl,_,ed,?_⟩
 exact sb.rt fun M' s=>q d M' s (HN la lb d hd)
noncomputable def tnD:De->De
 | .swap a b=>.swap b a
 | d=>d
structure G5 (n:Nat)(xs:List Dat):Prop where
 l:xs.length<=n
 e:∀ d ∈ xs,OkE d
theorem G5.app {m n:Nat}{a b:List Dat}(h1:G5 m a)(h2:G5 n b):G5 (m+n) (a ++ b):=⟨by rw [bc];have:=h1.l;have:=h2.l;omega,fun d hd=>(cY.mp hd).elim (h1.e d) (h2.e d)⟩
theorem G5.rev {a:List Dat}(h:G5 n a):G5 n a.reverse:=⟨by rw [bn];exact h.l,fun d hd=>h.e d (oB.mp hd)⟩
noncomputable def Mj:ASp:=fun xs M Q=>∃ (bx:aw) (N n:Nat) (ds:List De),xs=[.ref bx,.d (.lst (ds.map dD)),.d (.int n)]/\BxM M bx N/\N<900000/\n<=1000/\ds.length<=200/\(∀ d ∈ ds,∃ a b,d=.swap a b/\a<=1000/\b<=1000)/\∀ x l M',BxS M M' bx (N+12)->(x=.lst l \/ x=.tup l)->l.length<=1000->(∀ d ∈ l,OkE d)->Q (.d x) M'
noncomputable abbrev Aj:de:=top 33
theorem Wc:zr ["_law_box_here","_law_plan","_law_n","_law_turned","_law_some","_law_found","_law_at","_law_to","_law_other_here","_law_deed"] ["_law_box_here","_law_plan","_law_n"] (zf Aj):=⟨rfl,rfl,rfl,by decide +kernel,rfl,by decide +kernel,by decide +kernel⟩
theorem IU (a:At K mg "_law_bent" Aj)(B:Blt mg)(D_law_take:Df P w K mg base "_law_take" ["_law_box_here","_law_many"] 3 (cSp wr))(D_law_other:Df P w K mg base "_law_other" ["_law_box_here","_law_n"] 3 (cSp GT))(D_law_bent_deed:Df P w K mg base "_law_bent_deed" ["_law_box_here","_law_deed"] 3 (cSp MU)):Df P w K mg base "_law_bent" ["_law_box_here","_law_plan","_law_n"] 4 (cSp Mj):=by
 refine dfA (k:=3) a Wc (fun _ _ _ _ _ _=>Pn3_ fun _ _ _=>rfl) (fun xs M Q h=>?_) (fun f cdv A outer s H E hr=>?_)
 ·obtain ⟨_,_,_,_,rfl,_⟩:=h;rfl
 have sc:=Wc
 have hsl:=hsl
 refine' ⟨_,?q0,?qr⟩
 (case q0=>
  refine' zd ?q1 ?q2
  (case q1=>
   refine' JX (i:=6) (j:=7) ?q3 ?q4 ?q5 ?q6 ?q7 ?q8 ?q9 ?q10 ?q11
   (case q3=>exact rfl)
   (case q4=>exact sc.nd)
   (case q5=>exact rfl)
   (case q6=>exact rfl)
   (case q7=>exact (by decide))
   (case q8=>exact rfl)
   (case q9=>exact rfl)
   (case q10=>
    refine' za ?q12 ?q13
    (case q12=>
     refine' zT ?q14 ?q15 ?q16 ?q17
     (case q14=>exact D_law_take)
     (case q15=>exact hr)
     (case q16=>exact rfl)
     (case q17=>
      refine' za ?q18 ?q19
      (case q18=>exact (pv 0))
      (case q19=>
       refine' za ?q20 ?q21
       (case q20=>exact (zp qa (zm zE rfl B.len qB (za (pv 1) zb)) zc))
       (case q21=>exact zb))))
    (case q13=>
     refine' za ?q22 ?q23
     (case q22=>
      refine' zT ?q24 ?q25 ?q26 ?q27
      (case q24=>exact D_law_take)
      (case q25=>exact hr)
      (case q26=>exact rfl)
      (case q27=>
       refine' za ?q28 ?q29
       (case q28=>exact (pv 0))
       (case q29=>
        refine' za ?q30 ?q31
        (case q30=>exact (zp qa (zm zE rfl B.len qB (za (pv 1) zb)) zc))
        (case q31=>exact zb))))
     (case q23=>exact zb)))
   (case q11=>exact rfl))
  (case q2=>
   refine' zd ?q32 ?q33
   (case q32=>
    refine' JX (i:=1) (j:=8) ?q34 ?q35 ?q36 ?q37 ?q38 ?q39 ?q40 ?q41 ?q42
    (case q34=>exact rfl)
    (case q35=>exact sc.nd)
    (case q36=>exact rfl)
    (case q37=>exact rfl)
    (case q38=>exact (by decide))
    (case q39=>exact rfl)
    (case q40=>exact rfl)
    (case q41=>
     refine' za ?q43 ?q44
     (case q43=>exact (zU jD rfl B.list jV (za (pv 1) zb)))
     (case q44=>
      refine' za ?q45 ?q46
      (case q45=>
       refine' zT ?q47 ?q48 ?q49 ?q50
       (case q47=>exact D_law_other)
       (case q48=>exact hr)
       (case q49=>exact rfl)
       (case q50=>
        refine' za ?q51 ?q52
        (case q51=>exact (pv 0))
        (case q52=>
         refine' za ?q53 ?q54
         (case q53=>exact (pv 2))
         (case q54=>exact zb))))
      (case q46=>exact zb)))
    (case q42=>exact rfl))
   (case q33=>
    refine' zd ?q55 ?q56
    (case q55=>exact (vt (j:=3) rfl sc.nd rfl (by first | exact bf rfl | exact bg rfl) (ts:=[9]) rfl (xu (pv 1)) (fun _ _ _ _=>(zu (i:=9) sc.nd rfl (by first | exact bf rfl | exact bg rfl))) (fun _ _ _ _=>qg) (fun _ _ _ _=>(zp (AQ (K:=K) rfl) (zx (Fb (K:=K) rfl) (pv 9) zF (zz zc)) (VW (K:=K) rfl (pv 9) (zz zc) (zz (Jr wn zc)))))))
    (case q56=>
     refine' zd ?q57 ?q58
     (case q57=>
      refine' zy (i:=4) ?q59 ?q60 ?q61 ?q62
      (case q59=>exact sc.nd)
      (case q60=>exact rfl)
      (case q61=>exact (by first | exact bf rfl | exact bg rfl))
      (case q62=>
       refine' zL ?q63
       (case q63=>
        refine' za ?q64 ?q65
        (case q64=>exact (zp qu (zx qb (pv 1) zF (zz (pv 6))) (zx qb (pv 1) (zz (zp qa (pv 6) zc)) zF)))
        (case q65=>
         refine' za ?q66 ?q67
         (case q66=>exact (zp qu (zp qu (zx qb (pv 1) zF (zz (pv 6))) (zL (za (pv 8) zb))) (zx qb (pv 1) (zz (pv 6)) zF)))
         (case q67=>
          refine' za ?q68 ?q69
          (case q68=>exact (zp qu (zp qu (zx qb (pv 1) zF (zz (pv 6))) (zx qb (pv 1) (zz (pv 6)) (zz (zp qa (pv 6) zc)))) (zx qb (pv 1) (zz (pv 6)) zF)))
          (case q69=>exact zb))))))
     (case q58=>
      refine' zd ?q70 ?q71
      (case q70=>
       refine' zy (i:=4) ?q72 ?q73 ?q74 ?q75
       (case q72=>exact sc.nd)
       (case q73=>exact rfl)
       (case q74=>exact (by first | exact bf rfl | exact bg rfl))
       (case q75=>
        refine' zp ?q76 ?q77 ?q78
        (case q76=>exact qu)
        (case q77=>exact (pv 4))
        (case q78=>
         refine' zL ?q79
         (case q79=>
          refine' za ?q80 ?q81
          (case q80=>exact (Zl (pv 1) (zz (Jr wn zc))))
          (case q81=>
           refine' za ?q82 ?q83
           (case q82=>exact (pv 3))
           (case q83=>
            refine' za ?q84 ?q85
            (case q84=>exact (zp qu (zp qu (zx qb (pv 1) zF (zz (pv 6))) (zL (za (pv 8) zb))) (zx qb (pv 1) (zz (zp qa (pv 6) zc)) zF)))
            (case q85=>
             refine' za ?q86 ?q87
             (case q86=>exact (zp qu (zp qu (zx qb (pv 1) zF (zz (pv 6))) (zL (za (pv 8) zb))) (zx qb (pv 1) (zz (zp qa (pv 6) zc)) zF)))
             (case q87=>exact zb))))))))
      (case q71=>
       refine' zd ?q88 ?q89
       (case q88=>
        refine' zy (i:=4) ?q90 ?q91 ?q92 ?q93
        (case q90=>exact sc.nd)
        (case q91=>exact rfl)
        (case q92=>exact (by first | exact bf rfl | exact bg rfl))
        (case q93=>
         refine' zp ?q94 ?q95 ?q96
         (case q94=>exact qu)
         (case q95=>exact (pv 4))
         (case q96=>
          refine' zL ?q97
          (case q97=>
           refine' za ?q98 ?q99
           (case q98=>exact (zp qu (zx qb (pv 1) (zz (pv 7)) zF) (zx qb (pv 1) zF (zz (pv 7)))))
           (case q99=>
            refine' za ?q100 ?q101
            (case q100=>exact (zp qu (pv 1) (zp KN (zL (za (zA (za zI (za zc (za zc zb)))) zb)) zc)))
            (case q101=>exact zb))))))
       (case q89=>
        refine' zd ?q102 ?q103
        (case q102=>exact (zy (i:=5) sc.nd rfl (by first | exact bf rfl | exact bg rfl) (zB zV (pv 4) (zT D_law_take hr rfl (za (pv 0) (za zc zb))) (fun _ _=>rfl))))
        (case q103=>
         refine' zd ?q104 ?q105
         (case q104=>
          refine' qj ?q106 ?q107 ?q108
          (case q106=>exact (PW.pt (IF (zJ Yw (pv 6) (zm zE rfl B.len qB (za (pv 1) zb)) (zH _)) (Gz (zJ (qC hr.units) (zT D_law_take hr rfl (za (pv 0) (za zc zb))) zc (zH _))))))
          (case q107=>
           refine' zh ?q109
           (case q109=>
            refine' zy (i:=5) ?q110 ?q111 ?q112 ?q113
            (case q110=>exact sc.nd)
            (case q111=>exact rfl)
            (case q112=>exact (by first | exact bf rfl | exact bg rfl))
            (case q113=>
             refine' zp ?q114 ?q115 ?q116
             (case q114=>exact qu)
             (case q115=>
              refine' zp ?q117 ?q118 ?q119
              (case q117=>exact qu)
              (case q118=>exact (zx qb (pv 1) zF (zz (pv 6))))
              (case q119=>
               refine' zL ?q120
               (case q120=>
                refine' za ?q121 ?q122
                (case q121=>
                 refine' zT ?q123 ?q124 ?q125 ?q126
                 (case q123=>exact D_law_bent_deed)
                 (case q124=>exact hr)
                 (case q125=>exact rfl)
                 (case q126=>
                  refine' za ?q127 ?q128
                  (case q127=>exact (pv 0))
                  (case q128=>
                   refine' za ?q129 ?q130
                   (case q129=>exact (zB zV (pv 1) (pv 6) (fun _ _=>rfl)))
                   (case q130=>exact zb))))
                (case q122=>exact zb))))
             (case q116=>exact (zx qb (pv 1) (zz (zp qa (pv 6) zc)) zF)))))
          (case q108=>exact zO))
         (case q105=>exact (zh (zK (zB zV (zL (za (pv 5) (za (zU qy rfl B.tuple qJ (za (pv 5) zb)) zb))) (zT D_law_take hr rfl (za (pv 0) (za zc zb))) (fun _ _=>rfl)))))))))))))
 refine ex2 (by walk_at "sim") ?_
 rintro xs M Q ⟨bx,N,n,ds,rfl,hb,hN,hn,ld,hs,q⟩
 rw [show zR ["_law_box_here","_law_plan","_law_n","_law_turned","_law_some","_law_found","_law_at","_law_to","_law_other_here","_law_deed"] [.ref bx,.d (.lst (ds.map dD)),.d (.int n)]=[some (.ref bx),some (.d (.lst (ds.map dD))),some (.d (.int n)),none,none,none,none,none,none,none] from rfl]
 have sb:=SB.refl hb
 refine ze fun r1 hr1=>?_
 walk_at "ra"
 refine ⟨bx,_,_,rfl,sb.bx,by omega,by omega,by omega,fun at_ M1 s1 a0 a1=>?_⟩
 have sb:=sb.go s1
 refine ⟨bx,_,_,rfl,sb.bx,by omega,by omega,by omega,fun to_ M2 s2 t0 t1=>?_⟩
 have sb:=sb.go s2
 subst hr1
 refine ze fun r1 hr1=>?_
 walk_at "ra"
 refine ⟨bx,_,n,rfl,sb.bx,by omega,hn,fun oth M3 s3 hoth=>?_⟩
 have sb:=sb.go s3
 subst hr1
 refine ze fun r1 hr1=>?_
 walk_at "ra"
 rw [bR]
 have c1:∀ x y z:Dat,qN [x,y,z] none (some 1)=[x]:=fun _ _ _=>rfl
 have n2:¬ (HT.sIx (0+1+1+1) 0 none=0/\HT.sIx (0+1+1+1) (0+1+1+1) (some 1)=0+1+1+1):=by decide
 refine jC (fun o=>[some (AV.ref bx),some (AV.d (Dat.lst (bp dD ds))),some (AV.d (Dat.int ↑n)),none,none,none,some (AV.d (Dat.int at_)),some (AV.d (Dat.int to_)),some (AV.d oth),o]) (AV.d ∘ dD) (fun d=>AV.d (dD (tnD d))) ds ⟨_,rfl⟩ trivial (by omega) (fun o d Q hd q=>?_) fun o=>?_
 ·obtain ⟨a,b,rfl,_,_⟩:=hs d hd
  rw [show (AV.d ∘ dD) (De.swap a b)=AV.d (Dat.tup [Dat.str (ap "swap"),Dat.int (a:Int),Dat.int (b:Int)]) from rfl]
  walk_at "ra"
  simp only [c1]
  exact ⟨n2,by omega,fN _ _,by simp only [aN,bV,List.drop_succ_cons,List.drop_zero,bn];omega,q _⟩
 have et:ds.map (fun d=>AV.d (dD (tnD d)))=((ds.map tnD).map dD).map AV.d:=by rw [bR,bR];rfl
 rw [et]
 refine ⟨_,zS _,?_⟩
 have okD:∀ d ∈ ds.map dD,OkE d:=fun d hd=>by
  obtain ⟨e,he,rfl⟩:=bZ.mp hd
  obtain ⟨a,b,rfl,la,lb⟩:=hs e he
  exact Qb (by omega) (by omega)
 have okT:∀ d ∈ (ds.map tnD).map dD,OkE d:=fun d hd=>by
  obtain ⟨e,he,rfl⟩:=bZ.mp hd
  obtain ⟨e2,he2,rfl⟩:=bZ.mp he
  obtain ⟨a,b,rfl,la,lb⟩:=hs e2 he2
  exact Qb (by omega) (by omega)
 have lD:(ds.map dD).length<=200:=by rw [az];exact ld
 have lT:((ds.map tnD).map dD).length<=200:=by rw [az,az];exact ld
 have mt:∀ i (h:i<ds.length),∃ a b,(ds.map dD)[i]?=some (dD (.swap a b))/\a<=1000/\b<=1000:=fun i h=>by
  obtain ⟨a,b,e,la,lb⟩:=hs ds[i] (bh h)
  exact ⟨a,b,by rw [aD,af h,e];rfl,la,lb⟩
 have lq:(ds.map dD).length=ds.length:=az _
 generalize ds.map dD=D at *
 generalize (ds.map tnD).map dD=T at *
 have pc:∀ lo hi,pur (qN (D.map AV.d) lo hi)=some (qN D lo hi):=fun lo hi=>by rw [Js,zS]
 have gc:∀ lo hi,G5 200 (qN D lo hi):=fun lo hi=>⟨by unfold qN;rw [cg,bN];omega,fun d hd=>okD d (List.mem_of_mem_drop (mO hd))⟩
 have pa:∀ a b:List Dat,pur (a.map AV.d ++ b.map AV.d)=some (a ++ b):=fun a b=>by rw [<- bX];exact zS _
 have g1:G5 1 [oth]:=⟨by simp,fun d hd=>by rw [bW.mp hd];exact hoth⟩
 subst hr1
 refine ze fun r1 hr1=>?_
 walk_at "ra"
 have sz:∀ {m n:Nat} {a b:List Dat},G5 m a->G5 n b->m+n<=1000->a.length+b.length<=aM:=fun h1 h2 h=>aZ (Nat.add_le_add h1.l h2.l) (by omega)
 have po:∀ a:List Dat,pur (a.map AV.d ++ [AV.d oth])=some (a ++ [oth]):=fun a=>pa a [oth]
 refine ⟨_,pc _ _,_,pc _ _,sz (gc _ _) (gc _ _) (by omega),_,pa _ _,_,pc _ _,by omega,aZ (hJ (gc _ _).l _) (by omega),_,po _,_,pc _ _,sz ((gc _ _).app g1) (gc _ _) (by omega),_,pa _ _,_,pc _ _,_,pc _ _,sz (gc _ _) (gc _ _) (by omega),_,pa _ _,_,pc _ _,sz ((gc _ _).app (gc _ _)) (gc _ _) (by omega),_,pa _ _,by omega,?_⟩
 have A1:=(gc none (some at_)).app (gc (some (at_+1)) none)
 have A2:=((gc none (some at_)).app g1).app (gc (some at_) none)
 have A3:=((gc none (some at_)).app (gc (some at_) (some (at_+1)))).app (gc (some at_) none)
 have A4:=((gc none (some at_)).app g1).app (gc (some (at_+1)) none)
 have A5:=(gc (some to_) none).app (gc none (some to_))
 subst hr1
 refine ze fun r1 hr1=>?_
 walk_at "ra"
 refine .inl ⟨_,pc _ _,by omega,aZ (hJ (gc _ _).l _) (by omega),_,po _,_,pc _ _,sz ((gc _ _).app g1) (gc _ _) (by omega),_,pa _ _,_,pc _ _,by omega,aZ (hJ (gc _ _).l _) (by omega),_,po _,_,pc _ _,sz ((gc _ _).app g1) (gc _ _) (by omega),_,pa _ _,by omega,by omega,?_⟩
 generalize qN D none (some at_) ++ qN D (some (at_+1)) none=L1 at A1 ⊢
 generalize qN D none (some at_) ++ [oth] ++ qN D (some at_) none=L2 at A2 ⊢
 generalize qN D none (some at_) ++ qN D (some at_) (some (at_+1)) ++ qN D (some at_) none=L3 at A3 ⊢
 generalize qN D none (some at_) ++ [oth] ++ qN D (some (at_+1)) none=L4 at A4 ⊢
 subst hr1
 refine ze fun r1 hr1=>?_
 walk_at "ra"
 refine ⟨_,pc _ _,_,pc _ _,sz (gc _ _) (gc _ _) (by omega),_,pa _ _,?_⟩
 generalize qN D (some to_) none ++ qN D none (some to_)=L5 at A5 ⊢
 have k0:OkE (dD (.swap 0 1)):=Qb (by omega) (by omega)
 have A6:G5 202 (D ++ [dD (.swap 0 1),dD (.swap 0 1)]):=(G5.app (m:=200) (n:=2) ⟨lD,okD⟩ ⟨by simp,fun d hd=>by
  simp only [aE,aT,or_false] at hd
  rcases hd with rfl | rfl <;> exact k0⟩)
 refine ⟨by omega,by omega,by decide,by decide,by show 1 * 2<=_;omega,[dD (.swap 0 1),dD (.swap 0 1)],rfl,by show D.length+2<=_;omega,_,pa _ _,by omega,by omega,?_⟩
 generalize D ++ [dD (.swap 0 1),dD (.swap 0 1)]=L6 at A6 ⊢
 subst hr1
 refine ze fun r1 hr1=>?_
 walk_at "ra"
 refine ⟨bx,9,_,rfl,sb.bx,by omega,by omega,by omega,fun w M4 s4 w0 w1=>?_⟩
 have sb:=sb.go s4
 obtain ⟨d,hd,ed⟩:=Eo (l:=[Dat.lst L1,Dat.lst L2,Dat.lst L3,Dat.lst D.reverse,Dat.lst T,Dat.lst L4,Dat.lst L4,Dat.lst L5,Dat.lst L6]) (i:=w) w0 w1
 obtain ⟨fl,rfl,gf⟩:∃ fl,d=.lst fl/\G5 601 fl:=by
  simp only [aE,aT,or_false] at hd
  have mo:∀ {m:Nat} {l:List Dat},G5 m l->m<=601->G5 601 l:=fun h h2=>⟨aZ h.l h2,h.e⟩
  rcases hd with rfl | rfl | rfl | rfl | rfl | rfl | rfl | rfl | rfl
  ·exact ⟨_,rfl,mo A1 (by omega)⟩
  ·exact ⟨_,rfl,mo A2 (by omega)⟩
  ·exact ⟨_,rfl,mo A3 (by omega)⟩
  ·exact ⟨_,rfl,mo (G5.rev (n:=200) ⟨lD,okD⟩) (by omega)⟩
  ·exact ⟨_,rfl,mo (m:=200) ⟨lT,okT⟩ (by omega)⟩
  ·exact ⟨_,rfl,mo A4 (by omega)⟩
  ·exact ⟨_,rfl,mo A4 (by omega)⟩
  ·exact ⟨_,rfl,mo A5 (by omega)⟩
  ·exact ⟨_,rfl,mo A6 (by omega)⟩
 refine ⟨w,rfl,_,ed,?_⟩
 subst hr1
 refine ze fun r1 hr1=>?_
 have done:∀ (fl:List Dat) (M5:MH) (K5:Nat),K5<=N+11->G5 601 fl->SB M M5 bx K5->r1 M { nx:=fun x M'=>rtA M Q (AV.d Dat.non) M',rt:=rtA M Q } [some (AV.ref bx),some (AV.d (Dat.lst D)),some (AV.d (Dat.int ↑n)),some (AV.d (Dat.lst T)),some (AV.d (Dat.lst [Dat.lst L1,Dat.lst L2,Dat.lst L3,Dat.lst D.reverse,Dat.lst T,Dat.lst L4,Dat.lst L4,Dat.lst L5,Dat.lst L6])),some (AV.d (.lst fl)),some (AV.d (Dat.int at_)),some (AV.d (Dat.int to_)),some (AV.d oth),none] M5:=fun fl M5 K5 hK gf sb=>by
  subst hr1
  walk_at "ra"
  refine ⟨by omega,bx,2,_,rfl,sb.bx,by omega,by omega,by omega,fun w M6 s6 w0 w1=>?_⟩
  have sb:=(sb.go s6).mono (show K5+1<=N+12 by omega)
  have gl:=gf.l
  obtain rfl | rfl:w=0 \/ w=1:=by omega
  ·exact ⟨0,rfl,_,rfl,sb.rt fun M' s=>q _ fl M' s (.inl rfl) (by omega) gf.e⟩
  ·exact ⟨1,rfl,_,rfl,sb.rt fun M' s=>q _ fl M' s (.inr rfl) (by omega) gf.e⟩
 walk_at "ra"
 by_cases c:at_<(D.length:Int)
 ·rw [if_pos c]
  refine ⟨bx,3,_,rfl,sb.bx,by omega,by omega,by omega,fun v M5 s5 v0 v1=>⟨_,rfl,by rw [kE];omega,?_⟩⟩
  have sb:=sb.go s5
  rw [kf]
  by_cases c2:v=0
  ·rw [decide_eq_true c2,if_pos rfl]
   obtain ⟨k,rfl⟩:∃ k:Nat,at_=k:=⟨at_.toNat,by omega⟩
   obtain ⟨a,b,hm,la,lb⟩:=mt k (by omega)
   refine ⟨_,pc _ _,_,by rw [Qg (by omega) (by rw [az];omega) (.d .non),aq,bQ,aD,hm];rfl,bx,_,a,b,rfl,sb.bx,by omega,by omega,by omega,fun x M6 s6 hx=>?_⟩
   have sb:=sb.go s6
   have gx:G5 1 [x]:=⟨by simp,fun d hd=>by rw [bW.mp hd];exact hx⟩
   have gz:=((gc none (some (k:Int))).app gx).app (gc (some ((k:Int)+1)) none)
   exact ⟨by omega,_,rfl,sz (gc _ _) gx (by omega),_,pa _ _,_,pc _ _,sz ((gc _ _).app gx) (gc _ _) (by omega),_,pa _ _,done _ _ _ (by omega) ⟨aZ gz.l (by omega),gz.e⟩ sb⟩
  ·rw [decide_eq_false c2,if_neg (by decide)]
   exact done _ _ _ (by omega) gf sb
 ·rw [if_neg c]
  exact done _ _ _ (by omega) gf sb
noncomputable abbrev B8:de:=top 34
theorem Ap:zr ["_law_script","_law_cells","_law_k","_law_box_here","_law_n","_law_kinds_here","_law_told","_law_some","_law_thing","_law_kept","_law_found","_law_turn"] ["_law_script"] (zf B8):=⟨rfl,rfl,rfl,by decide +kernel,rfl,by decide +kernel,by decide +kernel⟩
noncomputable def Yd (K:ax):Sp:=fun vs H Q _=>∃ (a:aw) (ns:List Int),vs=[.ref a]/\SqL K H a (ns.map V.int)/\ns.length<=63/\∀ H',Q (.bl true) H'
noncomputable def LU (K:ax):ASp:=fun xs M Q=>∃ ns:List Int,xs=[.d (.scr K ns)]/\ns.length<=63/\Q (.d (.bl true)) M
theorem sp_law (vs:List V)(H:Hp)(Q:VK)(E:XK)(h:Yd K vs H Q E):cSp (LU K) vs H Q E:=by
 obtain ⟨a,ns,rfl,ha,hn,q⟩:=h
 refine ⟨[.d (.scr K ns)],fun _=>none,fun _=>False,fun x _=>x=.d (.bl true),⟨(fun a o e=>nomatch e),(fun a h=>h rfl),fun a h=>h.elim⟩,.cons (Gs (fun _ z=>z) ha) .nil,⟨ns,rfl,hn,rfl⟩,fun x M' v H' O' hx _ _ r=>?_⟩
 subst hx
 rw [jH r]
 exact q H'
noncomputable def Hc:ASp:=fun xs M Q=>∃ (y:AV) (ks:List Int),xs=[y]/\qz y M=some (bp (fun i=>AV.d (.int i)) ks)/\(∀ k ∈ ks,0<=k/\k<3)/\ks.length<=63/\Q (.d (.lst ((xch (cel (srt ks) ks)).map deD))) M
theorem Fx (vs:List V)(H:Hp)(Q:VK)(E:XK):cSp Hc vs H Q E->cSp LR vs H Q E:=Et (fun xs M Q ⟨y,ks,e,h1,h2,h3,q⟩=>⟨y,ks,e,h1,h2,h3,fun p hp=>⟨_,_,F6 (Fr.refl.mup hp _) hp zk (zS _),q⟩⟩) vs H Q E
theorem HC {C:Int->Int->List Nat} (h:d ∈ xch C):∃ a b,d=.swap a b:=by
 have pr:∀ i j,d ∈ prs C i j->∃ a b,d=.swap a b:=fun i j h=>by
  obtain ⟨z,_,rfl⟩:=bZ.mp h;exact ⟨_,_,rfl⟩
 have rn:∀ (D:Int->Int->List Nat) f s t,d ∈ rnd D f s t->∃ a b,d=.swap a b:=fun D f s t h=>by
  obtain ⟨z,_,hz⟩:=List.mem_flatMap.mp h
  simp only [aE,aT,or_false] at hz
  rcases hz with rfl | rfl <;> exact ⟨_,_,rfl⟩
 unfold xch at h
 rcases cY.mp h with h | h
 ·rcases cY.mp h with h | h
  ·rcases cY.mp h with h | h
   ·rcases cY.mp h with h | h
    ·exact pr _ _ h
    ·exact pr _ _ h
   ·exact pr _ _ h
  ·exact rn _ _ _ _ h
 ·exact rn _ _ _ _ h
theorem Ly:deD=dD:=funext fun d=>by cases d <;> rfl
theorem Ex (hk:∀ k ∈ ks,0<=k/\k<3):swL (xch (cel (srt ks) ks)) ks=some (srt ks)/\((xch (cel (srt ks) ks)).length:Int)=QL (cel (srt ks) ks):=by
 have hm:=Xm (ks:=ks) (ds:=srt ks) (zZ ks).length_eq.symm (k3 hk) (fun q hq=>k3 (fun k h=>hk k ((zZ ks).mem_iff.mp h)) q (by rw [(zZ ks).length_eq];exact hq)) fun v=>((zZ ks).count_eq v).symm
 obtain ⟨hd,z1,z2,z3,z4⟩:=hm
 refine ⟨?_,ER z1 z2 z3 z4⟩
 obtain ⟨r,h1,h2⟩:=ZK (fun d hd=>HC hd) hd
 rw [h1]
 exact congrArg some (gn (fun _ _ h=>bC h) |>.mp (congrArg Prod.fst h2)).symm
theorem Aq:∀ (ds:List De) {row r:List Int},swL ds row=some r->∀ d ∈ ds,∃ a b,d=.swap a b/\a<row.length/\b<row.length
 | [],_,_,_,_,h=>nomatch h
 | .swap a b :: ds,row,r,h,d,hd=>by
  unfold swL at h
  split at h
  ·rename_i c
   rcases aE.mp hd with rfl | hd
   ·exact ⟨a,b,rfl,c.2⟩
   ·have:=Aq ds h d hd
    rw [aV,aV] at this
    exact this
  ·cases h
 | .take _ :: _,_,_,h,_,_=>by cases h
 | .move _ _ :: _,_,_,h,_,_=>by cases h
 | .lay _ :: _,_,_,h,_,_=>by cases h
theorem IN:(xch (cel ds ks)).length<=7 * ks.length:=by
 have cb:∀ g k:Int,(cel ds ks g k).length<=ks.length:=fun g k=>aZ (eu _ _) (by rw [cK];omega)
 have p:∀ i j,(prs (cel ds ks) i j).length<=ks.length:=fun i j=>by unfold prs;rw [az,cD];have:=cb i j;omega
 have rn:∀ f s t,(rnd (lft (cel ds ks)) f s t).length<=2 * ks.length:=fun f s t=>by
  unfold rnd
  have fl:∀ l:List (Nat × Nat × Nat),(l.flatMap fun z=>[De.swap z.1 z.2.1,De.swap z.1 z.2.2]).length=2 * l.length:=fun l=>by
   induction l with
   | nil=>rfl
   | cons a r ih=>rw [gG,bc,ih,aN,aN,aN,bV];omega
  have:(lft (cel ds ks) f s).length<=ks.length:=by unfold lft;rw [bN];have:=cb f s;omega
  rw [fl,cD];omega
 have p1:=p 0 1
 have p2:=p 0 2
 have p3:=p 1 2
 have r1:=rn 0 1 2
 have r2:=rn 0 2 1
 unfold xch
 simp only [bc];omega
theorem HA (a:At K mg "law" B8)(B:Blt mg)(Brepr:mg "repr"=none)(D_law_take:Df P w K mg base "_law_take" ["_law_box_here","_law_many"] 19 (cSp wr))(D_law_box:Df P w K mg base "_law_box" ["_law_script","_law_k"] 19 (cSp MB))(D_law_folded:Df P w K mg base "_law_folded" ["_law_script","_law_many"] 19 (cSp (Yj K)))(D_law_kinds:Df P w K mg base "_law_kinds" ["_law_box_here","_law_n","_law_most"] 19 (cSp Ac))
  (D_law_odd:Df P w K mg base "_law_odd" ["_law_box_here"] 19 (cSp Ec)) (D_law_bent:Df P w K mg base "_law_bent" ["_law_box_here","_law_plan","_law_n"] 19 (cSp Mj)) (D_law_due:Df P w K mg base "_law_due" ["_law_kinds_here","_law_plan"] 19 (cSp Me)) (D_exchanges:Df P w K mg base "exchanges" ["kinds"] 19 (cSp Hc)) (D_shows_exchanges:Df P w K mg base "shows_exchanges" ["kinds","plan"] 19 (cSp Mi)) :
  Df P w K mg base "law" ["_law_script"] 20 (cSp (LU K)):=by
 refine dfA (k:=19) a Ap (fun _ _ _ _ _ _=>Pn1_ fun _=>rfl) (fun xs M Q h=>?_) (fun f cdv A outer s H E hr=>?_)
 ·obtain ⟨_,rfl,_⟩:=h;rfl
 have sc:=Ap
 have hsl:=hsl
 refine ⟨_,(zd (zy (i:=1) sc.nd rfl (by first | exact bf rfl | exact bg rfl) (zT D_law_folded hr rfl (za (pv 0) (za zc zb))))
  (zd (ka db rfl (qL rfl B.range (za (zm (VQ rfl) rfl B.max Lg (za zc (za (zm zE rfl B.len qB (za (pv 1) zb)) zb))) zb)) (zu (i:=2) sc.nd rfl (by first | exact bf rfl | exact bg rfl)) (zd (zy (i:=3) sc.nd rfl (by first | exact bf rfl | exact bg rfl) (zT D_law_box hr rfl (za (pv 1) (za (pv 2) zb))))
  (zd (zy (i:=4) sc.nd rfl (by first | exact bf rfl | exact bg rfl) (zB zV (zL (za (zT D_law_take hr rfl (za (pv 3) (za zc zb))) (za (zp qa zc (zT D_law_take hr rfl (za (pv 3) (za zc zb)))) zb))) (zU ky rfl B.int xT (za (jm (qC hr.units) (zT D_law_take hr rfl (za (pv 3) (za zc zb))) zc (zH _)) zb)) (fun _ _=>rfl)))
  (zd (zy (i:=5) sc.nd rfl (by first | exact bf rfl | exact bg rfl) (zT D_law_kinds hr rfl (za (pv 3) (za (pv 4) (za zc zb)))))
  (zd (zy (i:=6) sc.nd rfl (by first | exact bf rfl | exact bg rfl) (zT D_exchanges hr rfl (za (pv 5) zb)))
  (zd (qj (PW.pt (kZ (zJ X1 (zT D_shows_exchanges hr rfl (za (pv 5) (za (pv 6) zb))) jb (zH _)) (xk (zJ X1 (zT D_shows_exchanges hr rfl (za (zU qy rfl B.tuple qJ (za (pv 5) zb)) (za (zU qy rfl B.tuple qJ (za (pv 6) zb)) zb))) jb (zH _))))) (zh (zK jb)) zO)
  (zd (zy (i:=7) sc.nd rfl (by first | exact bf rfl | exact bg rfl) (zp qu (qR (ts:=[11]) rfl rfl (qL rfl B.range (za zc zb)) (fun _ _ _ _=>(zu (i:=11) sc.nd rfl (by first | exact bf rfl | exact bg rfl))) (fun _ _ _ _=>qg) (fun _ _ _ _=>(zT D_law_bent hr rfl (za (pv 3) (za (pv 6) (za (pv 4) zb)))))) (zL (za (zT D_law_odd hr rfl (za (pv 3) zb)) (za (zL zb) (za (zL (za (zT D_law_odd hr rfl (za (pv 3) zb)) zb)) zb))))))
  (zh (ka db rfl (xu (pv 7)) (zu (i:=8) sc.nd rfl (by first | exact bf rfl | exact bg rfl)) (zd (zy (i:=9) sc.nd rfl (by first | exact bf rfl | exact bg rfl) (zm (wA hr.gd hr.units) rfl Brepr X0 (za (pv 8) zb)))
  (zd (zy (i:=10) sc.nd rfl (by first | exact bf rfl | exact bg rfl) (zT D_shows_exchanges hr rfl (za (pv 5) (za (pv 8) zb))))
  (zh (qj (PW.pt (kZ (jy (jh (zm jp rfl B.isinstance zN (za (pv 10) (za (qt (v:=.ty "bool") rfl B.bool ZW rfl) zb))) (fun _=>rfl))) (kZ (zJ (xo hr.units) (pv 10) (zT D_law_due hr rfl (za (pv 5) (za (pv 8) zb))) (zH _)) (xk (zJ (xo hr.units) (zm (wA hr.gd hr.units) rfl Brepr X0 (za (pv 8) zb)) (pv 9) (zH _)))))) (zh (zK jb)) zO)))))))))))))
  (zh (zK jb)))),?_⟩
 refine ex2 (by walk_at "sim") ?_
 rintro xs M Q ⟨ns,rfl,hn,q⟩
 rw [show zR ["_law_script","_law_cells","_law_k","_law_box_here","_law_n","_law_kinds_here","_law_told","_law_some","_law_thing","_law_kept","_law_found","_law_turn"] [.d (.scr K ns)]=[some (.d (.scr K ns)),none,none,none,none,none,none,none,none,none,none,none] from rfl]
 refine ze fun r hr0=>?_
 walk_at "ra"
 refine ⟨4,ns,rfl,by omega,by omega,hn,fun cs lc=>?_⟩
 subst hr0
 refine ze fun r hr0=>?_
 walk_at "ra"
 have e2:(if (cs.length:Int) > 2 then (cs.length:Int) else 2)=((max 2 cs.length:Nat):Int):=by split <;> omega
 rw [e2,bQ]
 refine ⟨by omega,by omega,?_⟩
 refine ⟨fun i ρ M'=>(∃ x2 x3 x4 x5 x6 x7 x8 x9 x10 x11,ρ=[some (.d (.scr K ns)),some (.d (ilD cs)),x2,x3,x4,x5,x6,x7,x8,x9,x10,x11])/\Fr M M',⟨⟨_,_,_,_,_,_,_,_,_,_,rfl⟩,Fr.refl⟩,?_,?_⟩
 ·rintro i y ρ M1 hy ⟨⟨x2,x3,x4,x5,x6,x7,x8,x9,x10,x11,rfl⟩,f1⟩
  obtain ⟨hi,rfl⟩:=jJ hy
  refine ⟨trivial,?_⟩
  rw [ie,gr]
  show yp _ _ _ _ _ _
  refine ze fun r2 hr2=>?_
  walk_at "ra"
  refine ⟨_,i,cs,rfl,EM _ _,by omega,by omega,by omega,fun b o hb bx=>?_⟩
  have b0:=f1.non hb
  have f2:=f1.mup b0 o
  have sb:=SB.refl bx
  generalize mup M1 b o=M2 at *
  subst hr2
  refine ze fun r2 hr2=>?_
  walk_at "ra"
  refine ⟨b,8,0,rfl,sb.bx,by omega,by omega,by omega,fun n1 M3 s3 n10 n11=>?_⟩
  have sb:=sb.go s3
  refine ⟨b,17,_,rfl,sb.bx,by omega,by omega,by omega,fun n2 M4 s4 n20 n21=>⟨n2,rfl,by omega,_,rfl,?_⟩⟩
  have sb:=sb.go s4
  refine ⟨b,6,_,rfl,sb.bx,by omega,by omega,by omega,fun n3 M5 s5 n30 n31=>⟨_,rfl,by rw [kE];omega,?_⟩⟩
  have sb:=sb.go s5
  obtain ⟨n,en,hn24⟩:∃ n:Nat,atI (bp AV.d [Dat.int n1,Dat.int (8+n2)]) (if eqD (.int n3) (Dat.int 0)=true then 1 else 0)=some (.d (.int (n:Int)))/\n<=24:=by
   split
   ·exact ⟨(8+n2).toNat,by rw [show (((8+n2).toNat:Nat):Int)=8+n2 by omega];rfl,by omega⟩
   ·exact ⟨n1.toNat,by rw [show ((n1.toNat:Nat):Int)=n1 by omega];rfl,by omega⟩
  refine ⟨_,en,?_⟩
  subst hr2
  refine ze fun r2 hr2=>?_
  walk_at "ra"
  refine ⟨b,n,3,_,rfl,sb.bx,by omega,by omega,by omega,by omega,fun ks M6 s6 lk hk=>?_⟩
  have sb:=sb.go s6
  have sk:∀ M':MH,qz (.d (ilD ks)) M'=some (ks.map fun i=>AV.d (.int i)):=fun _=>by rw [show ilD ks=Dat.lst (ks.map .int) from rfl,WY,kB]
  have hn2:ks.length<=63:=by omega
  subst hr2
  refine ze fun r2 hr2=>?_
  walk_at "ra"
  refine ⟨_,ks,rfl,sk _,hk,hn2,?_⟩
  have hx:=Ex hk
  have xb:=IN (ks:=ks) (ds:=srt ks)
  have xl:=Aq _ hx.1
  rw [Ly]
  generalize xch (cel (srt ks) ks)=Ds at *
  have ldd:Ds.length<=200:=by omega
  have okd:∀ d ∈ Ds.map dD,OkE d:=fun d hd=>by
   obtain ⟨e,he,rfl⟩:=bZ.mp hd
   obtain ⟨a,b,rfl,la,lb⟩:=xl e he
   exact Qb (by omega) (by omega)
  have okq:=vi (l:=Ds.map dD) (by rw [az];omega) okd
  have sh1:shX ks (.lst (Ds.map dD))=true:=XS ⟨Ds,.inl rfl,hx.2,hx.1⟩
  have sh2:shX ks (.tup (Ds.map dD))=true:=XS ⟨Ds,.inr rfl,hx.2,hx.1⟩
  subst hr2
  refine ze fun r2 hr2=>?_
  walk_at "ra"
  refine ⟨_,_,ks,rfl,.inl rfl,hk,hn2,okq.1.p,true,by rw [sh1],?_⟩
  rw [if_neg (by decide)]
  refine ⟨_,_,ks,rfl,.inr rfl,hk,hn2,okq.2.p,true,by rw [sh2],?_⟩
  rw [if_neg (by decide)]
  subst hr2
  refine ze fun r2 hr2=>?_
  walk_at "ra"
  refine ⟨by decide,by decide,?_⟩
  refine ⟨fun j acc ρ M'=>j<=12/\SB M2 M' b (20000+12 * j)/\(∃ o,ρ=[some (AV.d (Dat.scr K ns)),some (AV.d (ilD cs)),some (AV.d (Dat.int ↑i)),some (AV.ref b),some (AV.d (Dat.int ↑n)),some (AV.d (ilD ks)),some (AV.d (Dat.lst (bp dD Ds))),x7,x8,x9,x10,o])/\∃ ws:List Dat,acc=ws.map AV.d/\ws.length=j/\∀ d ∈ ws,OkW d,⟨by omega,sb.mono (by omega),⟨_,rfl⟩,[],rfl,rfl,fun _ h=>nomatch h⟩,?_,?_⟩
  ·rintro j x acc ρ M' hx ⟨hj,sb,⟨o,rfl⟩,ws,rfl,lw,hw⟩
   obtain ⟨hj12,rfl⟩:=jJ hx
   have hj12:j<12:=hj12
   refine ⟨trivial,?_⟩
   walk_at "ra"
   refine ⟨b,_,n,Ds,rfl,sb.bx,by omega,by omega,ldd,fun d hd=>?_,fun x l M7 s7 hxl ll hl=>?_⟩
   ·obtain ⟨a,b,rfl,la,lb⟩:=xl d hd
    exact ⟨a,b,rfl,by omega,by omega⟩
   ·have sb:=sb.go s7
    have okx:OkW x:=by
     have:=vi ll hl
     rcases hxl with rfl | rfl
     ·exact this.1
     ·exact this.2
    refine ⟨by omega,by omega,sb.mono (by omega),⟨_,rfl⟩,ws ++ [x],by rw [bX];rfl,by rw [bc,lw];rfl,fun d hd=>?_⟩
    rcases cY.mp hd with h | h
    ·exact hw d h
    ·rw [bW.mp h];exact okx
  ·rintro acc ρ M' ⟨_,sb,⟨o,rfl⟩,ws,rfl,lw,hw⟩
   refine ⟨trivial,?_⟩
   rw [kz] at lw
   have lw:ws.length=12:=lw
   have sb:=sb.mono (show _<=30000 by rw [kz];show 20000+12 * 12<=_;omega)
   refine ⟨_,zS _,b,_,rfl,sb.bx,by omega,fun o1 Ma sa ho1=>?_⟩
   have sb:=sb.go sa
   refine ⟨b,_,rfl,sb.bx,by omega,fun o2 Mb s_b ho2=>⟨by omega,_,rfl,by omega,_,rfl,by show ws.length+3<=_;omega,ws ++ [o1,.lst [],.lst [o2]],by rw [<- bX];exact zS _,?_⟩⟩
   have sb:=sb.go s_b
   have fm:=SB.frm f2 b0 sb
   have hw2:∀ d ∈ ws ++ [o1,.lst [],.lst [o2]],OkW d:=fun d hd=>by
    rcases cY.mp hd with h | h
    ·exact hw d h
    ·simp only [aE,aT,or_false] at h
     rcases h with rfl | rfl | rfl
     ·exact MY ho1
     ·exact (vi (l:=[]) (by simp) fun d h=>absurd h (by simp)).1
     ·exact (vi (l:=[o2]) (by simp) fun d h=>by rw [bW.mp h];exact ho2).1
   clear sb s_b sa s6 s5 s4 s3 bx
   generalize ws ++ [o1,.lst [],.lst [o2]]=WS at *
   subst hr2
   walk_at "ra"
   refine ⟨fun j ρ M'=>M'=Mb/\∃ u8 u9 u10,ρ=[some (AV.d (Dat.scr K ns)),some (AV.d (ilD cs)),some (AV.d (Dat.int ↑i)),some (AV.ref b),some (AV.d (Dat.int ↑n)),some (AV.d (ilD ks)),some (AV.d (Dat.lst (bp dD Ds))),some (AV.d (Dat.lst WS)),u8,u9,u10,x11],⟨rfl,_,_,_,rfl⟩,?_,?_⟩
   ·rintro j y ρ M' hy ⟨rfl,u8,u9,u10,rfl⟩
    rw [aD] at hy
    obtain ⟨d,hd,rfl⟩:=bM.mp hy
    have okx:=hw2 d (bJ hd)
    refine ⟨trivial,?_⟩
    show yp _ _ _ _ _ _
    refine ze fun r3 hr3=>?_
    walk_at "ra"
    refine ⟨okx.d,okx.s,okx.l,?_⟩
    subst hr3
    refine ze fun r3 hr3=>?_
    walk_at "ra"
    refine ⟨_,d,ks,rfl,.inl rfl,hk,hn2,okx.p,?_⟩
    subst hr3
    walk_at "ra"
    refine ⟨ks,d,rfl,hk,hn2,okx.p,_,rfl,by rw [Wm];omega,?_⟩
    rw [AR,if_neg (by simp)]
    exact ⟨okx.d,okx.s,okx.l,rfl,_,rfl⟩
   ·rintro ρ M' ⟨rfl,u8,u9,u10,rfl⟩
    exact ⟨trivial,⟨_,_,_,_,_,_,_,_,_,_,rfl⟩,fm⟩
 ·rintro ρ M1 ⟨⟨x2,x3,x4,x5,x6,x7,x8,x9,x10,x11,rfl⟩,f1⟩
  refine ⟨trivial,?_⟩
  subst hr0
  walk_at "ra"
  exact wv f1 q
theorem kH {t u:Tok} (h:K.lookup a=some ⟨.type "tuple",none,.seq #[.int i t,.int j u] n,#[]⟩):KT1 K a [.int i,.int j]:=⟨_,_,_,h,rfl,rfl,by rw [cC];simp,.cons ⟨_,rfl⟩ (.cons ⟨_,rfl⟩ .nil)⟩
theorem W9 {a b c:aw} (h:K.lookup a=some ⟨.type "tuple",none,.seq #[.ref b,.ref c] n,#[]⟩):KT1 K a [.ref b,.ref c]:=⟨_,_,_,h,rfl,rfl,by rw [cC];simp,.cons rfl (.cons rfl .nil)⟩
theorem v9 {a b c d:aw} (h:K.lookup a=some ⟨.type "tuple",none,.seq #[.ref b,.ref c,.ref d] n,#[]⟩):KT1 K a [.ref b,.ref c,.ref d]:=⟨_,_,_,h,rfl,rfl,by rw [cC];simp,.cons rfl (.cons rfl (.cons rfl .nil))⟩
end
variable {l:PySem.W.OpenLaw}
theorem all_mk {w:bB}{K:ax}{h:Heap}{mg:Str->Option aj}{fa C pa cBadDeed cBadPlan fBadDeed fBadPlan:aw}{cdd:ClassData}{cdp:ClassData}{aPq aR b0 b1 b2 r0 r1 c0 c1 c2 c3 c4 c5:aw}{t0 u0 t1 u1 t2 u2 t3 u3 t4 u4 t5 u5 t6 u6 t7 u7 t8 u8:Tok}{n0 n1 n2 n3 n4 n5 n6 n7 n8 n9 n10 n11 n12:Nat}(X:K.In h)(G:h.Ns bq mg)(hfa:mg "law"=some (.ref fa))(a:At K mg "law" B8)(B:Blt mg)(Ball:mg "all"=none)(Bsum:mg "sum"=none)(Brepr:mg "repr"=none)
  (a__law_take:At K mg "_law_take" JN) (a__law_box:At K mg "_law_box" WD) (a__law_folded:At K mg "_law_folded" vH) (a__law_kinds:At K mg "_law_kinds" Z6) (a__law_fewest:At K mg "_law_fewest" KJ) (a__law_odd:At K mg "_law_odd" KS) (a__law_is_swap:At K mg "_law_is_swap" Kl) (a__law_due:At K mg "_law_due" KQ) (a__law_other:At K mg "_law_other" Kh) (a__law_bent_deed:At K mg "_law_bent_deed" V6) (a__law_bent:At K mg "_law_bent" Aj) (a_is_place:At K mg "is_place" xV) (a_is_deed:At K mg "is_deed" vG) (a_room_behind:At K mg "room_behind" JT) (a_deeds_of:At K mg "deeds_of" QE) (a_places_by_kinds:At K mg "places_by_kinds" Ax) (a_fewest_exchanges:At K mg "fewest_exchanges" DL) (a_exchanges:At K mg "exchanges" Bu) (a_are_kinds:At K mg "are_kinds" J9) (a_shows_exchanges:At K mg "shows_exchanges" DI)
  (ag_BadDeed:bH K bq "BadDeed"=some (some (.ref cBadDeed)))
  (ag_BadPlan:bH K bq "BadPlan"=some (some (.ref cBadPlan)))
  (xgs:gy K (.builtin "object.__class__") "__get__"=some (some (.builtin "getset_descriptor.__get__")))
  (xtk:mq K (.builtin "object.__class__")=some true)
  (dbx:PySem.W.subIn K (.ref cBadDeed) (.type "BaseException")=some true)
  (dga:bo K (.ref cBadDeed) "__getattribute__"=some (some (.builtin "BaseException.__getattribute__")))
  (dgt:bo K (.ref cBadDeed) "__getattr__"=some none)
  (dcl:bo K (.ref cBadDeed) "__class__"=some (some (.builtin "object.__class__")))
  (dmo:m7 K cBadDeed (.type "object")=some true)
  (dis:ng K cBadDeed=some cdd)
  (dhd:dL K cBadDeed=true)
  (dfw:bo K (.ref cBadDeed) "word"=some none)
  (pbx:PySem.W.subIn K (.ref cBadPlan) (.type "BaseException")=some true)
  (pga:bo K (.ref cBadPlan) "__getattribute__"=some (some (.builtin "BaseException.__getattribute__")))
  (pgt:bo K (.ref cBadPlan) "__getattr__"=some none)
  (pcl:bo K (.ref cBadPlan) "__class__"=some (some (.builtin "object.__class__")))
  (pmo:m7 K cBadPlan (.type "object")=some true)
  (pis:ng K cBadPlan=some cdp)
  (phd:dL K cBadPlan=true)
  (pfw:bo K (.ref cBadPlan) "word"=some none)
  (di:d9 K (.ref cBadDeed) (.ref cBadDeed)=some true)
  (pe:d9 K (.ref cBadPlan) (.ref cBadPlan)=some true)
  (pfp:bo K (.ref cBadPlan) "place"=some none)
  (gPa:bH K bq "PAIRS"=some (some (.ref aPq)))
  (lPa:K.lookup aPq=some ⟨.type "tuple",none,.seq #[.ref b0,.ref b1,.ref b2] n9,#[]⟩)
  (lb0:K.lookup b0=some ⟨.type "tuple",none,.seq #[.int 0 t0,.int 1 u0] n0,#[]⟩)
  (lb1:K.lookup b1=some ⟨.type "tuple",none,.seq #[.int 0 t1,.int 2 u1] n1,#[]⟩)
  (lb2:K.lookup b2=some ⟨.type "tuple",none,.seq #[.int 1 t2,.int 2 u2] n2,#[]⟩)
  (gRo:bH K bq "ROUNDS"=some (some (.ref aR)))
  (lRo:K.lookup aR=some ⟨.type "tuple",none,.seq #[.ref r0,.ref r1] n10,#[]⟩)
  (lr0:K.lookup r0=some ⟨.type "tuple",none,.seq #[.ref c0,.ref c1,.ref c2] n11,#[]⟩)
  (lr1:K.lookup r1=some ⟨.type "tuple",none,.seq #[.ref c3,.ref c4,.ref c5] n12,#[]⟩)
  (lc0:K.lookup c0=some ⟨.type "tuple",none,.seq #[.int 0 t3,.int 1 u3] n3,#[]⟩)
  (lc1:K.lookup c1=some ⟨.type "tuple",none,.seq #[.int 1 t4,.int 2 u4] n4,#[]⟩)
  (lc2:K.lookup c2=some ⟨.type "tuple",none,.seq #[.int 2 t5,.int 0 u5] n5,#[]⟩)
  (lc3:K.lookup c3=some ⟨.type "tuple",none,.seq #[.int 0 t6,.int 2 u6] n6,#[]⟩)
  (lc4:K.lookup c4=some ⟨.type "tuple",none,.seq #[.int 2 t7,.int 1 u7] n7,#[]⟩)
  (lc5:K.lookup c5=some ⟨.type "tuple",none,.seq #[.int 1 t8,.int 0 u8] n8,#[]⟩)
  (xa_BadDeed:bo K (.ref cBadDeed) "__init__"=some (some (.ref fBadDeed))) (xd_BadDeed:∃ fd,Fun K "__init__" "BadDeed.__init__" wa fBadDeed fd) (xn_BadDeed:dF K (.ref fBadDeed)=true) (xq_BadDeed:jM K cBadDeed vC "ValueError.__new__" fBadDeed=true) (xs_BadDeed_word:yb K cBadDeed "word")
  (xa_BadPlan:bo K (.ref cBadPlan) "__init__"=some (some (.ref fBadPlan))) (xd_BadPlan:∃ fd,Fun K "__init__" "BadPlan.__init__" yj fBadPlan fd) (xn_BadPlan:dF K (.ref fBadPlan)=true) (xq_BadPlan:jM K cBadPlan vC "ValueError.__new__" fBadPlan=true) (xs_BadPlan_place:yb K cBadPlan "place") (xs_BadPlan_word:yb K cBadPlan "word")
  (aP:bH K bq "PLACES_OF"=some (some (.ref pa))) {t1 t2 t3 t4 u1 u2 u3 u4:Tok} {ep:Nat}
  (lP:K.lookup pa=some ⟨.type "dict",none,.dict #[⟨iQ w "swap",.str "swap" t1,.int 2 u1⟩,⟨iQ w "take",.str "take" t2,.int 1 u2⟩,⟨iQ w "move",.str "move" t3,.int 2 u3⟩,⟨iQ w "lay",.str "lay" t4,.int 1 u4⟩] ep,#[]⟩) (nP:(pa == d7)=false)
  (aC:bH K bq "Room"=some (some (.ref C))) (pg:fG K C Str.empty=true) (hd:dL K C=true) (po:iV K C=true) (sa:bo K (.ref C) "__setattr__"=some (some (.builtin "object.__setattr__"))) (mk:mj K C=true) (kc:dh K (.ref C)=true)
  (nr:bo K (.ref C) "row"=some none) (nh:bo K (.ref C) "hand"=some none) (nm:bo K (.ref C) "moved"=some none)
  (am___init__:AtM K C "__init__" "Room.__init__" Qu) (am_do:AtM K C "do" "Room.do" IW) (am_swap:AtM K C "swap" "Room.swap" J0) (am_take:AtM K C "take" "Room.take" Qe) (am_move:AtM K C "move" "Room.move" JS) (am_lay:AtM K C "lay" "Room.lay" El) (am_lift:AtM K C "lift" "Room.lift" K9) (am_row_now:AtM K C "row_now" "Room.row_now" K6)
 :∃ fd:dE,(∀ (s:au) (v:aj),lM s fd ⟨[v],[]⟩ [("_law_script",v)])/\∀ base:Heap,K.In base->base.Ns bq mg->js l.prog w K mg base CX0 20 fa fd ["_law_script"] (Yd K):=by
 obtain ⟨f,fd,F,m⟩:=id a
 obtain rfl:fa=f:=by rw [hfa] at m;cases m;rfl
 obtain ⟨oc,od,kV,doc,pm,an,cdv,ct,osl,e,lk,hcd⟩:=F.ex
 refine ⟨fd,fun s v=>?_,fun base _ _=>?_⟩
 ·subst e;exact .of_eq rfl
 ·have T:=FA (P:=l.prog) (w:=w) (base:=base) a__law_take B
  have XG_BadDeed:=fb X G ag_BadDeed
  have XG_BadPlan:=fb X G ag_BadPlan
  have R:RTx K C:=⟨⟨pg,hd,po,sa⟩,nr,nh,nm⟩
  have KP:KD K w pa Fe:=VX lP nP
  have MP:=fb X G aP
  have MC:=fb X G aC
  have XD:XB K cBadDeed:=⟨⟨dbx,dga,dgt,dcl,xgs,xtk,dmo,by rw [dis];rfl⟩,di,dhd,dfw⟩
  obtain ⟨fdB,FB⟩:=xd_BadDeed
  obtain ⟨fdP,FP⟩:=xd_BadPlan
  have MX:MkX l.prog w K mg base cBadDeed 1 1 fnW:=HQ FB xq_BadDeed xn_BadDeed xs_BadDeed_word
  have MP1:MkX l.prog w K mg base cBadPlan 1 2 fnP:=Ld FP xq_BadPlan xn_BadPlan xs_BadPlan_place xs_BadPlan_word
  have MP2:QK l.prog w K mg base cBadPlan 1 2 fnP:=FU FP xq_BadPlan xn_BadPlan xs_BadPlan_place xs_BadPlan_word
  have d1:=Vt (P:=l.prog) (w:=w) (base:=base) a_is_deed B Ball (yP a_is_place B) KP MP
  have ml:=WT am_lift R B MX XG_BadDeed
  have md:=Il am_do R B (MkX.mono MX (by decide)) XG_BadDeed (d1.mono (by decide)) ((Ea am_swap R B MX XG_BadDeed).mono (by decide)) (Vx am_take R B (MkX.mono MX (by decide)) XG_BadDeed ml) (Dh am_move R B (MkX.mono MX (by decide)) XG_BadDeed ml) ((FH am_lay R B MX XG_BadDeed).mono (by decide))
  obtain ⟨fi,fdi,Fi,bi,mi⟩:=(WV (P:=l.prog) (w:=w) (base:=base) am___init__ R B).mono (show 1<=5 by decide)
  have MR:Mkr l.prog w K mg base "Room" C ["self","n"] 5 (cSp (WA C)):=⟨fi,fdi,Fi,bi,⟨mk,mi.at_,mi.fn,kc⟩,MC⟩
  have rb:=Gh (P:=l.prog) (w:=w) (base:=base) a_room_behind B R.cl XG_BadDeed XG_BadPlan (MkX.mono MP1 (by decide)) (MP2.mono (by decide)) XD MR (md.mono (by decide))
  have KPa:KW K mg:=⟨aPq,b0,b1,b2,fb X G gPa,v9 lPa,kH lb0,kH lb1,kH lb2⟩
  have KR:XI K mg:=⟨aR,r0,r1,c0,c1,c2,c3,c4,c5,fb X G gRo,W9 lRo,v9 lr0,v9 lr1,kH lc0,kH lc1,kH lc2,kH lc3,kH lc4,kH lc5⟩
  have tk:=T.imp' Ew
  have pc:=Ic (P:=l.prog) (w:=w) (base:=base) a_places_by_kinds B
  have xc:=Hu (P:=l.prog) (w:=w) (base:=base) a_exchanges B KPa KR pc
  have fe:=LF (P:=l.prog) (w:=w) (base:=base) a_fewest_exchanges B Bsum KPa pc
  have ak:=Eu (P:=l.prog) (w:=w) (base:=base) a_are_kinds B Ball (yP a_is_place B)
  have dz:=Bv (P:=l.prog) (w:=w) (base:=base) a_deeds_of B
  have sx:=IA (P:=l.prog) (w:=w) (base:=base) a_shows_exchanges R B XG_BadPlan ⟨pe⟩ (rb.mono (by decide)) (ak.mono (by decide)) (dz.mono (by decide)) (fe.mono (by decide)) ((Gb am_row_now R B).mono (by decide))
  have du:=EO (P:=l.prog) (w:=w) (base:=base) a__law_due B (ET a__law_is_swap B Ball) (Gg a__law_fewest B Bsum)
  have od:=EN (P:=l.prog) (w:=w) (base:=base) a__law_odd B tk
  have ot:=EG (P:=l.prog) (w:=w) (base:=base) a__law_other B (tk.mono (by decide)) od
  have bd:=HE (P:=l.prog) (w:=w) (base:=base) a__law_bent_deed B tk
  have bt:=IU (P:=l.prog) (w:=w) (base:=base) a__law_bent B (tk.mono (by decide)) ot (bd.mono (by decide))
  have L:=HA (P:=l.prog) (w:=w) (base:=base) a B Brepr (tk.mono (by decide)) (((Ln a__law_box B).imp' IL).mono (by decide)) (((Y8 a__law_folded B).imp' Vr).mono (by decide)) ((BO a__law_kinds B tk).mono (by decide)) (od.mono (by decide)) (bt.mono (by decide)) (du.mono (by decide)) ((xc.imp' Fx).mono (by decide)) (sx.mono (by decide))
  exact (L.imp' (sp_law (K:=K))).fn m lk
theorem walk {q:aX}{loose:List Str}{XP:(Str->Option aj)->Heap->Prop}{YP:bB->Heap->Prop}{d:DefRec}{K:Params->ax}(hn:l.most=some 63)(hdf:d.params.defaults=[])
  (hY:∀ (w:bB) (h:Heap),YP w h->(K w.params).In h)
  (F:∀ (w:bB) (mg:Str->Option aj) (fa:aw) (h:Heap),(K w.params).In h->h.Ns bq mg->mg d.name=some (.ref fa) ->
   ∃ fd:dE,(∀ (s:au) (u:aj),lM s fd ⟨[u],[]⟩ [("_law_script",u)])/\∀ base:Heap,(K w.params).In base->base.Ns bq mg->js l.prog w (K w.params) mg base CX0 20 fa fd ["_law_script"] (Yd (K w.params))) :
  PySem.W.WalkO q loose XP YP l.row.toRowW d [] (fun f vs=>oS f vs):=
 L2.walk_of (n:=63) (k:=20) (x:="_law_script") (CX:=fun _=>CX0) (sp:=fun w=>Yd (K w.params)) hn (by decide) hdf ⟨rfl,rfl,by decide,by decide⟩ hY F (fun _ _ a ns hl _ hS=>⟨a,ns,rfl,hS,hl,fun _=>rfl⟩) fun _ _ _ _ _ z=>z
end Ot
theorem PySem.W.Fast.te9060436895505536116:True:=trivial
theorem PySem.W.Fast.te5581717142853060839:True:=trivial
theorem PySem.W.Fast.te3287215417748294685:True:=trivial
namespace PySem.W.Fast
def tw10960302231207030441:=()
def tw8177281246556445682:=()
def tw3663443328102421120:=()
def tw2979680927378435282:=()
def tw13237541444300520547:=()
def tw8836864384046506567:=()
def tw2736228738164858450:=()
def tw13134667155128904506:=()
def tw14753348751026998801:=()
def tw8918953479931980052:=()
def tw9349802744548910835:=()
def tw8014151002300914443:=()
def tw897034458700010087:=()
def tw4142954615744459561:=()
def tw10466878832960136401:=()
def tw13995404369270384003:=()
def tw16396286238691253749:=()
def tw2389985361269135265:=()
def tw16250715924935618126:=()
def tw10600941197397098071:=()
def tw4310120564160571348:=()
def tw11974100248006886652:=()
def tw11904077002836680835:=()
def tw1394692082354751711:=()
def tw12115731682229872059:=()
def tw14928916733655136803:=()
def tw2149536149170799566:=()
def tw1821857944568733575:=()
def tw17635300164749519652:=()
def tw634534079060272952:=()
def tw14945678820142045059:=()
def tw10431265017079404160:=()
def tw3684245337114653279:=()
def tw11892700793122897136:=()
def tw15258425255637802609:=()
def tw12662076285083916623:=()
def tw7194281080014906741:=()
def tw1169318858993345111:=()
def tw9897445874868711440:=()
def tw13357716877633835598:=()
def tw4497036810157654435:=()
def tw8203212755918162662:=()
def tw11415954233133225897:=()
def tw2400306522561045281:=()
def tw3420658902324360829:=()
def tw17037083185188629828:=()
def tw5267058350978157857:=()
def tw2167075134650227165:=()
def tw12805225576804621827:=()
def tw12672568030303804710:=()
def tw16918954696306808326:=()
def tw6696817102105489403:=()
def tw725856368803725339:=()
def tw10683600363155686568:=()
def tw18356333899894861890:=()
def tw10290735685443323333:=()
def tw6421893607236475902:=()
def tw18118956686406096768:=()
def tw7151087974635523808:=()
def tw16366317302803857408:=()
def tw12406022117056761431:=()
def tw6056915076776191642:=()
def tw18329082926983503357:=()
def tw8785587741014937776:=()
def tw169585203361885837:=()
def tw6461662351138214833:=()
def tw17570194771438043381:=()
def tw10240962277788743815:=()
def tw9266064349935078220:=()
def tw2413313045297912685:=()
def tw11797191081170753819:=()
def tw14537809738442156984:=()
def tw4650651472498941644:=()
def tw1120736670476476623:=()
def tw1480512534345689062:=()
def tw3683514078510998524:=()
def tw2700461620224186267:=()
def tw8552998328992542008:=()
def tw8964701000076169449:=()
def tw17420926519999839501:=()
def tw15625551936971587258:=()
def tw16197434972818619585:=()
def tw10524032899387082289:=()
def tw2249234577293889113:=()
def tw14457864059225786141:=()
def tw14046407933527360005:=()
def tw15321465128395053502:=()
def tw8028945450503802097:=()
def tw3374023816624555491:=()
def tw9939798510136111462:=()
def tw5321121680700026679:=()
def tw9902445311527776329:=()
def tw5073389684096229785:=()
def tw17019279584728758189:=()
def tw10103490431843361766:=()
def tw262803231252040318:=()
def tw6654625411151956919:=()
def tw17985301696527933750:=()
def tw6741133646473353733:=()
def tw3099675536969097307:=()
def tw12618726266050575609:=()
def tw10764056667463998259:=()
def tw3656140432315578121:=()
def tw1748804576858347864:=()
def tw5301336179154512019:=()
def tw7789847356465123212:=()
def tw12537137014187959207:=()
def tw6437942411554551179:=()
def tw14685102404495369855:=()
def tw2149943159493467748:=()
def tw16096941864511995148:=()
def tw10061523189675032545:=()
def tw7025649122721567547:=()
def tw6827433833686239923:=()
def tw9734868287421675531:=()
def tw13733708096757762226:=()
def tw13410453007139720334:=()
def tw9477442171456866763:=()
def tw7700729403593224772:=()
def tw9912210679366045510:=()
def tw12330048596020584042:=()
def tw3234421000820024626:=()
def tw6011606480669192474:=()
def tw4700237503201605924:=()
def tw5734372374382946706:=()
def tw6779563133049866546:=()
def tw6553204071337310936:=()
def tw15396896558845141037:=()
def tw11443333863253125295:=()
def tw4024271937485203416:=()
def tw15162585246725132607:=()
def tw12069260012287406418:=()
def tw2706383803092331356:=()
def tw15402506063923715931:=()
def tw15082918693565625100:=()
def tw5673039390022679301:=()
def tw451569154744065330:=()
def tw1926430000630789850:=()
def tw8157072437501646725:=()
def tw7841901385392636092:=()
def tw2552190789400188049:=()
def tw10428820881007830374:=()
def tw18057980381532155697:=()
def tw14490646552749151008:=()
def tw5572956211432231501:=()
def tw747855922621446927:=()
def tw13204775058169065431:=()
def tw14335241394920629576:=()
def tw5023065001288845708:=()
def tw8093261514140320524:=()
def tw16038346637727093106:=()
def tw15932643390499035985:=()
def tw16140312643138814293:=()
def tw17247674850095405208:=()
def tw378428419275446160:=()
def tw13198871844695071831:=()
def tw6048302412609835591:=()
def tw5047492312940942953:=()
def tw8065894999420471458:=()
def tw3847379612413008091:=()
def tw10130127326211440622:=()
def tw3791233355226814545:=()
def tw2742292207232523133:=()
def tw9329678880993550800:=()
def tw10941062636166500665:=()
def tw66379554956240204:=()
def tw14936889129693674155:=()
def tw12054050829631893612:=()
def tw10011719962042978131:=()
def tw7183201789381091499:=()
def tw7396533471313442058:=()
def tw8727422986388382884:=()
def tw13087925969174508688:=()
def tw11202159958792157178:=()
def tw5533813207768255755:=()
def tw6426919762555193285:=()
def tw12210786229339343946:=()
def tw13687311296580920604:=()
def tw5469286560292988208:=()
def tw4853823412348876790:=()
def tw11671801722346045312:=()
def tw9608977661504913683:=()
def tw13935275639397839527:=()
def tw5026843028516721235:=()
def tw14438432055747311123:=()
def tw17029723535113817706:=()
def tw15138846375087473003:=()
def tw5682327007252130925:=()
def tw7874507592235707664:=()
def tw11710852479801994449:=()
def tw100158829209698566:=()
def tw14167739971254417357:=()
def tw13369389076560884011:=()
def tw15590982838990658756:=()
def tw9710417358238373980:=()
def tw10966253881740496118:=()
def tw7708702329484467832:=()
def tw10608030531067862420:=()
def tw7737394706750791700:=()
def tw7582976672927598939:=()
def tw13361709930133876071:=()
def tw1283069078965112479:=()
def tw6159306854106880807:=()
def tw10983753577159531948:=()
def tw7208927961281925210:=()
def tw11497379397564124978:=()
def tw7938361787821346167:=()
def tw1381069394422720449:=()
def tw17403823186081009386:=()
def tw1647550755438372367:=()
def tw6037270767665813509:=()
def tw10963358302975911588:=()
def tw8521840256797189286:=()
def tw2277099001958633191:=()
def tw531903203313088183:=()
def tw14280584399442820368:=()
def tw15459928342575853907:=()
def tw5960972509454723879:=()
def tw7650884280029263020:=()
def tw4266829404988933366:=()
def tw1192357386318080847:=()
def tw17037165171987531828:=()
def tw10555058846951433450:=()
def tw15194903771469598990:=()
def tw3931594967179685030:=()
def tw10876896168720997324:=()
def tw3467117407370334195:=()
def tw17554493967945608968:=()
def tw3895325085246100781:=()
def tw11243658721483403485:=()
def tw2823574052980086678:=()
def tw16138901183624762683:=()
def tw4727738959724834833:=()
def tw18001296462927664255:=()
def tw16022891360479329606:=()
def tw2415317433734782466:=()
def tw4580734608999494885:=()
def tw16085629480436672947:=()
def tw9603238917268373689:=()
def tw7867977572078333475:=()
def tw15855171020291702994:=()
def tw16163569493476407566:=()
def tw5168708883532480524:=()
def tw12081015009137288603:=()
def tw11888211178884167720:=()
def tw16792056637228749431:=()
def tw12471322480772361553:=()
def tw13821076013856171346:=()
def tw2694368633838715120:=()
def tw10983954917965380594:=()
def tw17871855214831987715:=()
def tw15141825797456083491:=()
def tw581801810344719426:=()
def tw6617971423498169424:=()
def tw9353639911962405087:=()
def tw8368905112436101808:=()
def tw17627578507505535487:=()
def tw627182763249250557:=()
def tw10419623424777603807:=()
def tw10836544815933517079:=()
def tw2015042697626295554:=()
def tw8662621776675681874:=()
def tw17977888517989442763:=()
def tw15661059422550899492:=()
def tw17366577810673001036:=()
def tw503216646018704424:=()
def tw7795451147945542442:=()
def tw12454553616065291779:=()
def tw8418430490685882097:=()
def tw13553702331271548658:=()
def tw16578797671585271898:=()
def tw14196143879423307721:=()
def tw16783350364994340127:=()
def tw803189608911549980:=()
def tw15686162375589081193:=()
end PySem.W.Fast
open PySem PySem.W PyProof.Rows
set_option maxRecDepth 100000 in
set_option maxHeartbeats 0 in
theorem PySem.Challenge.cw_ownturn_k50_exchanges_shown_holds : PySem.Challenge.rw_ownturn_k50_exchanges_shown.Holds := by
 w_on; o_law; k_head; (case hw => w_witness2)
 k_fill
 refine Ot.walk (l := PySem.Challenge.rw_ownturn_k50_exchanges_shown) rfl rfl (fun w h Y => PySem.W.kIn_of Y) ?F
 case F =>
  intro w mg fa h KX G hmg
  refine' Ot.all_mk KX G hmg (L2.at_mk KX G ?a0 ?l0 ?c0 ?k0) (L2.blt_mk KX G ?z1 ?z2 ?z3 ?z4 ?z5 ?z6 ?z7 ?z8 ?z9 ?z10 ?z11 ?z12 ?z13 ?z14 ?z15 ?z16) (PySem.W.mg_none_of KX G ?zall) (PySem.W.mg_none_of KX G ?zsum) (PySem.W.mg_none_of KX G ?zrepr) (L2.at_mk KX G ?a1 ?l1 ?c1 ?k1) (L2.at_mk KX G ?a2 ?l2 ?c2 ?k2) (L2.at_mk KX G ?a3 ?l3 ?c3 ?k3) (L2.at_mk KX G ?a4 ?l4 ?c4 ?k4) (L2.at_mk KX G ?a5 ?l5 ?c5 ?k5) (L2.at_mk KX G ?a6 ?l6 ?c6 ?k6) (L2.at_mk KX G ?a7 ?l7 ?c7 ?k7) (L2.at_mk KX G ?a8 ?l8 ?c8 ?k8) (L2.at_mk KX G ?a9 ?l9 ?c9 ?k9) (L2.at_mk KX G ?a10 ?l10 ?c10 ?k10) (L2.at_mk KX G ?a11 ?l11 ?c11 ?k11) (L2.at_mk KX G ?a12 ?l12 ?c12 ?k12) (L2.at_mk KX G ?a13 ?l13 ?c13 ?k13) (L2.at_mk KX G ?a14 ?l14 ?c14 ?k14) (L2.at_mk KX G ?a15 ?l15 ?c15 ?k15) (L2.at_mk KX G ?a16 ?l16 ?c16 ?k16) (L2.at_mk KX G ?a17 ?l17 ?c17 ?k17) (L2.at_mk KX G ?a18 ?l18 ?c18 ?k18) (L2.at_mk KX G ?a19 ?l19 ?c19 ?k19) (L2.at_mk KX G ?a20 ?l20 ?c20 ?k20) ?xgD ?xgP ?xfxgs ?xfxtk ?xfdbx ?xfdga ?xfdgt ?xfdcl ?xfdmo ?xfdis ?xfdhd ?xfdfw ?xfpbx ?xfpga ?xfpgt ?xfpcl ?xfpmo ?xfpis ?xfphd ?xfpfw ?xfdi ?xfpe ?xfpfp ?xfgPa ?xflPa ?xflb0 ?xflb1 ?xflb2 ?xfgRo ?xflRo ?xflr0 ?xflr1 ?xflc0 ?xflc1 ?xflc2 ?xflc3 ?xflc4 ?xflc5 ?xaD ⟨_, L2.fun_mk ?xlD ?xcD ?xkD⟩ ?xnD ?xqD ⟨?xsDword, ?xtDword, ?xhDword, ?xmDword, ?xvDword⟩ ?xaP ⟨_, L2.fun_mk ?xlP ?xcP ?xkP⟩ ?xnP ?xqP ⟨?xsPplace, ?xtPplace, ?xhPplace, ?xmPplace, ?xvPplace⟩ ⟨?xsPword, ?xtPword, ?xhPword, ?xmPword, ?xvPword⟩ ?aP ?lP ?nP ?aC ?pg ?hd ?po ?sa ?mk ?kc ?nr ?nh ?nm (L2.atm_mk ?ma0 ?mi0 ?ml0 ?mc0 ?mk0) (L2.atm_mk ?ma1 ?mi1 ?ml1 ?mc1 ?mk1) (L2.atm_mk ?ma2 ?mi2 ?ml2 ?mc2 ?mk2) (L2.atm_mk ?ma3 ?mi3 ?ml3 ?mc3 ?mk3) (L2.atm_mk ?ma4 ?mi4 ?ml4 ?mc4 ?mk4) (L2.atm_mk ?ma5 ?mi5 ?ml5 ?mc5 ?mk5) (L2.atm_mk ?ma6 ?mi6 ?ml6 ?mc6 ?mk6) (L2.atm_mk ?ma7 ?mi7 ?ml7 ?mc7 ?mk7)
  (case xgD | xgP => k_is)
  (case xfxgs | xfxtk | xfdbx | xfdga | xfdgt | xfdcl | xfdmo | xfdis | xfdhd | xfdfw | xfpbx | xfpga | xfpgt | xfpcl | xfpmo | xfpis | xfphd | xfpfw | xfdi | xfpe | xfpfp | xfgPa | xflPa | xflb0 | xflb1 | xflb2 | xfgRo | xflRo | xflr0 | xflr1 | xflc0 | xflc1 | xflc2 | xflc3 | xflc4 | xflc5 => first | k_is | kit_is | kts_exm)
  (case xaD | xlD | xcD | xkD | xnD => k_is)
  (case xqD => first | rfl | with_unfolding_all rfl | exact Eq.refl true)
  (case xsDword | xtDword | xhDword | xmDword => k_is)
  (case xvDword => first | rfl | with_unfolding_all rfl | exact Eq.refl true)
  (case xaP | xlP | xcP | xkP | xnP => k_is)
  (case xqP => first | rfl | with_unfolding_all rfl | exact Eq.refl true)
  (case xsPplace | xtPplace | xhPplace | xmPplace => k_is)
  (case xvPplace => first | rfl | with_unfolding_all rfl | exact Eq.refl true)
  (case xsPword | xtPword | xhPword | xmPword => k_is)
  (case xvPword => first | rfl | with_unfolding_all rfl | exact Eq.refl true)
  (case aP | lP => k_is)
  (case nP => first | rfl | decide | k_is)
  (case aC | a0 | l0 | c0 | k0 | a1 | l1 | c1 | k1 | a2 | l2 | c2 | k2 | a3 | l3 | c3 | k3 | a4 | l4 | c4 | k4 | a5 | l5 | c5 | k5 | a6 | l6 | c6 | k6 | a7 | l7 | c7 | k7 | a8 | l8 | c8 | k8 | a9 | l9 | c9 | k9 | a10 | l10 | c10 | k10 | a11 | l11 | c11 | k11 | a12 | l12 | c12 | k12 | a13 | l13 | c13 | k13 | a14 | l14 | c14 | k14 | a15 | l15 | c15 | k15 | a16 | l16 | c16 | k16 | a17 | l17 | c17 | k17 | a18 | l18 | c18 | k18 | a19 | l19 | c19 | k19 | a20 | l20 | c20 | k20 | zall | zsum | zrepr | z1 | z2 | z3 | z4 | z5 | z6 | z7 | z8 | z9 | z10 | z11 | z12 | z13 | z14 | z15 | z16 | pg | hd | po | sa | mk | kc | nr | nh | nm | ma0 | mi0 | ml0 | mc0 | mk0 | ma1 | mi1 | ml1 | mc1 | mk1 | ma2 | mi2 | ml2 | mc2 | mk2 | ma3 | mi3 | ml3 | mc3 | mk3 | ma4 | mi4 | ml4 | mc4 | mk4 | ma5 | mi5 | ml5 | mc5 | mk5 | ma6 | mi6 | ml6 | mc6 | mk6 | ma7 | mi7 | ml7 | mc7 | mk7 => k_is)
