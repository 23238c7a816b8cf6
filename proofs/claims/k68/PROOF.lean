import PyProof.Rows.All
import Wide.All
import OpenK.AllK
import Wide.FinOn
import Lean
import PyProof.EqAt
import PyProof.EqKinds
import PyProof.TupleCall
import Lean
import PyProof.ExcInit
import PyProof.ExcClass3
import PyProof.InstStoreFacts
import KE.KIsAll
import KE.KTryMore
import PyProof.ExcBaseAll.ValueError
import PyProof.ExcArgsOwn
import KE.RegKIsAll
import KE.RegKTryMore
import PyProof.RulesAs
import PyProof.WalksMore
import PyProof.TupleOfGen
import PySem.Challenge.RW_ownturn_k68_whole_rooms_by_any_plan
local macro_rules | `(tactic| omega) => `(tactic| lia)
set_option compiler.extract_closed false
set_option Elab.async false
set_option linter.all false
set_option maxRecDepth 100000
open Array renaming length_toList->io,getElem?_eq_some_iff->iP,mem_toList_iff->mI,append_assoc->ny,find?_toList->nC
open Bool renaming false_ne_true->aW,and_eq_true->cS,eq_iff_iff->d7,false_eq_true->gn,and_false->gI,not_true->hX,not_false->iK,and_true->nv
open Classical renaming byContradiction->ck,choose_spec->gO,choose->gW
open Eq renaming refl->m9
open Except renaming ok->oo
open False renaming elim->ca
open ForInStep renaming yield->d8
open Int renaming toNat_natCast->aY,toNat->bc,toNat_of_nonneg->cb,fdiv_eq_ediv_of_nonneg->iD,fmod_eq_emod_of_nonneg->iE,ediv_one->lU,mul_one->mH,zero_add->nW
open Lean renaming mkIdent->iA
open Lean.Parser.Tactic renaming tacticSeq->fu
open List renaming getD_eq_getElem?_getD->af,getElem?_eq_getElem->aj,length_map->am,getElem?_eq_some_iff->aA,getElem?_map->aE,replicate->aG,size_toArray->aH,length_cons->aK,mem_cons->aO,map_append->aQ,map_cons->aX,mem_cons_of_mem->aZ,length_append->bg,mem_of_getElem?->bh,getElem?_set->bj,mem_map->bn,getElem_mem->bo,length_set->bp,map_map->bv,mem_append_right->bD,length_reverse->bG,range->bI,mem_cons_self->bJ,length_replicate->bM,getElem?_eq_none->bN,append_nil->bP,getElem?_of_mem->bQ,map->bS,nodup_cons->bT,length_take->bZ,length_drop->b8,filterMap->ci,nodup_iff_pairwise_ne->cj,not_mem_nil->cm,length_range->cq,filterMap_cons->cw,getElem?_range->cF,flatten_append->cG,getElem?_reverse->cI,mem_singleton->cK,mem_append->cO,lookup_cons->cT,getElem?_append_left->cV,mem_or_eq_of_mem_set->cW,take_add_one->cZ,mem_range->df,sum_cons->dg,count_pos_iff->dk,take_length->dr,getElem?_append_right->dC,flatten_cons->dE,ext_getElem?->dF,replicate_succ->dG,lookup->dH,Pairwise->dM,filterMap_cons_some->dP,getElem?_set_ne->dR,pairwise_map->dZ,map_congr_left->ef,take_of_length_le->eu,set_comm->eA,length_filter_le->eI,getLastD_eq_getLast?->eL,foldl_cons->eN,mem_append_left->eO,foldl_append->eQ,map_set->eR,all_cons->eS,length_erase_of_mem->eU,getElem?_replicate->eX,filter_cons->eZ,mem_filterMap->e8,length_nil->fk,dropLast_concat_getLast->fq,count_cons->fv,map_drop->fA,idxOf_lt_length_of_mem->fG,getElem_inj->fN,all_eq_true->fP,countP_cons->fQ,map_reverse->fR,ext_getElem->fS,find?_cons->gg,getElem?_set_self->gu,map_nil->gF,countP_congr->gJ,drop_of_length_le->gL,getLast?_map->gM,getElem?_toArray->gP,take_append_drop->gQ,nodup_range->gZ,mem_erase_of_ne->ic,count_cons_self->ie,getLast?_eq_some_getLast->ii,mem_filter->ik,of_mem_zip->im,filterMap_map->iG,getElem?_drop->iJ,map_replicate->iR,getElem_idxOf->iS,getElem?_eq_none_iff->iU,getLast?_eq_getElem?->iV,drop_eq_getElem_cons->iW,append_assoc->lf,reverse_cons->li,filterMap_cons_none->lv,length_eq_zero_iff->lI,mem_flatten->lL,all_nil->mf,length_pos_of_mem->mh,range_succ->mw,mem_of_mem_erase->my,dropLast_eq_take->mC,length_dropLast->mM,mem_iff_getElem->mP,getElem_toArray->mW,mem_of_mem_drop->mX,countP_eq_zero->ni,map_take->nu,getLast?_cons->nH,contains_cons->nI,getElem_range->nK,map_dropLast->nX,cons->om,getElem_map->oq,length->ow,map_id->oz,foldl->oJ,Nodup->oM
open List.Perm renaming cons_inv->nL
open Nat renaming le_refl->aF,le_trans->bf,ne_of_lt->bw,lt_of_lt_of_le->bA,zero_le->cn,succ_le_succ->cU,lt_irrefl->de,lt_of_sub_eq_succ->eJ,ne_of_gt->e7,lt_of_le_of_lt->fg,le_succ->h9,lt_succ_of_lt->lh,succ_ne_self->lH,mod_eq_of_lt->lK,le_of_lt->lO,zero_add->lZ,mul_le_mul_right->mT,le_of_eq->nN,add_comm->nR,lt_or_ge->nV,lt_succ_self->nY,le_max_right->oh,min_eq_right->oi,mod_lt->oN
open Option renaming map_eq_some_iff->fh,getD_none->n8,getD_some->og
open Option.some renaming inj->b9
open Or renaming inl->bq,inr->bu
open PyProof renaming noPylong_small->lR
open PyProof.Rows renaming slot_tuple_getitem->cu,Keyed->cM,callWith_type1->eh,assignInOrder_cons->eF,envOfC->fK,subscriptTail->hV,AllBare->iw,assignInOrder_nil->i5,seqObj->lw,IntsAre->lV
open PySem renaming Value->aq,wpAny_bind->aw,Shared->ax,Addr->ay,wpAny_pure->aJ,wpAny->aL,model->aN,wpAny_mono->aR,sizeLine->aT,starEach->aV,Program->ba,Around->bt,mainGlobals->bz,World->bE,sliceBounds->bH,wpAny_newObj_type->bO,bootBuiltins->bY,NameKind->cr,PyData->cz,wpAny_standAt->cD,backTo->cH,Stmt->cJ,wpAny_holding->cQ,wpAny_field->cY,PassesOwn->db,sizeLine_eq->dq,foldedSetIterable->du,FuncData->dz,wpAny_loadPart'->dI,sliceRange->dL,Comprehension->dN,compareOp->dS,wpAny_truthy_bool->dU,codeAny->dX,wpAny_callSpecial?_slot->dY,wpAny_loadPart_at->d3,attributeBase->eD,keywordEach->eE,wpAny_passesOwn->eM,mem_of_lookup->eW,wpAny_call_entry->eY,excClassObj->e6,codeAny_mono->e9,wpAny_Call_Name_kw->fb,ExcBaseFacts->fj,bindArgs->fm,codeAny_builtin->ft,behindInMarks->fz,wpAny_pyIter_enum->fE,backToKw->fY,wpAny_getItem_list_slice->fZ,wpAny_execs_nil->f9,letOwnedTupleGo->gc,Spec->gh,assignEach->gi,wpAny_pyIter_tuple->gr,bindName->gv,wpAny_bindName->gw,recursionLimit->gD,slot_list_getitem->gG,plainObj_wpAny_Assign_Attribute->gN,IsPart->gS,call_meets->gT,noteFrame->gU,assignInOrder->hJ,rangeSize_one->hR,binaryOp->hZ,callWith->h8,wpAny_isSubtype_exc->ir,Within->iu,wpAny_typeOf->iz,wpAny_call->iF,wpAny_letOwnedTupleGo_enum->iI,hashStr->iX,standAt->iZ,wpAny_pyIter_list->i6,Keyword->i9,wpAny_comprehension_free->lu,wpAny_execs_cons->lz,wpAny_lookBehind->lE,pastItsLine_dict->lF,slicePick->lG,setFlight->lJ,sysModules->lN,getItem->lQ,BindsTo->lS,seqIndex_neg->lW,wpAny_getItem_list_neg->lX,codeAny_compStart_list->lY,wpAny_noteFrame_againW->me,cLine->mr,Paired->mD,assign->mE,rawInt->mF,wpAny_loadPart->mJ,seqIndex_of->mL,wpAny_setField->mQ,wpAny_runValue->mU,swapsWith->mY,small_one->mZ,callerA->m7,Code->ng,swapsWithSole->nj,swappedStores->nk,comprehension->nq,wpAny_rule->nz,wpAny_load->nA,Result->nD,wpAny_nsSet1->nM,valueAt->nS,relabel->nT,ItemsOf->nU,cellsFrom->n5,raiseStmt->oj,Model->ou,getAttr->oA,newList->oB,OwnTail->oC,CmpOp->oE,pyNext->oF,bindL->oG,bindC->oH,call->oK
open PySem.Builtin.List renaming listTooLong->eT,listExtendWith->fF
open PySem.Builtin.ObjectAttr renaming storeInDict->gY
open PySem.Builtin.Range renaming rangeSize->bR,small->cy
open PySem.Builtin.Slice renaming slicePlaces->cC,sliceApplied->eG,sliceAdjust->fV,sliceFields->iT
open PySem.Builtin.SmallTypes renaming nextOf->eK
open PySem.Builtin.Tuple renaming tupleExact->bU,tupleItemsOf->iH
open PySem.Calls renaming evalArgs_plain->fM,callWith_builtin->gH,Name_function_global->iC
open PySem.Challenge renaming rw_ownturn_k68_whole_rooms_by_any_plan->d9
open PySem.Code renaming quiet_builtin->iL
open PySem.Data renaming cell->lC,fields->mG
open PySem.F renaming plainAttrs_list->bB,slot_list_append->bV,type_list_append->bW,excBase_ValueError->cL,slot_dict_get->mz
open PySem.Heap renaming get?_push_of_some->aD,lt_size->aM,get?_push_size->aS,get?_update_self->dJ,SameBut->eg,get?_update_other->ej,get?_none_of_le->fH,FlyingW->fU,size_push->gA,MadeExcOf->iO
open PySem.Heap.IsSliceOf renaming new->gk
open PySem.Obj renaming mapFields->eV,mapSeq->ff,data_mapFields->gq
open PySem.PassesOwn renaming never->cc
open PySem.SeqAt renaming EqAt->bX,RcNeAt->fT,RcAt->gX
open PySem.Str renaming ofString->au
open PySem.W renaming Frag->az,findIn->bC,mg_none_of->bF,nsIn->bK,fnOf->b7,kia_one->cR,emptyDict->cX,isFn->dh,kia_tup->dj,keepIn->dv,hideAll_none->dQ,instObj->d6,hasDictIn->eP,callWith_K->fc,hasDictIn->fB,methodCall_KW->fC,findIn->fD,looks_findIn->fJ,codeIn->fL,plainGet->fO,hideAll_get->fW,looks_clsIn->fX,mg_of->f7,lookIn->gx,specialIn->gz,kitx_list->gB,kitx_dict->gC,cellsFrom_some->gE,any_some->gR,Looks->hU,plainGet_of->iq,of_hideAll->iB,Looks->iM,exmOne->iQ,methodObj->iY,plainOver->i7,set_plain->i8,findObj->lq,handedIn->lD,funFrames_hide->ma,takerIn->mj,makesIn->mn,takesIn->mq,kitOne->mK,kitAny->mO,notCls->mV,takerIn->m8,findObj_own->nc,subIn->nw,kitx_float->nE,kitx_tuple->nF,codeRec_of->nG,isNs_of_in->nJ,kitx_none->nO,kitx_bool->nQ,kitx_int->nZ,kitx_str->n4,mroIn->oy
open Sum renaming inr->cv,inl->lM
namespace L2
open PySem PySem.Spec PyProof.Rows
abbrev Key:=Sum Int Str
noncomputable def Qc:Key->aq->Bool
 | .inl k,v=>aq.isInt k v
 | .inr x,v=>aq.isStrOf x v
noncomputable def Pc (w:bE):Key->Int
 | .inl k=>hashInt k
 | .inr x=>iX w x
theorem qo:∀ {k:Key} {v:aq},Qc k v=true->(∃ i t,k=lM i/\v=aq.int i t) \/ (∃ x t,k=cv x/\v=aq.str x t)
 | .inl i,v,h=>by
  obtain ⟨t,e⟩:=aq.isInt_shape (k:=i) (v:=v) h
  exact .inl ⟨i,t,rfl,e⟩
 | .inr x,v,h=>by
  obtain ⟨t,e⟩:=aq.isStrOf_shape (x:=x) (v:=v) h
  exact .inr ⟨x,t,rfl,e⟩
theorem Wo (i:Int)(t:Tok):Qc (.inl i) (.int i t)=true:=by simp [Qc,aq.isInt]
theorem WQ (x:Str)(t:Tok):Qc (.inr x) (.str x t)=true:=by simp [Qc,aq.isStrOf]
theorem NN (a b:Int):decide ((lM a:Key)=lM b)=(a == b):=by
 by_cases e:a=b
 ·subst e;simp
 ·have h:¬ (lM a:Key)=lM b:=fun q=>e (lM.inj q)
  rw [decide_eq_false h]
  exact (beq_eq_false_iff_ne.mpr e).symm
theorem NU (a b:Str):decide ((cv a:Key)=cv b)=decide (a=b):=by
 by_cases e:a=b
 ·subst e;simp
 ·have h:¬ (cv a:Key)=cv b:=fun q=>e (cv.inj q)
  rw [decide_eq_false h,decide_eq_false e]
theorem Nq (a:Int)(b:Str):decide ((lM a:Key)=cv b)=false:=decide_eq_false (fun q=>nomatch q)
theorem IR (a:Str)(b:Int):decide ((cv a:Key)=lM b)=false:=decide_eq_false (fun q=>nomatch q)
noncomputable def jL (prog:ba)(w:bE):PySem.KeyKind prog w Key where
 is:=Qc
 hash:=Pc w
 inj:=fun v a b ha hb=>by
  rcases qo ha with ⟨i,t,rfl,rfl⟩ | ⟨x,t,rfl,rfl⟩
  ·rcases qo hb with ⟨j,u,rfl,e⟩ | ⟨y,u,rfl,e⟩
   ·injection e with e1 _;rw [e1]
   ·exact nomatch e
  ·rcases qo hb with ⟨j,u,rfl,e⟩ | ⟨y,u,rfl,e⟩
   ·exact nomatch e
   ·injection e with e1 _;rw [e1]
 byValue:=fun k v h=>by
  rcases qo h with ⟨i,t,rfl,rfl⟩ | ⟨x,t,rfl,rfl⟩ <;> rfl
 pyHash:=fun hv h=>by
  rcases qo hv with ⟨i,t,rfl,rfl⟩ | ⟨x,t,rfl,rfl⟩
  ·exact wpAny_pyHash_int h
  ·exact wpAny_pyHash_str h
 eqBool:=fun hu hv h=>by
  rcases qo hu with ⟨i,t,rfl,rfl⟩ | ⟨x,t,rfl,rfl⟩
  ·rcases qo hv with ⟨j,u,rfl,rfl⟩ | ⟨y,u,rfl,rfl⟩
   ·rw [NN] at h;exact wpAny_eqBool_int h
   ·rw [Nq] at h;exact bX.int_str i t y u _ _ _ _ h
  ·rcases qo hv with ⟨j,u,rfl,rfl⟩ | ⟨y,u,rfl,rfl⟩
   ·rw [IR] at h;exact bX.str_int x t j u _ _ _ _ h
   ·rw [NU] at h;exact wpAny_eqBool_str h
 «strs»:=fun k x t v h=>by
  rcases qo h with ⟨i,u,rfl,e⟩ | ⟨y,u,rfl,e⟩
  ·exact nomatch e
  ·injection e with e1 _
   subst e1
   cases v <;> rfl
theorem K5 (prog:ba)(w:bE)(i:Int)(t:Tok):(jL prog w).is (.inl i) (.int i t)=true:=Wo i t
theorem Kv (prog:ba)(w:bE)(x:Str)(t:Tok):(jL prog w).is (.inr x) (.str x t)=true:=WQ x t
inductive V where
 | non | bl (b:Bool) | int (i:Int) | str (x:Str) | byt (b:Array UInt8) | flt (b:UInt64) | ref (a:ay) | ty (n:String)
 deriving DecidableEq
noncomputable def zE:V->aq->Prop
 | .non,u=>u=aq.none
 | .bl b,u=>u=aq.bool b
 | .int i,u=>∃ t,u=aq.int i t
 | .str x,u=>∃ t,u=aq.str x t
 | .byt b,u=>∃ t,u=aq.bytes b t
 | .flt b,u=>∃ t,u=aq.float b t
 | .ref a,u=>u=aq.ref a
 | .ty n,u=>u=aq.type n
noncomputable abbrev zz:List V->List aq->Prop:=mD zE
variable {xs:List V} {us:List aq}
theorem zz.length (r:zz xs us):xs.length=us.length:=mD.length r
theorem zz.get:∀ {xs:List V} {us:List aq} {i:Nat} {x:V},zz xs us->xs[i]?=some x->∃ u,us[i]?=some u/\zE x u
 | _,_,_,_,.nil,e=>by simp at e
 | _,_,0,_,.cons r _,e=>by simp at e;subst e;exact ⟨_,rfl,r⟩
 | _,_,i+1,x,.cons _ t,e=>by
  obtain ⟨u,h1,h2⟩:=zz.get (i:=i) (x:=x) t (by simpa using e)
  exact ⟨u,by simpa using h1,h2⟩
theorem zz.set {x:V}{u:aq}(r:zE x u):∀ {xs:List V} {us:List aq} (i:Nat),zz xs us->zz (xs.set i x) (us.set i u)
 | _,_,_,.nil=>.nil
 | _,_,0,.cons _ t=>.cons r t
 | _,_,i+1,.cons q t=>.cons q (zz.set r i t)
theorem zz.append:∀ {xs ys:List V} {us ws:List aq},zz xs us->zz ys ws->zz (xs ++ ys) (us ++ ws)
 | _,_,_,_,.nil,s=>s
 | _,_,_,_,.cons r t,s=>.cons r (zz.append t s)
theorem zz.take:∀ {xs:List V} {us:List aq} (n:Nat),zz xs us->zz (xs.take n) (us.take n)
 | _,_,0,_=>.nil
 | _,_,_+1,.nil=>.nil
 | _,_,n+1,.cons r t=>.cons r (zz.take n t)
theorem zz.drop:∀ {xs:List V} {us:List aq} (n:Nat),zz xs us->zz (xs.drop n) (us.drop n)
 | _,_,0,r=>r
 | _,_,_+1,.nil=>.nil
 | _,_,n+1,.cons _ t=>zz.drop n t
noncomputable def yu:Option V->Option aq->Prop
 | some v,some u=>zE v u
 | none,none=>True
 | _,_=>False
noncomputable def KV {κ:Type}:List (κ × V)->List (κ × aq)->Prop:=mD fun (p:κ × V) (q:κ × aq)=>p.1=q.1/\zE p.2 q.2
noncomputable def kV:Key->V
 | .inl i=>.int i
 | .inr x=>.str x
inductive HO where
  | lst (xs:List V)
  | tup (xs:List V)
  | dK (kvs:List (Key × V)) | dT (kvs:List (List Key × V))
  | set (S:Int->Bool) (n:Nat)
  | ins (C dx:ay) (fs:List (Str × V))
  | own (x:ay)
  | xd (fs:List (Str × V))
  | met (f x:ay)
  | rng (lo hi:Int)
  | frz (o:Obj) (u:HO)
  | tbl (ps:Array aq)
  | ext (φ:Heap->Prop)
abbrev Hp:=ay->Option HO
noncomputable def upd (H:Hp)(a:ay)(o:HO):Hp:=fun b=>if b=a then some o else H b
variable {H:Hp} {a:ay} {o:HO}
theorem zi:upd H a o a=some o:=by unfold upd;rw [if_pos rfl]
variable {b:ay}
theorem zh (h:b ≠ a):upd H a o b=H b:=by unfold upd;rw [if_neg h]
variable {u:HO}
theorem xN:upd (upd H a o) a u=upd H a u:=by
 funext b;unfold upd;split <;> rfl
theorem KU (h:H a=some o)(h':H b=some u)(d:o ≠ u):a ≠ b:=by
 intro e;subst e;rw [h] at h';exact d (b9 h')
theorem zm (h:H a=some o)(h':H b=none):a ≠ b:=by
 intro e;subst e;rw [h] at h';cases h'
def wt (h:Heap)(a:ay)(items:Array aq):Prop:=∃ o,h.get? a=some o/\o.cls=.type "tuple"/\(∃ n,o.data=.seq items n)/\o.dict=none
variable {items:Array aq}
theorem wt.is {h:Heap} (x:wt h a items):IsTup h a items:=let ⟨o,e,c,n,_⟩:=x;⟨o,e,c,n⟩
theorem wt.lt {h:Heap} (x:wt h a items):a<h.objs.size:=x.is.lt
theorem wt.new (h:Heap)(items:Array aq):wt (h.push { cls:=.type "tuple",data:=.seq items }) h.objs.size items:=⟨_,aS _ rfl,rfl,⟨_,rfl⟩,rfl⟩
section
variable (P:ba)(w:bE)
noncomputable def zV (H:Hp)(h:Heap)(a:ay):HO->Prop
  | .lst xs=>xs.length<=aT/\∃ (its:List aq) (n:Nat),zz xs its/\h.get? a=some { cls:=.type "list",data:=.seq its.toArray n }
  | .tup xs=>xs.length<=aT/\∃ its:List aq,zz xs its/\wt h a its.toArray
  | .dK kvs=>kvs.length<=aT/\(a == lN)=false/\∃ vs,KV kvs vs/\h.DictOf (jL P w) a vs
  | .dT kvs => kvs.length <= aT /\ (a == lN) = false /\ ∃ xs : List (List Key × ay × aq),
      mD (fun (p:List Key × V) (q:List Key × ay × aq)=>p.1=q.1/\H q.2.1=some (.tup (p.1.map kV))/\zE p.2 q.2.2) kvs xs /\
      ∃ o es ep,h.get? a=some o/\o.ExactDict/\o.data=.dict es ep/\es.toList=xs.map (entryOfKey (tupleKind (jL P w)))/\(xs.map (·.1)).Nodup
  | .set S n=>h.SetOf (intKind P w) a S n
  | .ins C dx fs => H dx = some (.own a) /\ fs.length <= 1000 /\ dx ≠ a /\ h.get? a = some (d6 C dx) /\
      ∃ mA,h.Ns1 dx mA/\(∀ f,yu (fs.lookup f) (mA f))/\iu mA (fs.map (·.1))
  | .own _=>∃ o,h.get? a=some o
  | .xd fs=>∃ mA,h.Ns1 a mA/\∀ f,yu (fs.lookup f) (mA f)
  | .rng lo hi=>∃ t u v,h.get? a=some { cls:=.type "range",data:=.fields #[.int lo t,.int hi u,.int 1 v] }
  | .frz o u=>h.get? a=some o/\zV H h a u
  | .tbl ps=>h.get? a=some { cls:=.none,data:=.fields ps }
  | .met f x=>h.get? a=some (iY (.ref f) (.ref x))
  | .ext φ=>φ h/\(∃ o,h.get? a=some o)/\∀ h1 h2:Heap,φ h1->(∀ o,h1.get? a=some o->h2.get? a=some o)->φ h2
def HOk (H:Hp)(h:Heap):Prop:=∀ a o,H a=some o->zV P w H h a o
end
section
variable {P:ba}{w:bE}{H H':Hp}{h h':Heap}{a:ay}{o:HO}
theorem zV.lt (x:zV P w H h a o):a<h.objs.size:=by
 cases o with
 | lst xs=>obtain ⟨_,_,_,_,e⟩:=x;exact aM e
 | tup xs=>obtain ⟨_,_,_,p⟩:=x;exact p.lt
 | dK kvs=>obtain ⟨_,_,_,_,o,_,_,e,_⟩:=x;exact aM e
 | dT kvs=>obtain ⟨_,_,_,_,o,_,_,e,_⟩:=x;exact aM e
 | set S n=>obtain ⟨o,_,_,_,e,_⟩:=x;exact aM e
 | ins C dx fs=>obtain ⟨_,_,_,e,_⟩:=x;exact aM e
 | own y=>obtain ⟨_,e⟩:=x;exact aM e
 | xd fs=>obtain ⟨_,⟨_,_,_,e,_⟩,_⟩:=x;exact aM e
 | rng lo hi=>obtain ⟨_,_,_,e⟩:=x;exact aM e
 | frz ob u=>obtain ⟨e,_⟩:=x;exact aM e
 | tbl ps=>exact aM (show h.get? a=some _ from x)
 | met f y=>exact aM (show h.get? a=some _ from x)
 | ext φ=>obtain ⟨_,⟨_,e⟩,_⟩:=x;exact aM e
theorem mD.mapP {α β:Type}{F G:α->β->Prop}:∀ {l₁:List α} {l₂:List β},mD F l₁ l₂->(∀ a b,F a b->G a b)->mD G l₁ l₂
 | _,_,.nil,_=>.nil
 | _,_,.cons r t,f=>.cons (f _ _ r) (mD.mapP t f)
theorem zV.stay (x:zV P w H h a o)(k:∀ b u,(b=a \/ H b=some (.own a))->h.get? b=some u->h'.get? b=some u)
  (ho:∀ b,H b=some (.own a)->H' b=some (.own a)) (ht:∀ b xs,H b=some (.tup xs)->H' b=some (.tup xs)):zV P w H' h' a o:=by
 induction o with
 | lst xs=>obtain ⟨z,its,n,r,e⟩:=x;exact ⟨z,its,n,r,k _ _ (.inl rfl) e⟩
 | tup xs=>obtain ⟨z,its,r,ob,e,c⟩:=x;exact ⟨z,its,r,ob,k _ _ (.inl rfl) e,c⟩
 | dK kvs=>obtain ⟨z,y,vs,r,ob,es,ep,e,c⟩:=x;exact ⟨z,y,vs,r,ob,es,ep,k _ _ (.inl rfl) e,c⟩
 | dT kvs=>
  obtain ⟨z,y,xs,r,ob,es,ep,e,c⟩:=x
  exact ⟨z,y,xs,mD.mapP r fun p q z=>⟨z.1,ht _ _ z.2.1,z.2.2⟩,ob,es,ep,k _ _ (.inl rfl) e,c⟩
 | set S n=>obtain ⟨ob,es,ep,t,e,c⟩:=x;exact ⟨ob,es,ep,t,k _ _ (.inl rfl) e,c⟩
 | ins C dx fs=>
  obtain ⟨d,z,ne,e,mA,⟨od,es,ep,e2,c⟩,r⟩:=x
  exact ⟨ho _ d,z,ne,k _ _ (.inl rfl) e,mA,⟨od,es,ep,k _ _ (.inr d) e2,c⟩,r⟩
 | own y=>obtain ⟨ob,e⟩:=x;exact ⟨ob,k _ _ (.inl rfl) e⟩
 | xd fs=>obtain ⟨mA,⟨od,es,ep,e,c⟩,r⟩:=x;exact ⟨mA,⟨od,es,ep,k _ _ (.inl rfl) e,c⟩,r⟩
 | rng lo hi=>obtain ⟨t,u,v,e⟩:=x;exact ⟨t,u,v,k _ _ (.inl rfl) e⟩
 | frz ob u ih=>obtain ⟨e,q⟩:=x;exact ⟨k _ _ (.inl rfl) e,ih q⟩
 | tbl ps=>
  have e:h.get? a=some { cls:=.none,data:=.fields ps }:=x
  show h'.get? a=some { cls:=.none,data:=.fields ps }
  exact k a _ (.inl rfl) e
 | met f y=>
  have e:h.get? a=some (iY (.ref f) (.ref y)):=x
  show h'.get? a=some (iY (.ref f) (.ref y))
  exact k a _ (.inl rfl) e
 | ext φ=>obtain ⟨p,⟨o,e⟩,st⟩:=x;exact ⟨st _ _ p fun o q=>k _ _ (.inl rfl) q,⟨o,k _ _ (.inl rfl) e⟩,st⟩
theorem HOk.lt (x:HOk P w H h)(e:H a=some o):a<h.objs.size:=(x a o e).lt
theorem HOk.fresh (x:HOk P w H h)(e:h.objs.size<=a):H a=none:=by
 cases q:H a with
 | none=>rfl
 | some u=>exact absurd (bA (x.lt q) e) (de _)
theorem HOk.kept (x:HOk P w H h)(k:∀ b u,h.get? b=some u->h'.get? b=some u):HOk P w H h':=fun a o e=>
 (x a o e).stay (fun b u _ q=>k b u q) (fun _ q=>q) fun _ _ q=>q
theorem HOk.laid (x:HOk P w H h)(k:∀ b u,h.get? b=some u->h'.get? b=some u)(hp:h.objs.size<=a)(new:zV P w (upd H a o) h' a o):HOk P w (upd H a o) h':=fun b u e=>by
 have hn:=x.fresh hp
 by_cases hb:b=a
 ·subst hb;rw [zi] at e;cases e;exact new
 ·rw [zh hb] at e
  exact (x b u e).stay (fun c v _ q=>k c v q) (fun c q=>by rw [zh (zm q hn)];exact q) fun c xs q=>by rw [zh (zm q hn)];exact q
end
def Rd (H:Hp)(a:ay)(u:HO):Prop:=H a=some u \/ ∃ o,H a=some (.frz o u)
variable {P:ba} {w:bE}
theorem Rd.ok {h:Heap} (r:Rd H a u)(x:HOk P w H h):zV P w H h a u:=by
 rcases r with r | ⟨o,r⟩
 ·exact x a u r
 ·obtain ⟨_,q⟩:=x a _ r
  exact q
noncomputable def Mut:Option HO->Prop
 | some (.lst _)=>True
 | some (.dK _)=>True
 | some (.dT _)=>True
 | some (.set _ _)=>True
 | some (.ins _ _ _)=>True
 | some (.ext _)=>True
 | _=>False
section
variable {P:ba}{w:bE}{H:Hp}{h h':Heap}{x e:ay}{o':HO}
theorem HOk.write (ok : HOk P w H h)(mu : Mut (H x))(he : e = x \/ H e = some (.own x))(k : ∀ b u, b ≠ e -> h.get? b = some u -> h'.get? b = some u)(heo : ∃ u, h'.get? e = some u)
    (new:zV P w (upd H x o') h' x o'):HOk P w (upd H x o') h':=fun b u q=>by
  have nown:∀ c y,H c=some (.own y)->c ≠ x:=fun c y r z=>by subst z;rw [r] at mu;exact mu
  have ntup:∀ c xs,H c=some (.tup xs)->c ≠ x:=fun c xs r z=>by subst z;rw [r] at mu;exact mu
  by_cases hb:b=x
  · subst hb;rw [zi] at q;cases q;exact new
  · rw [zh hb] at q
    by_cases hbe:b=e
    · have q' : H b = some (.own x) := by
        rcases he with z | z
        · exact absurd (hbe.trans z) hb
        · rw [hbe];exact z
      rw [q] at q';cases q'
      obtain ⟨v,hv⟩:=heo
      exact ⟨v,by rw [hbe];exact hv⟩
    · refine (ok b u q).stay (fun c v hc r=>k c v ?_ r) (fun c r=>by rw [zh (nown c b r)];exact r) fun c xs r=>by rw [zh (ntup c xs r)];exact r
      rcases hc with rfl | hc
      · exact hbe
      · rintro rfl
        rcases he with z | z
        · exact nown c b hc z
        · rw [hc] at z;cases z;exact hb rfl
end
structure Un (fs ex:List ay)(H H':Hp)(h h':Heap):Prop where
 keep:∀ b o,h.get? b=some o->H b=none->b ∉ fs->b ∉ ex->h'.get? b=some o
 slot:∀ b o,h.get? b=some o->H b=none->b ∈ fs->b ∉ ex->∃ sl,h'.get? b=some { o with slots:=sl }
 free:∀ b o,h.get? b=some o->H b=none->b ∉ ex->H' b=none
 there:∀ b o,h.get? b=some o->b ∉ ex->∃ o',h'.get? b=some o'
 tups:∀ b xs,H b=some (.tup xs)->H' b=some (.tup xs)
 frzs:∀ b o u,H b=some (.frz o u)->H' b=some (.frz o u)
 tbls:∀ b ps,H b=some (.tbl ps)->∃ more,H' b=some (.tbl (ps ++ more))
section
variable {fs fs' ex ex':List ay}{H H1 H2:Hp}{h h1 h2 h':Heap}{a x e:ay}{o:HO}
theorem Un.any (u:Un fs ex H H1 h h1) {ob:Obj}(q:h.get? b=some ob)(n:H b=none)(hx:b ∉ ex):∃ sl,h1.get? b=some { ob with slots:=sl }:=by
 by_cases hb:b ∈ fs
 ·exact u.slot b ob q n hb hx
 ·exact ⟨ob.slots,u.keep b ob q n hb hx⟩
theorem Un.kept (k:∀ b u,h.get? b=some u->h'.get? b=some u):Un fs ex H H h h':=
 ⟨fun b ob q _ _ _=>k b ob q,fun b ob q _ _ _=>⟨ob.slots,k b ob q⟩,fun _ _ _ n _=>n,fun b ob q _=>⟨ob,k b ob q⟩,fun _ _ q=>q,fun _ _ _ q=>q,fun _ ps q=>⟨#[],by rw [q];simp⟩⟩
theorem Un.refl:Un fs ex H H h h:=Un.kept fun _ _ q=>q
theorem Un.laid (k:∀ b u,h.get? b=some u->h'.get? b=some u)(hp:h.objs.size<=a)(hn:H a=none):Un fs ex H (upd H a o) h h' where
 keep:=fun b u q _ _ _=>k b u q
 slot:=fun b u q _ _ _=>⟨u.slots,k b u q⟩
 free:=fun b u q n _=>by rw [zh (bw (bA (aM q) hp))];exact n
 there:=fun b u q _=>⟨u,k b u q⟩
 tups:=fun b xs q=>by rw [zh (zm q hn)];exact q
 frzs:=fun b u xs q=>by rw [zh (zm q hn)];exact q
 tbls:=fun b ps q=>⟨#[],by rw [zh (zm q hn),q];simp⟩
theorem Un.write (mu:Mut (H x))(he:e=x \/ H e=some (.own x))(k:∀ b u,b ≠ e->h.get? b=some u->h'.get? b=some u)(heo:∃ u,h'.get? e=some u):Un fs ex H (upd H x o) h h':=by
 have hx:∀ b,H b=none->b ≠ x:=fun b n z=>by subst z;rw [n] at mu;exact mu
 have hb:∀ b,H b=none->b ≠ e:=fun b n z=>by
  subst z
  rcases he with r | r
  ·exact hx b n r
  ·rw [n] at r;cases r
 have hm:∀ b u,H b=some u->¬ Mut (some u)->b ≠ x:=fun b u q nm z=>by subst z;rw [q] at mu;exact nm mu
 refine ⟨fun b u q n _ _=>k b u (hb b n) q,fun b u q n _ _=>⟨u.slots,k b u (hb b n) q⟩,fun b u q n _=>by rw [zh (hx b n)];exact n,fun b u q _=>?_,
  fun b xs q=>by rw [zh (hm b _ q fun z=>z)];exact q,fun b u xs q=>by rw [zh (hm b _ q fun z=>z)];exact q,fun b ps q=>⟨#[],by rw [zh (hm b _ q fun z=>z),q];simp⟩⟩
 by_cases hbe:b=e
 ·subst hbe;exact heo
 ·exact ⟨u,k b u hbe q⟩
end
noncomputable def trk (h:Heap)(H:Hp):List ay:=(bI h.objs.size).filter fun a=>(H a).isSome
noncomputable def QR (h:Heap)(H:Hp):Heap:=PySem.W.hideAll h (trk h H)
theorem Ac (h:Heap)(H:Hp):(QR h H).objs.size=h.objs.size:=PySem.W.hideAll_size _ _
theorem A3 {h:Heap} {o:Obj}(e:h.get? b=some o)(n:H b=none):(QR h H).get? b=some o:=
 fW _ e fun hm=>by
  have q:(H b).isSome=true:=(ik.mp hm).2
  rw [n] at q;simp at q
theorem Hi {h:Heap}{H:Hp}{b:ay}{o:Obj}(e:(QR h H).get? b=some o):h.get? b=some o/\H b=none:=by
 have e':h.get? b=some o:=iB (trk h H) e
 refine ⟨e',?_⟩
 cases q:H b with
 | none=>rfl
 | some x=>
  have hm:b ∈ trk h H:=ik.mpr ⟨df.mpr (aM e'),by simp [q]⟩
  have z:(QR h H).get? b=none:=dQ (trk h H) hm
  rw [z] at e;cases e
noncomputable def HD (g h:Heap)(L:ay):List (ay × Obj):=(bI h.objs.size).filterMap fun a=>if a=L \/ (g.get? a).isSome=true then none else (h.get? a).map fun o=>(a,o)
noncomputable def qk (g h:Heap)(L d:ay):List (ay × Obj):=(HD g h L).filter fun p=>decide (p.1 ≠ d)
structure Mod (K:az)(mg:Str->Option aq)(base:Heap):Prop where
 kin:K.In base
 glob:base.Ns bz mg
 blt:∃ mb,base.Ns builtinsNs mb/\∀ x:Str,x ≠ "__name__"->mb x=bY x
 nolimit:base.NoLimit
structure Cx where
 prog:ba
 w:bE
 K:az
 mg:Str->Option aq
 base:Heap
 A:bt
 N:List Str
 s₀:ax
 H₀:Hp
 env:Env
 outer:List Env
 stack:List Env
 ex:List ay
 fn:Str->Bool
 calm:Bool
 pn:List (ay × Obj)
 xe:aq->ax->Prop
noncomputable def frs (l:List Env):List ay:=l.filterMap (·.frame)
noncomputable abbrev Cx.fs (X:Cx):List ay:=frs X.outer
def Vis (sc:Scope)(x:Str):Prop:=sc.names.lookup x=some .local \/ sc.names.lookup x=some .cell \/ sc.names.lookup x=some .free
def Loc (sc:Scope)(x:Str):Prop:=sc.names.lookup x=some .local \/ sc.names.lookup x=some .cell
def Pj (env:Env)(h:Heap)(m:Str->Option aq)(x:Str)(u:aq):Prop:=
 (env.kindOf x=some .local/\m x=some u) \/ ((env.kindOf x=some .cell \/ env.kindOf x=some .free)/\∃ c,env.cells.lookup x=some c/\h.IsCell c (some u))
structure Cx.Ok (X:Cx):Prop where
 mod:Mod X.K X.mg X.base
 kind:X.env.scope.kind=.function
 glob:X.env.globals=bz
 blt:X.env.builtins=builtinsNs
 above:X.s₀.heap.objs.size<=X.env.locals
 inj:∀ x y c,X.env.cells.lookup x=some c->X.env.cells.lookup y=some c->x=y
 has:∀ x,(X.env.kindOf x=some .cell \/ X.env.kindOf x=some .free)->∃ c,X.env.cells.lookup x=some c
 cab:∀ x c,X.fn x=true->X.env.cells.lookup x=some c->X.s₀.heap.objs.size<=c
 hd:X.calm=true->X.A.handled=none
 frames:X.A.frames=some X.stack
 stk:X.stack=X.outer \/ (X.stack=X.env :: X.outer/\X.env.frame=some X.env.locals)
 exf:∀ b ∈ X.ex,b ≠ X.env.locals/\∀ x c,X.env.cells.lookup x=some c->c ≠ b
 bs:∀ b o,X.base.get? b=some o->X.s₀.heap.get? b=some o/\X.H₀ b=none
 bsz:X.base.objs.size<=X.s₀.heap.objs.size
 noex:∀ b o,X.base.get? b=some o->b ∉ X.ex
 exfs:∀ b ∈ X.ex,b ∉ X.fs
 funs:X.s₀.heap.FunFrames X.base X.outer
 frf:∀ b ∈ X.fs,X.H₀ b=none
structure Inv (X:Cx)(pins:List (ay × Obj))(σ:List (Option V))(H:Hp)(s:ax):Prop where
 ok:X.Ok
 os:s.os=X.s₀.os
 bare:iw s.gens
 base:Un X.fs X.ex X.H₀ H X.s₀.heap s.heap
 loc:∃ m,s.heap.Ns X.env.locals m/\∀ (i:Nat) (x:Str) (v:V),X.N[i]?=some x->σ[i]?=some (some v)->Vis X.env.scope x->∃ u,zE v u/\Pj X.env s.heap m x u
 cell:∀ x c,X.env.cells.lookup x=some c->∃ v,s.heap.IsCell c v
 free:H X.env.locals=none
 freeC:∀ x c,X.env.cells.lookup x=some c->H c=none
 pin:∀ p ∈ X.pn ++ pins,s.heap.get? p.1=some p.2/\H p.1=none/\p.1 ≠ X.env.locals/\p.1 ∉ X.fs/\∀ v,p.2.data ≠ .cell v
 hok:HOk X.prog X.w H s.heap
 len:σ.length=X.N.length
section
variable {X:Cx}{pins:List (ay × Obj)}{σ:List (Option V)}{H H':Hp}{s:ax}{h':Heap}
theorem Cx.Ok.nofr (ok:X.Ok) {o:Obj}(e:X.base.get? b=some o):b ∉ X.fs:=fun hb=>by
 have:=(ok.funs.mem hb).1
 rw [e] at this;cases this
theorem Inv.bs (I:Inv X pins σ H s):∀ b o,X.base.get? b=some o->s.heap.get? b=some o/\H b=none:=fun b o e=>
 ⟨I.base.keep b o (I.ok.bs b o e).1 (I.ok.bs b o e).2 (I.ok.nofr e) (I.ok.noex b o e),I.base.free b o (I.ok.bs b o e).1 (I.ok.bs b o e).2 (I.ok.noex b o e)⟩
theorem Inv.bk (I:Inv X pins σ H s):∀ b o,X.base.get? b=some o->s.heap.get? b=some o:=fun b o e=>(I.bs b o e).1
theorem Inv.mod (I:Inv X pins σ H s):Mod X.K X.mg X.base:=I.ok.mod
theorem Inv.kIn (I:Inv X pins σ H s):X.K.In s.heap:=I.ok.mod.kin.keeps I.bk
theorem Inv.lt (I:Inv X pins σ H s):X.env.locals<s.heap.objs.size:=let ⟨_,hn,_⟩:=I.loc;hn.lt
theorem Inv.sz (I:Inv X pins σ H s):X.s₀.heap.objs.size<=s.heap.objs.size:=bf I.ok.above (lO I.lt)
theorem Inv.nofs (I:Inv X pins σ H s) (h:s.heap.objs.size<=a):a ∉ X.fs:=fun hb=>by
 obtain ⟨_,o,ho,_⟩:=I.ok.funs.mem hb
 exact absurd (bA (aM ho) (bf I.sz h)) (de _)
theorem Inv.cne (I:Inv X pins σ H s):∀ x c,X.env.cells.lookup x=some c->c ≠ X.env.locals:=fun x c e z=>by
 obtain ⟨v,o,ho,hd⟩:=I.cell x c e
 obtain ⟨m,⟨o',es,ep,ho',hd',_⟩,_⟩:=I.loc
 rw [z,ho'] at ho;cases ho;rw [hd'] at hd;cases hd
theorem Inv.funs (I:Inv X pins σ H s):s.heap.FunFrames X.base X.outer:=by
 have all:∀ (l:List Env),(∀ b ∈ frs l,b ∈ X.fs)->X.s₀.heap.FunFrames X.base l->s.heap.FunFrames X.base l:=by
  intro l
  induction l with
  | nil=>intro _ _;trivial
  | cons env r ih=>
   intro hs hl
   obtain ⟨hk,⟨L,o,hf,hn,ho,hd⟩,hr⟩:=hl
   have hL:L ∈ X.fs:=hs L (by unfold frs;rw [cw,hf];exact bJ)
   obtain ⟨sl,e⟩:=I.base.slot L o ho (I.ok.frf L hL) hL fun z=>I.ok.exfs L z hL
   exact ⟨hk,⟨L,_,hf,hn,e,hd⟩,ih (fun b hb=>hs b (by unfold frs;rw [cw,hf];exact aZ _ hb)) hr⟩
 exact all X.outer (fun _ hb=>hb) I.ok.funs
theorem Inv.stack (I:Inv X pins σ H s):s.heap.FunFrames X.base X.stack:=by
 rcases I.ok.stk with e | ⟨e,hf⟩
 ·rw [e];exact I.funs
 ·rw [e]
  obtain ⟨m,hn,_⟩:=I.loc
  refine .cons (by rw [I.ok.kind];decide) hf hn ?_ I.funs
  exact fH (bf I.ok.bsz I.ok.above)
theorem Inv.stkSub (I:Inv X pins σ H s):∀ b ∈ frs X.stack,b ∈ X.env.locals :: X.fs:=fun b hb=>by
 rcases I.ok.stk with e | ⟨e,hf⟩
 ·rw [e] at hb;exact aZ _ hb
 ·rw [e] at hb
  unfold frs at hb
  rw [cw,hf] at hb
  exact hb
theorem Inv.stkFree (I:Inv X pins σ H s):∀ b ∈ frs X.stack,H b=none:=fun b hb=>by
 rcases aO.mp (I.stkSub b hb) with e | hb
 ·rw [e];exact I.free
 ·obtain ⟨_,o,ho,_⟩:=I.ok.funs.mem hb
  exact I.base.free b o ho (I.ok.frf b hb) fun z=>I.ok.exfs b z hb
variable {g':Array GenState} {t':Nat} {d':Drawn} {ch:List ay}
theorem Inv.step (I:Inv X pins σ H s)
  (hch:∀ b ∈ ch,(b ∈ X.ex \/ X.s₀.heap.objs.size<=b)/\b ≠ X.env.locals/\(∀ x c,X.env.cells.lookup x=some c->c ≠ b)/\∀ p ∈ X.pn ++ pins,p.1 ≠ b)
  (keep:∀ b o,b ≠ X.env.locals->b ∉ X.fs->b ∉ ch->s.heap.get? b=some o->H b=none->h'.get? b=some o)
  (slot:∀ b o,b ≠ X.env.locals->b ∈ X.fs->b ∉ ch->s.heap.get? b=some o->H b=none->∃ sl,h'.get? b=some { o with slots:=sl }) (free:∀ b o,b ∉ ch->s.heap.get? b=some o->H b=none->H' b=none)
  (there:∀ b o,b ∉ ch->s.heap.get? b=some o->∃ o',h'.get? b=some o')
  (tups:∀ b xs,H b=some (.tup xs)->H' b=some (.tup xs)) (frzs:∀ b o u,H b=some (.frz o u)->H' b=some (.frz o u)) (tbls:∀ b ps,H b=some (.tbl ps)->∃ more,H' b=some (.tbl (ps ++ more)))
  (ns:∀ m,s.heap.Ns X.env.locals m->h'.Ns X.env.locals m) (hok:HOk X.prog X.w H' h') (hg:iw g') :
  Inv X pins σ H' { s with heap:=h',gens:=g',drawn:=d',toks:=t' }:=by
 have neL:∀ b o,X.s₀.heap.get? b=some o->b ≠ X.env.locals:=fun b o e=>bw (bA (aM e) I.ok.above)
 have neC:∀ b o,X.s₀.heap.get? b=some o->b ∉ X.ex->b ∉ ch:=fun b o e hx hb=>by
  rcases (hch b hb).1 with z | z
  ·exact hx z
  ·exact absurd (bA (aM e) z) (de _)
 have cellK:∀ x c,X.env.cells.lookup x=some c->∀ v,s.heap.IsCell c v->h'.IsCell c v:=fun x c e v ⟨o,ho,hd⟩=>by
  have nch:c ∉ ch:=fun z=>(hch c z).2.2.1 x c e rfl
  by_cases hc:c ∈ X.fs
  ·obtain ⟨sl,q⟩:=slot c o (I.cne x c e) hc nch ho (I.freeC x c e)
   exact ⟨_,q,hd⟩
  ·exact ⟨o,keep c o (I.cne x c e) hc nch ho (I.freeC x c e),hd⟩
 refine ⟨I.ok,I.os,hg,⟨fun b o e n hb hx=>?_,fun b o e n hb hx=>?_,fun b o e n hx=>?_,fun b o e hx=>?_,fun b xs e=>tups b xs (I.base.tups b xs e),fun b o xs e=>frzs b o xs (I.base.frzs b o xs e),fun b ps e=>?_⟩,?_,fun x c e=>?_,?_,fun x c e=>?_,fun p hp=>?_,hok,I.len⟩
 ·exact keep b o (neL b o e) hb (neC b o e hx) (I.base.keep b o e n hb hx) (I.base.free b o e n hx)
 ·obtain ⟨sl,e1⟩:=I.base.slot b o e n hb hx
  obtain ⟨sl',e2⟩:=slot b _ (neL b o e) hb (neC b o e hx) e1 (I.base.free b o e n hx)
  exact ⟨sl',e2⟩
 ·obtain ⟨o',e1⟩:=I.base.there b o e hx
  exact free b o' (neC b o e hx) e1 (I.base.free b o e n hx)
 ·obtain ⟨o',e1⟩:=I.base.there b o e hx
  exact there b o' (neC b o e hx) e1
 ·obtain ⟨m1,e1⟩:=I.base.tbls b ps e
  obtain ⟨m2,e2⟩:=tbls b _ e1
  exact ⟨m1 ++ m2,by rw [e2,ny]⟩
 ·obtain ⟨m,hn,hl⟩:=I.loc
  refine ⟨m,ns m hn,fun i x v e1 e2 e3=>?_⟩
  obtain ⟨u,r,l⟩:=hl i x v e1 e2 e3
  refine ⟨u,r,?_⟩
  rcases l with l | ⟨k,c,e,z⟩
  ·exact .inl l
  ·exact .inr ⟨k,c,e,cellK x c e _ z⟩
 ·obtain ⟨v,z⟩:=I.cell x c e
  exact ⟨v,cellK x c e v z⟩
 ·obtain ⟨m,⟨o,_,_,ho,_⟩,_⟩:=I.loc
  exact free _ o (fun z=>(hch _ z).2.1 rfl) ho I.free
 ·obtain ⟨v,o,ho,hd⟩:=I.cell x c e
  exact free c o (fun z=>(hch c z).2.2.1 x c e rfl) ho (I.freeC x c e)
 ·obtain ⟨e,n,ne,nf,d⟩:=I.pin p hp
  have nch:p.1 ∉ ch:=fun z=>(hch p.1 z).2.2.2 p hp rfl
  exact ⟨keep p.1 p.2 ne nf nch e n,free p.1 p.2 nch e n,ne,nf,d⟩
theorem Inv.un (I:Inv X pins σ H s)(u:Un X.fs [] H H' s.heap h')(hok:HOk X.prog X.w H' h'):Inv X pins σ H' { s with heap:=h',toks:=t' }:=by
 obtain ⟨m,⟨o,es,ep,ho,r⟩,_⟩:=id I.loc
 obtain ⟨sl,hL⟩:=u.any ho I.free (by simp)
 exact I.step (g':=s.gens) (d':=s.drawn) (ch:=[]) (fun _ z=>nomatch z) (fun b o _ hb _ e n=>u.keep b o e n hb (by simp)) (fun b o _ hb _ e n=>u.slot b o e n hb (by simp)) (fun b o _ e n=>u.free b o e n (by simp)) (fun b o _ e=>u.there b o e (by simp)) u.tups u.frzs u.tbls (fun m' hm=>by
  obtain ⟨o',es',ep',ho',r'⟩:=hm
  rw [ho] at ho';cases ho'
  exact ⟨_,es',ep',hL,r'⟩) hok I.bare
theorem Inv.call (I:Inv X pins σ H s)(u:Un (frs X.stack) ch H H' s.heap h')(hok:HOk X.prog X.w H' h')(hg:iw g')
  (hch:∀ b ∈ ch,(b ∈ X.ex \/ X.s₀.heap.objs.size<=b)/\b ≠ X.env.locals/\(∀ x c,X.env.cells.lookup x=some c->c ≠ b)/\∀ p ∈ X.pn ++ pins,p.1 ≠ b) :
  Inv X pins σ H' { s with heap:=h',gens:=g',drawn:=d',toks:=t' }:=by
 obtain ⟨m,⟨o,es,ep,ho,r⟩,_⟩:=id I.loc
 obtain ⟨sl,hL⟩:=u.any ho I.free fun z=>(hch _ z).2.1 rfl
 exact I.step (ch:=ch) hch (fun b o hL hb hc e n=>u.keep b o e n (fun z=>(aO.mp (I.stkSub b z)).elim hL hb) hc) (fun b o _ _ hc e n=>u.any e n hc) (fun b o hc e n=>u.free b o e n hc) (fun b o hc e=>u.there b o e hc) u.tups u.frzs u.tbls (fun m' hm=>by
  obtain ⟨o',es',ep',ho',r'⟩:=hm
  rw [ho] at ho';cases ho'
  exact ⟨_,es',ep',hL,r'⟩) hok hg
theorem Inv.turned {it:ay}(I:Inv X pins σ H s)(k:∀ b o,b ≠ it->s.heap.get? b=some o->h'.get? b=some o)(hn:H it=none)(hL:it ≠ X.env.locals)
  (h1:it ∈ X.ex \/ X.s₀.heap.objs.size<=it) (h2:∀ x c,X.env.cells.lookup x=some c->c ≠ it) (h3:∀ p ∈ X.pn ++ pins,p.1 ≠ it):Inv X pins σ H { s with heap:=h',toks:=t' }:=by
 have nit:∀ b u,H b=some u->b ≠ it:=fun b u e z=>by rw [z,hn] at e;cases e
 refine I.step (g':=s.gens) (d':=s.drawn) (ch:=[it]) (fun b hb=>?_) (fun b o _ _ hc e _=>k b o (fun z=>hc (by simp [z])) e) (fun b o _ _ hc e _=>⟨o.slots,k b o (fun z=>hc (by simp [z])) e⟩) (fun _ _ _ _ n=>n)
  (fun b o hc e=>⟨o,k b o (fun z=>hc (by simp [z])) e⟩) (fun _ _ e=>e) (fun _ _ _ e=>e) (fun b ps e=>⟨#[],by rw [e];simp⟩) (fun m hm=>?_) (fun b u e=>?_) I.bare
 ·have e:b=it:=by simpa using hb
  subst e
  exact ⟨h1,hL,h2,h3⟩
 ·obtain ⟨o,es,ep,ho,r⟩:=hm
  exact ⟨o,es,ep,k _ o (Ne.symm hL) ho,r⟩
 ·refine (I.hok b u e).stay (fun c v hc q=>k c v ?_ q) (fun _ q=>q) fun _ _ q=>q
  rcases hc with z | z
  ·rw [z];exact nit b u e
  ·exact nit c _ z
theorem Inv.tok (I:Inv X pins σ H s)(t:Nat):Inv X pins σ H { s with toks:=t }:=I.un (h':=s.heap) (t':=t) Un.refl I.hok
theorem Inv.kept (I:Inv X pins σ H s)(k:∀ b u,s.heap.get? b=some u->h'.get? b=some u):Inv X pins σ H { s with heap:=h',toks:=t' }:=I.un (Un.kept k) (I.hok.kept k)
theorem Inv.laid (I:Inv X pins σ H s)(k:∀ b u,s.heap.get? b=some u->h'.get? b=some u)(hp:s.heap.objs.size<=a)(new:zV X.prog X.w (upd H a o) h' a o) :
  Inv X pins σ (upd H a o) { s with heap:=h',toks:=t' }:=I.un (Un.laid k hp (I.hok.fresh hp)) (I.hok.laid k hp new)
theorem Inv.write {x e:ay} (I:Inv X pins σ H s)(mu:Mut (H x))(he:e=x \/ H e=some (.own x))(k:∀ b u,b ≠ e->s.heap.get? b=some u->h'.get? b=some u)(heo:∃ u,h'.get? e=some u)
  (new:zV X.prog X.w (upd H x o) h' x o):Inv X pins σ (upd H x o) { s with heap:=h',toks:=t' }:=I.un (Un.write mu he k heo) (I.hok.write mu he k heo new)
theorem Inv.pins_of {pins':List (ay × Obj)}(I:Inv X pins σ H s)(h:∀ p ∈ pins',s.heap.get? p.1=some p.2/\H p.1=none/\p.1 ≠ X.env.locals/\p.1 ∉ X.fs/\∀ v,p.2.data ≠ .cell v):Inv X pins' σ H s:=
 ⟨I.ok,I.os,I.bare,I.base,I.loc,I.cell,I.free,I.freeC,fun p hp=>(cO.mp hp).elim (fun z=>I.pin p (eO _ z)) (h p),I.hok,I.len⟩
theorem JT {N:List Str}(hN:N.Nodup){i j:Nat}{x:Str}(a:N[i]?=some x)(b:N[j]?=some x):i=j:=by
 obtain ⟨h1,e1⟩:=aA.mp a
 obtain ⟨h2,e2⟩:=aA.mp b
 exact (fN hN).mp (e1.trans e2.symm)
theorem Qw {M : ou}{A : bt}{E : aq -> ax -> Prop}{i : Nat}{x : Str}{v : V}{u : aq}{Q : Unit -> ax -> Prop}(I : Inv X pins σ H s)(hN : X.N.Nodup)(hi : X.N[i]? = some x)(hx : Loc X.env.scope x)(r : zE v u)
    (h:∀ s',Inv X pins (σ.set i (some v)) H s'->(∃ a,eg a s.heap s'.heap/\(a=X.env.locals \/ X.env.cells.lookup x=some a))->Q () s') (hf:X.fn x=true \/ X.env.scope.names.lookup x=some .local:=by first | exact .inl rfl | exact .inr rfl | assumption):aL M A (storeName X.env x u) Q E s:=by
  obtain ⟨m,hn,hl⟩:=id I.loc
  have hcls:(X.env.scope.kind == .class || (X.env.scope.kind == .module && X.env.locals != X.env.globals))=false:=by rw [I.ok.kind];rfl
  have hiσ:i<σ.length:=by rw [I.len];exact (aA.mp hi).1
  have cne:=I.cne
  have tracked:∀ {a:ay} {h':Heap},(∃ o,s.heap.get? a=some o/\H a=none)->eg a s.heap h'->HOk X.prog X.w H h':=fun {a h'} ha hs b ob e=>by
    obtain ⟨_,_,hfree⟩:=ha
    refine (I.hok b ob e).stay (fun c w' hc q=>(hs.2 c ?_).trans q) (fun _ q=>q) fun _ _ q=>q
    rintro rfl
    rcases hc with rfl | hc
    · rw [hfree] at e;cases e
    · rw [hfree] at hc;cases hc
  rcases hx with hk | hk
  · refine wpAny_storeName_local hk hn (fun h' hn' hs=>?_) hcls
    obtain ⟨oL,_,_,hoL,_⟩:=id hn
    refine h _ ⟨I.ok,I.os,I.bare,⟨fun b o e n hb hx=>?_,fun b o e n hb hx=>?_,I.base.free,fun b o e hx=>?_,I.base.tups,I.base.frzs,I.base.tbls⟩,⟨_,hn',fun j y v' e1 e2 e3=>?_⟩,fun y c e=>?_,I.free,I.freeC,fun p hp=>?_,tracked ⟨oL,hoL,I.free⟩ hs,by simpa using I.len⟩ ⟨_,hs,.inl rfl⟩
    · exact (hs.2 b (bw (bA (aM e) I.ok.above))).trans (I.base.keep b o e n hb hx)
    · obtain ⟨sl,e1⟩:=I.base.slot b o e n hb hx
      exact ⟨sl,(hs.2 b (bw (bA (aM e) I.ok.above))).trans e1⟩
    · obtain ⟨o',e1⟩:=I.base.there b o e hx
      exact ⟨o',(hs.2 b (bw (bA (aM e) I.ok.above))).trans e1⟩
    · by_cases hj:j=i
      · subst hj
        rw [hi] at e1;cases e1
        rw [gu hiσ] at e2
        cases e2
        exact ⟨u,r,.inl ⟨hk,by simp⟩⟩
      · rw [dR (Ne.symm hj)] at e2
        obtain ⟨u',r',q⟩:=hl j y v' e1 e2 e3
        refine ⟨u',r',?_⟩
        rcases q with ⟨k,e⟩ | ⟨k,c,e,z⟩
        · refine .inl ⟨k,?_⟩
          have:y ≠ x:=fun e=>hj (JT hN e1 (e ▸ hi))
          simp [this,e]
        · exact .inr ⟨k,c,e,z.sameBut hs (cne y c e)⟩
    · obtain ⟨w',z⟩:=I.cell y c e
      exact ⟨w',z.sameBut hs (cne y c e)⟩
    · obtain ⟨e,n,ne,nf,d⟩:=I.pin p hp
      exact ⟨(hs.2 p.1 ne).trans e,n,ne,nf,d⟩
  · have hfn : X.fn x = true := by
      rcases hf with z | z
      · exact z
      · rw [z] at hk;cases hk
    obtain ⟨c,hc⟩:=I.ok.has x (.inl hk)
    obtain ⟨w',z⟩:=I.cell x c hc
    refine wpAny_storeName_cell I.ok.kind hk hc z (fun h' hc' hs=>?_)
    obtain ⟨oc,hoc,hocd⟩:=id z
    refine h { s with heap:=h' } ⟨I.ok,I.os,I.bare,⟨fun b o e n hb hx=>?_,fun b o e n hb hx=>?_,I.base.free,fun b o e hx=>?_,I.base.tups,I.base.frzs,I.base.tbls⟩,⟨m,hn.sameBut hs (Ne.symm (cne x c hc)),fun j y v' e1 e2 e3=>?_⟩,fun y c' e=>?_,I.free,I.freeC,fun p hp=>?_,tracked ⟨oc,hoc,I.freeC x c hc⟩ hs,by simpa using I.len⟩ ⟨c,hs,.inr hc⟩
    · exact (hs.2 b (bw (bA (aM e) (I.ok.cab x c hfn hc)))).trans (I.base.keep b o e n hb hx)
    · obtain ⟨sl,e1⟩:=I.base.slot b o e n hb hx
      exact ⟨sl,(hs.2 b (bw (bA (aM e) (I.ok.cab x c hfn hc)))).trans e1⟩
    · obtain ⟨o',e1⟩:=I.base.there b o e hx
      exact ⟨o',(hs.2 b (bw (bA (aM e) (I.ok.cab x c hfn hc)))).trans e1⟩
    · by_cases hj:j=i
      · subst hj
        rw [hi] at e1;cases e1
        rw [gu hiσ] at e2
        cases e2
        exact ⟨u,r,.inr ⟨.inl hk,c,hc,hc'⟩⟩
      · rw [dR (Ne.symm hj)] at e2
        obtain ⟨u',r',q⟩:=hl j y v' e1 e2 e3
        refine ⟨u',r',?_⟩
        rcases q with q | ⟨k,c',e,z'⟩
        · exact .inl q
        · refine .inr ⟨k,c',e,z'.sameBut hs ?_⟩
          rintro rfl
          exact hj (JT hN e1 (I.ok.inj _ _ _ e hc ▸ hi))
    · by_cases hcc:c'=c
      · subst hcc;exact ⟨_,hc'⟩
      · obtain ⟨w2,z2⟩:=I.cell y c' e
        exact ⟨w2,z2.sameBut hs hcc⟩
    · obtain ⟨e,n,ne,nf,d⟩:=I.pin p hp
      refine ⟨(hs.2 p.1 ?_).trans e,n,ne,nf,d⟩
      intro q
      rw [q,hoc] at e
      have q':oc=p.2:=b9 e
      exact d w' (by rw [<- q'];exact hocd)
theorem jz {M:ou}{A:bt}{E:aq->ax->Prop}{i:Nat}{x:Str}{v:V}{u:aq}{Q:Unit->ax->Prop}(I:Inv X pins σ H s)(hN:X.N.Nodup)(hi:X.N[i]?=some x)(hx:Loc X.env.scope x)(r:zE v u)
  (h:∀ s',Inv X pins (σ.set i (some v)) H s'->Q () s') (hf:X.fn x=true \/ X.env.scope.names.lookup x=some .local:=by first | exact .inl rfl | exact .inr rfl | assumption):aL M A (storeName X.env x u) Q E s:=
 Qw I hN hi hx r (fun s' I' _=>h s' I') hf
theorem Inv.call' {s':ax} (I:Inv X pins σ H s)(ho:s'.os=s.os)(u:Un (frs X.stack) ch H H' s.heap s'.heap)(hok:HOk X.prog X.w H' s'.heap)(hg:iw s'.gens)
  (hch:∀ b ∈ ch,(b ∈ X.ex \/ X.s₀.heap.objs.size<=b)/\b ≠ X.env.locals/\(∀ x c,X.env.cells.lookup x=some c->c ≠ b)/\∀ p ∈ X.pn ++ pins,p.1 ≠ b):Inv X pins σ H' s':=by
 obtain ⟨h',g',d',t',o'⟩:=s'
 have e:o'=s.os:=ho
 subst e
 exact I.call (g':=g') (t':=t') (d':=d') u hok hg hch
end
abbrev XK:=aq->Option ay->Hp->Prop
abbrev St:=List (Option V)
abbrev VK:=V->Hp->Prop
abbrev TE:=St->Hp->VK->Prop
abbrev TT:=St->Hp->(Bool->Hp->Prop)->Prop
abbrev TA:=St->Hp->(List V->Hp->Prop)->Prop
structure kA where
 nx:St->Hp->Prop
 rt:VK
 bk:St->Hp->Prop:=fun _ _=>False
 ct:St->Hp->Prop:=fun _ _=>False
abbrev TS:=kA->St->Hp->Prop
def EP (X:Cx)(pins:List (ay × Obj))(σ:St)(Q:VK)(u:aq)(s':ax):Prop:=∃ v H',Inv X pins σ H' s'/\zE v u/\Q v H'
def TP (X:Cx)(pins:List (ay × Obj))(σ:St)(Q:Bool->Hp->Prop)(b:Bool)(s':ax):Prop:=∃ H',Inv X pins σ H' s'/\Q b H'
def AP (X:Cx)(pins:List (ay × Obj))(σ:St)(Q:List V->Hp->Prop)(us:List aq)(s':ax):Prop:=∃ vs H',Inv X pins σ H' s'/\zz vs us/\Q vs H'
def SP (X:Cx)(pins:List (ay × Obj))(D:kA)(f:Flow)(s':ax):Prop:=
 match f with
 | .next=>∃ σ' H',Inv X pins σ' H' s'/\D.nx σ' H'
 | .brk=>∃ σ' H',Inv X pins σ' H' s'/\D.bk σ' H'
 | .cont=>∃ σ' H',Inv X pins σ' H' s'/\D.ct σ' H'
 | .ret u=>∃ v σ' H',Inv X pins σ' H' s'/\zE v u/\D.rt v H'
def PE (X:Cx)(e:Expr)(t:TE):Prop:=
 ∀ (pins:List (ay × Obj)) (s:ax) (σ:St) (H:Hp) (Q:VK),Inv X pins σ H s->t σ H Q->aL (aN X.prog X.w) X.A (eval e X.env) (EP X pins σ Q) X.xe s
def PT (X:Cx)(e:Expr)(t:TT):Prop:=
 ∀ (pins:List (ay × Obj)) (s:ax) (σ:St) (H:Hp) (Q:Bool->Hp->Prop),Inv X pins σ H s->t σ H Q->aL (aN X.prog X.w) X.A (isTrue e X.env (eval e X.env)) (TP X pins σ Q) X.xe s
def PW (X:Cx)(e:Expr)(t:TT):Prop:=
 ∀ (whole:Sem aq) (pins:List (ay × Obj)) (s:ax) (σ:St) (H:Hp) (Q:Bool->Hp->Prop),Inv X pins σ H s->t σ H Q->aL (aN X.prog X.w) X.A (isTrue e X.env whole) (TP X pins σ Q) X.xe s
variable {X:Cx} {e:Expr}
theorem PW.pt {t:TT}(h:PW X e t):PT X e t:=h _
def PA (X:Cx)(es:List Expr)(t:TA):Prop:=
 ∀ (pos:Pos) (pins:List (ay × Obj)) (s:ax) (σ:St) (H:Hp) (Q:List V->Hp->Prop),Inv X pins σ H s->t σ H Q->aL (aN X.prog X.w) X.A (spliced (cH pos (aV es X.env))) (AP X pins σ Q) X.xe s
def PS (X:Cx)(st:cJ)(t:TS):Prop:=
 ∀ (pins:List (ay × Obj)) (s:ax) (σ:St) (H:Hp) (D:kA),Inv X pins σ H s->t D σ H->aL (aN X.prog X.w) X.A (exec st X.env) (SP X pins D) X.xe s
def PSs (X:Cx)(st:List cJ)(t:TS):Prop:=
 ∀ (pins:List (ay × Obj)) (s:ax) (σ:St) (H:Hp) (D:kA),Inv X pins σ H s->t D σ H->aL (aN X.prog X.w) X.A (execs st X.env) (SP X pins D) X.xe s
variable {A:bt} {E:aq->ax->Prop} {s:ax}
theorem thn {α:Type}{t:Sem α}{Q Q':α->ax->Prop}{M:ou} (h:aL M A t Q E s)(hQ:∀ a s,Q a s->Q' a s):aL M A t Q' E s:=aR h hQ fun _ _ x=>x
section
variable {X:Cx}
variable {pins:List (ay × Obj)} {σ:St}
theorem bin {a b:Expr}{ta tb:TE}(ha:PE X a ta)(hb:PE X b tb) {R:V->V->Hp->Prop}(I:Inv X pins σ H s)(h:ta σ H fun x H1=>tb σ H1 fun y H2=>R x y H2)
  {α:Type} {Q:α->ax->Prop} {f:aq->aq->Sem α}
  (hf:∀ v u s2 x y H2,Inv X pins σ H2 s2->zE x v->zE y u->R x y H2->aL (aN X.prog X.w) X.A (f v u) Q X.xe s2) :
  aL (aN X.prog X.w) X.A (eval a X.env) (fun v s₁=>aL (aN X.prog X.w) X.A (eval b X.env) (fun u s₂=>aL (aN X.prog X.w) X.A (f v u) Q X.xe s₂) X.xe s₁) X.xe s:=by
 refine thn (ha pins s σ H _ I h) fun v s1 ⟨x,H1,I1,r1,q1⟩=>?_
 refine thn (hb pins s1 σ H1 _ I1 q1) fun u s2 ⟨y,H2,I2,r2,q2⟩=>?_
 exact hf v u s2 x y H2 I2 r1 r2 q2
noncomputable def ZC (i:Nat):TE:=fun σ H Q=>∃ v,σ[i]?=some (some v)/\Q v H
noncomputable def tC (v:V):TE:=fun _ H Q=>Q v H
variable {pos:Pos}
theorem LL {i:Nat}{x:Str} (hN:X.N[i]?=some x)(hv:Vis X.env.scope x)(hd:(x == ("__debug__":Str))=false:=by decide)(hcd:(x == ("__classdict__":Str))=false:=by decide):PE X (.Name x pos) (ZC i):=by
 intro pins s σ H Q I h
 obtain ⟨v,e,h⟩:=h
 obtain ⟨m,hn,hl⟩:=I.loc
 obtain ⟨u,r,l⟩:=hl i x v hN e hv
 have fin:EP X pins σ Q u s:=⟨v,H,I,r,h⟩
 rcases l with ⟨hk,hm⟩ | ⟨hk,c,hc,hcell⟩
 ·exact wpAny_Name (wpAny_loadName_local I.ok.kind hk hn hm fin) hd
 ·rcases hk with hk | hk
  ·exact wpAny_Name (wpAny_loadName_cell I.ok.kind hk hc hcell fin) hd
  ·exact wpAny_Name (wpAny_loadName_free I.ok.kind hk hc hcell fin hcd) hd
theorem zg {i j pos}:PE X (.Constant (.int i) j pos) (tC (.int i)):=fun _ _ _ H _ I h=>wpAny_Constant_int ⟨.int i,H,I.tok _,⟨_,rfl⟩,h⟩
theorem kT {b j pos}:PE X (.Constant (.bool b) j pos) (tC (.bl b)):=fun _ _ _ H _ I h=>Constant_bool ⟨.bl b,H,I,rfl,h⟩
theorem qi {j pos}:PE X (.Constant .none j pos) (tC .non):=fun _ _ _ H _ I h=>Constant_none ⟨.non,H,I,rfl,h⟩
theorem zC {x j pos}:PE X (.Constant (.str x) j pos) (tC (.str x)):=fun _ _ _ H _ I h=>Calls.Constant_str ⟨.str x,H,I.tok _,⟨_,rfl⟩,h⟩
def Gl (X:Cx)(x:Str):Prop:=X.env.kindOf x=some .globalImplicit
variable {Q:aq->ax->Prop}
theorem kK {x:Str}{u:aq} (I:Inv X pins σ H s)(hg:Gl X x)(hm:X.mg x=some u)(h:Q u s)
  (hd:(x == ("__debug__":Str))=false:=by decide):aL (aN X.prog X.w) X.A (eval (.Name x pos) X.env) Q E s:=
 iC I.ok.kind hg (Calls.loadGlobal_global (by rw [I.ok.glob];exact I.mod.glob.keeps I.bk) hm h) hd
theorem vt {x:Str}{u:aq} (I:Inv X pins σ H s)(hg:Gl X x)(hm:X.mg x=none)(hv:bY x=some u)(h:Q u s)
  (hn:x ≠ "__name__":=by decide) (hd:(x == ("__debug__":Str))=false:=by decide):aL (aN X.prog X.w) X.A (eval (.Name x pos) X.env) Q E s:=by
 obtain ⟨mb,h1,h2⟩:=I.mod.blt
 exact iC I.ok.kind hg (Calls.loadGlobal_builtin (by rw [I.ok.glob];exact I.mod.glob.keeps I.bk) hm (by rw [I.ok.blt];exact h1.keeps I.bk) ((h2 x hn).trans hv) h) hd
theorem xX {x:Str}{v:V}{u:aq} (hg:Gl X x)(hm:X.mg x=none)(hv:bY x=some u)(r:zE v u)(hn:x ≠ "__name__":=by decide)(hd:(x == ("__debug__":Str))=false:=by decide):PE X (.Name x pos) (tC v):=
 fun _ _ _ H _ I h=>vt I hg hm hv ⟨v,H,I,r,h⟩ hn hd
variable {a b:Expr}{ta tb:TE}{pos:Pos}
def PC (X:Cx)(op:oE)(a b:Expr)(t:TE):Prop:=
 ∀ (pins:List (ay × Obj)) (s:ax) (σ:St) (H:Hp) (Q:VK),Inv X pins σ H s->t σ H Q ->
  aL (aN X.prog X.w) X.A (eval a X.env) (fun v s₁=>aL (aN X.prog X.w) X.A (eval b X.env) (fun u s₂=>aL (aN X.prog X.w) X.A (dS op v u) (EP X pins σ Q) X.xe s₂) X.xe s₁) X.xe s
variable {op:oE}
theorem BQ (b:Expr) (h:op ≠ .In)(h2:op ≠ .NotIn):fz op b=false:=by
 have e1:(op == oE.In)=false:=by cases op <;> first | rfl | exact absurd rfl h
 have e2:(op == oE.NotIn)=false:=by cases op <;> first | rfl | exact absurd rfl h2
 cases b <;> simp [fz,e1,e2]
noncomputable def tB (t:TE):TT:=fun σ H Q=>t σ H fun x H1=>∃ c,x=.bl c/\Q c H1
variable {t:TE}
theorem Pf (h:PC X op a b t)(h1:fz op b=false:=by first | exact BQ _ (by decide) (by decide) | rfl):PT X (.Compare a [op] [b] pos) (tB t):=by
 intro pins s σ H Q I hw
 refine wpAny_isTrue_Compare1 (thn (h pins s σ H _ I hw) fun v s1 h1=>thn h1 fun u s2 h2=>thn h2 fun c s3 ⟨x,H1,I1,r1,q1⟩=>?_) h1
 obtain ⟨d,rfl,q⟩:=q1
 cases r1
 exact dU ⟨H1,I1,q⟩
theorem j6 (h:PE X e t)(he:∀ whole,isTrue e X.env whole=(do let v <- whole;iZ e.pos;holding [v] (truthy v)):=by intro _;rfl):PT X e (tB t):=by
 intro pins s σ H Q I hw
 refine isTrue_plain (thn (h pins s σ H _ I hw) fun v s1 ⟨x,H1,I1,r1,q1⟩=>?_) (he _)
 obtain ⟨d,rfl,q⟩:=q1
 cases r1
 exact dU ⟨H1,I1,q⟩
variable {tA tB':TT}{qk:List Expr}
noncomputable def Nz (t u:TT):TT:=fun σ H Q=>t σ H fun c H1=>if c=true then u σ H1 Q else Q false H1
noncomputable def tOr (t u:TT):TT:=fun σ H Q=>t σ H fun c H1=>if c=true then Q true H1 else u σ H1 Q
noncomputable def Lq (t:TT):TT:=fun σ H Q=>t σ H fun c H1=>Q (!c) H1
theorem xQ (ha:PT X a tA):PW X (.BoolOp .And [a] pos) tA:=by
 intro wh pins s σ H Q I h
 refine isTrue_and (thn (ha pins s σ H Q I h) fun c s1 e=>?_)
 cases c with
 | true=>exact isTrue_and_nil e
 | false=>exact e
theorem yl (ha:PT X a tA):PW X (.BoolOp .Or [a] pos) tA:=by
 intro wh pins s σ H Q I h
 refine isTrue_or (thn (ha pins s σ H Q I h) fun c s1 e=>?_)
 cases c with
 | false=>exact isTrue_or_nil e
 | true=>exact e
theorem vF (ha:PT X a tA)(hb:PW X (.BoolOp .And (b :: qk) pos) tB'):PW X (.BoolOp .And (a :: b :: qk) pos) (Nz tA tB'):=by
 intro wh pins s σ H Q I h
 refine isTrue_and (thn (ha pins s σ H _ I h) fun c s1 ⟨H1,I1,q1⟩=>?_)
 cases c with
 | true=>exact hb wh pins s1 σ H1 Q I1 q1
 | false=>exact ⟨H1,I1,q1⟩
theorem wy (ha:PT X a tA)(hb:PW X (.BoolOp .Or (b :: qk) pos) tB'):PW X (.BoolOp .Or (a :: b :: qk) pos) (tOr tA tB'):=by
 intro wh pins s σ H Q I h
 refine isTrue_or (thn (ha pins s σ H _ I h) fun c s1 ⟨H1,I1,q1⟩=>?_)
 cases c with
 | true=>exact ⟨H1,I1,q1⟩
 | false=>exact hb wh pins s1 σ H1 Q I1 q1
theorem xj (ha:PT X a tA):PT X (.UnaryOp .Not a pos) (Lq tA):=by
 intro pins s σ H Q I h
 exact isTrue_not (ha pins s σ H (fun c H1=>Q (!c) H1) I h)
noncomputable def A1 (ta tb:TE):TE:=fun σ H Q=>ta σ H fun x H1=>∃ c,x=.bl c/\if c=true then tb σ H1 Q else Q (.bl false) H1
noncomputable def L8 (ta tb:TE):TE:=fun σ H Q=>ta σ H fun x H1=>∃ c,x=.bl c/\if c=true then Q (.bl true) H1 else tb σ H1 Q
theorem Ew {op} (h:PE X a t):PE X (.BoolOp op [a] pos) t:=fun pins s σ H Q I hw=>BoolOp_one (h pins s σ H Q I hw)
theorem L4 (ha:PE X a ta)(hb:PE X (.BoolOp .And (b :: qk) pos) tb):PE X (.BoolOp .And (a :: b :: qk) pos) (A1 ta tb):=by
 intro pins s σ H Q I h
 refine BoolOp_and (thn (ha pins s σ H _ I h) fun v s1 ⟨x,H1,I1,r1,q1⟩=>?_)
 obtain ⟨c,rfl,q1⟩:=q1
 cases r1
 refine dU ?_
 cases c with
 | true=>exact hb pins s1 σ H1 Q I1 q1
 | false=>exact ⟨.bl false,H1,I1,rfl,q1⟩
theorem OV (ha:PE X a ta)(hb:PE X (.BoolOp .Or (b :: qk) pos) tb):PE X (.BoolOp .Or (a :: b :: qk) pos) (L8 ta tb):=by
 intro pins s σ H Q I h
 refine BoolOp_or (thn (ha pins s σ H _ I h) fun v s1 ⟨x,H1,I1,r1,q1⟩=>?_)
 obtain ⟨c,rfl,q1⟩:=q1
 cases r1
 refine dU ?_
 cases c with
 | false=>exact hb pins s1 σ H1 Q I1 q1
 | true=>exact ⟨.bl true,H1,I1,rfl,q1⟩
noncomputable def tIf (t:TT)(ta tb:TE):TE:=fun σ H Q=>t σ H fun c H1=>if c=true then ta σ H1 Q else tb σ H1 Q
theorem Di {c:Expr}(hc:PT X c tA)(ha:PE X a ta)(hb:PE X b tb):PE X (.IfExp c a b pos) (tIf tA ta tb):=by
 intro pins s σ H Q I h
 refine wpAny_IfExp (thn (hc pins s σ H _ I h) fun d s1 ⟨H1,I1,q1⟩=>?_)
 cases d with
 | true=>exact ha pins s1 σ H1 Q I1 q1
 | false=>exact hb pins s1 σ H1 Q I1 q1
end
def SqL (K:az)(H:Hp)(a:ay)(xs:List V):Prop:=
 Rd H a (.lst xs) \/
  ∃ (o:Obj) (its:Array aq) (n:Nat),K.lookup a=some o/\o.cls=.type "list"/\o.dict=none/\o.data=.seq its n/\its.size<=aT/\zz xs its.toList
def SqT (K:az)(H:Hp)(a:ay)(xs:List V):Prop:=
 Rd H a (.tup xs) \/
  ∃ (o:Obj) (its:Array aq) (n:Nat),K.lookup a=some o/\o.cls=.type "tuple"/\o.data=.seq its n/\its.size<=aT/\zz xs its.toList
noncomputable def O9:aq->Option V
 | .none=>some .non
 | .bool b=>some (.bl b)
 | .int i _=>some (.int i)
 | .str x _=>some (.str x)
 | .bytes b _=>some (.byt b)
 | .float b _=>some (.flt b)
 | .ref a=>some (.ref a)
 | .type n=>some (.ty n)
 | _=>none
theorem zE.abs {x:V}{u:aq}(r:zE x u):O9 u=some x:=by
 cases x with
 | non=>cases r;rfl
 | bl _=>cases r;rfl
 | int _=>obtain ⟨t,rfl⟩:=r;rfl
 | str _=>obtain ⟨t,rfl⟩:=r;rfl
 | byt _=>obtain ⟨t,rfl⟩:=r;rfl
 | flt _=>obtain ⟨t,rfl⟩:=r;rfl
 | ref _=>cases r;rfl
 | ty _=>cases r;rfl
theorem zE.inj {x y:V}{u:aq}(r:zE x u)(q:zE y u):x=y:=b9 (r.abs.symm.trans q.abs)
theorem zz.inj:∀ {xs ys:List V} {us:List aq},zz xs us->zz ys us->xs=ys
 | _,_,_,.nil,.nil=>rfl
 | _,_,_,.cons r t,.cons r' t'=>by rw [r.inj r',zz.inj t t']
section
variable {X:Cx}{pins:List (ay × Obj)}{σ:St}{H:Hp}{s:ax}{a:ay}{xs ys:List V}
variable {K:az}
theorem SqL.of (h:H a=some (.lst xs)):SqL K H a xs:=.inl (.inl h)
theorem SqT.of (h:H a=some (.tup xs)):SqT K H a xs:=.inl (.inl h)
theorem Inv.list (I:Inv X pins σ H s)(h:SqL X.K H a xs):∃ its:List aq,zz xs its/\PlainL s.heap a its.toArray/\xs.length<=aT:=by
 rcases h with h | ⟨o,its,n,hk,hc,hd,hs,hz,r⟩
 ·obtain ⟨z,its,n,r,e⟩:=h.ok I.hok
  exact ⟨its,r,⟨_,n,e,rfl,rfl,rfl⟩,z⟩
 ·refine ⟨its.toList,r,⟨o,n,I.kIn a o hk,hc,hd,by simpa using hs⟩,?_⟩
  have e:=r.length
  simp only [io] at e
  omega
theorem Inv.tuple (I:Inv X pins σ H s)(h:SqT X.K H a xs):∃ its:List aq,zz xs its/\IsTup s.heap a its.toArray/\xs.length<=aT:=by
 rcases h with h | ⟨o,its,n,hk,hc,hs,hz,r⟩
 ·obtain ⟨z,its,r,p⟩:=h.ok I.hok
  exact ⟨its,r,p.is,z⟩
 ·refine ⟨its.toList,r,⟨o,I.kIn a o hk,hc,n,by simpa using hs⟩,?_⟩
  have e:=r.length
  simp only [io] at e
  omega
theorem Inv.list_inj (I:Inv X pins σ H s)(h:SqL X.K H a xs)(h':SqL X.K H a ys):xs=ys:=by
 obtain ⟨its,r,⟨o,n,e,_,_,d⟩,_⟩:=I.list h
 obtain ⟨its',r',⟨o',n',e',_,_,d'⟩,_⟩:=I.list h'
 rw [e] at e';cases e'
 rw [d] at d'
 injection d' with d1 _
 have:its=its':=by simpa using congrArg Array.toList d1
 subst this
 exact r.inj r'
theorem Inv.tuple_inj (I:Inv X pins σ H s)(h:SqT X.K H a xs)(h':SqT X.K H a ys):xs=ys:=by
 obtain ⟨its,r,⟨o,e,_,n,d⟩,_⟩:=I.tuple h
 obtain ⟨its',r',⟨o',e',_,n',d'⟩,_⟩:=I.tuple h'
 rw [e] at e';cases e'
 rw [d] at d'
 injection d' with d1 _
 have:its=its':=by simpa using congrArg Array.toList d1
 subst this
 exact r.inj r'
end
noncomputable abbrev Cx.wish (X:Cx)(E:aq->ax->Prop):Cx:={ X with xe:=E }
noncomputable abbrev Cx.nox (X:Cx):Cx:=X.wish fun _ _=>False
theorem Cx.Ok.wish (ok:X.Ok)(E:aq->ax->Prop):(X.wish E).Ok:=
 ⟨ok.mod,ok.kind,ok.glob,ok.blt,ok.above,ok.inj,ok.has,ok.cab,ok.hd,ok.frames,ok.stk,ok.exf,ok.bs,ok.bsz,ok.noex,ok.exfs,ok.funs,ok.frf⟩
theorem Cx.Ok.unwish (ok:(X.wish E).Ok):X.Ok:=
 ⟨ok.mod,ok.kind,ok.glob,ok.blt,ok.above,ok.inj,ok.has,ok.cab,ok.hd,ok.frames,ok.stk,ok.exf,ok.bs,ok.bsz,ok.noex,ok.exfs,ok.funs,ok.frf⟩
section
variable {X:Cx}{pins:List (ay × Obj)}{σ:St}{H:Hp}{s:ax}{E:aq->ax->Prop}
theorem Inv.wish (I:Inv X pins σ H s)(E:aq->ax->Prop):Inv (X.wish E) pins σ H s:=⟨I.ok.wish E,I.os,I.bare,I.base,I.loc,I.cell,I.free,I.freeC,I.pin,I.hok,I.len⟩
theorem Inv.unwish (I:Inv (X.wish E) pins σ H s):Inv X pins σ H s:=⟨I.ok.unwish,I.os,I.bare,I.base,I.loc,I.cell,I.free,I.freeC,I.pin,I.hok,I.len⟩
theorem SP.unwish {D:kA}{f:Flow}{s':ax}(h:SP (X.wish E) pins D f s'):SP X pins D f s':=by
 cases f with
 | next=>obtain ⟨σ',H',I,q⟩:=h;exact ⟨σ',H',I.unwish,q⟩
 | brk=>obtain ⟨σ',H',I,q⟩:=h;exact ⟨σ',H',I.unwish,q⟩
 | cont=>obtain ⟨σ',H',I,q⟩:=h;exact ⟨σ',H',I.unwish,q⟩
 | ret u=>obtain ⟨v,σ',H',I,r,q⟩:=h;exact ⟨v,σ',H',I.unwish,r,q⟩
theorem PSs.nox {st:List cJ}{t:TS}(h:PSs X.nox st t):PSs X st t:=fun pins s σ H D I hw=>
 aR (h pins s σ H D (I.wish _) hw) (fun _ _ q=>q.unwish) fun _ _ z=>ca z
end
section
variable {X:Cx}{st:cJ}{qk:List cJ}{t u:TS}{e:Expr}{te:TE}{pos:Pos}
noncomputable def D8:TS:=fun D σ H=>D.nx σ H
noncomputable def Wk (t u:TS):TS:=fun D σ H=>t { D with nx:=u D } σ H
theorem zx:PSs X [] D8:=fun _ _ σ H _ I h=>f9 ⟨σ,H,I,h⟩
theorem zc (h1:PS X st t)(h2:PSs X qk u):PSs X (st :: qk) (Wk t u):=by
 intro pins s σ H D I h
 refine lz (thn (h1 pins s σ H { D with nx:=u D } I h) fun f s1 q=>?_)
 cases f with
 | next=>
  obtain ⟨σ',H',I',q⟩:=q
  exact h2 pins s1 σ' H' D I' q
 | ret v=>exact q
 | brk=>exact q
 | cont=>exact q
theorem zf (h1:PS X st t):PSs X [st] t:=by
 intro pins s σ H D I h
 refine lz (thn (h1 pins s σ H D I h) fun f s1 q=>?_)
 cases f with
 | next=>exact f9 q
 | ret v=>exact q
 | brk=>exact q
 | cont=>exact q
theorem Inv.quiet {pins:List (ay × Obj)}{σ:St} (I:Inv X pins σ H s):interactive X.env=false:=by simp [interactive,I.ok.kind]
noncomputable def VA (te:TE):TS:=fun D σ H=>te σ H fun _ H1=>D.nx σ H1
theorem zZ (he:PE X e te)(hs:mY e none pos.line X.env=pure false:=by rfl):PS X (.Expr e pos) (VA te):=by
 intro pins s σ H D I h
 exact wpAny_Expr_any (thn (he pins s σ H _ I h) fun v s1 ⟨x,H1,I1,r1,q1⟩=>⟨σ,H1,I1,q1⟩) I.quiet hs
noncomputable def GE (te:TE):TS:=fun D σ H=>te σ H D.rt
theorem zy (he:PE X e te):PS X (.Return (some e) pos) (GE te):=by
 intro pins s σ H D I h
 exact wpAny_Return_some (thn (he pins s σ H _ I h) fun v s1 ⟨x,H1,I1,r1,q1⟩=>⟨x,σ,H1,I1,r1,q1⟩)
noncomputable def Hl (c:TT)(t u:TS):TS:=fun D σ H=>c σ H fun b H1=>if b=true then t D σ H1 else u D σ H1
theorem zS {c:Expr}{a b:List cJ}{tc:TT}(hc:PT X c tc)(ha:PSs X a t)(hb:PSs X b u):PS X (.If c a b pos) (Hl tc t u):=by
 intro pins s σ H D I h
 refine wpAny_If (thn (hc pins s σ H _ I h) fun d s1 ⟨H1,I1,q1⟩=>?_)
 cases d with
 | true=>exact ha pins s1 σ H1 D I1 q1
 | false=>exact hb pins s1 σ H1 D I1 q1
end
abbrev TG:=V->St->Hp->(St->Hp->Prop)->Prop
abbrev TGs:=List V->St->Hp->(St->Hp->Prop)->Prop
def PG (X:Cx)(target:Expr)(t:TG):Prop:=
 ∀ (pins:List (ay × Obj)) (s:ax) (σ:St) (H:Hp) (v:V) (u:aq) (Q:St->Hp->Prop),Inv X pins σ H s->zE v u->t v σ H Q ->
  aL (aN X.prog X.w) X.A (mE target X.env u) (fun _ s'=>∃ σ' H',Inv X pins σ' H' s'/\Q σ' H') X.xe s
def PGs (X:Cx)(ts:List Expr)(t:TGs):Prop:=
 ∀ (pins:List (ay × Obj)) (s:ax) (σ:St) (H:Hp) (vs:List V) (us:List aq) (Q:St->Hp->Prop),Inv X pins σ H s->zz vs us->t vs σ H Q ->
  aL (aN X.prog X.w) X.A (hJ ((gi ts X.env).map (·.2)) us) (fun _ s'=>∃ σ' H',Inv X pins σ' H' s'/\Q σ' H') X.xe s
abbrev JQ:=V->V->V->Hp->(Hp->Prop)->Prop
def FZ (X:Cx)(t:JQ):Prop:=
 ∀ (pins:List (ay × Obj)) (s:ax) (σ:St) (H:Hp) (o i v:V) (ov iv u:aq) (Q:Hp->Prop),Inv X pins σ H s->zE o ov->zE i iv->zE v u->t o i v H Q ->
  aL (aN X.prog X.w) X.A (setItem ov iv u) (fun _ s'=>∃ H',Inv X pins σ H' s'/\Q H') X.xe s
abbrev TIp:=V->V->Hp->VK->Prop
def PIp (X:Cx)(op:Operator)(t:TIp):Prop:=
 ∀ (pins:List (ay × Obj)) (s:ax) (σ:St) (H:Hp) (x y:V) (v u:aq) (Q:VK),Inv X pins σ H s->zE x v->zE y u->t x y H Q ->
  aL (aN X.prog X.w) X.A (inplaceOp op v u) (EP X pins σ Q) X.xe s
section
variable {X:Cx}{pos:Pos}
noncomputable def Kr (i:Nat):TG:=fun v σ H Q=>Q (σ.set i (some v)) H
variable {i:Nat}
theorem zw {x:Str}(hN:X.N.Nodup)(hi:X.N[i]?=some x)(hx:Loc X.env.scope x)(hf:X.fn x=true \/ X.env.scope.names.lookup x=some .local:=by first | exact .inl rfl | exact .inr rfl | assumption):PG X (.Name x pos) (Kr i):=by
 intro pins s σ H v u Q I r h
 exact wpAny_assign_Name (jz I hN hi hx r (fun s' I'=>⟨_,H,I',h⟩) hf)
noncomputable def Ni:TGs:=fun vs σ H Q=>vs=[]/\Q σ H
noncomputable def Fo (t:TG)(u:TGs):TGs:=fun vs σ H Q=>∃ v r,vs=v :: r/\t v σ H fun σ' H'=>u r σ' H' Q
theorem jf:PGs X [] Ni:=by
 intro pins s σ H vs us Q I r h
 obtain ⟨e,h⟩:=h
 subst e
 cases r
 exact i5 ⟨σ,H,I,h⟩
theorem zK {e:Expr}{es:List Expr}{t:TG}{u:TGs}(h1:PG X e t)(h2:PGs X es u)
  (hs:(gi (e :: es) X.env).map (·.2)=mE e X.env :: (gi es X.env).map (·.2):=by rfl):PGs X (e :: es) (Fo t u):=by
 intro pins s σ H vs us Q I r h
 obtain ⟨v,vr,e1,h⟩:=h
 subst e1
 cases r with
 | cons r rr=>
  rw [hs]
  refine eF (thn (h1 pins s σ H _ _ _ I r h) fun _ s1 ⟨σ1,H1,I1,q1⟩=>?_)
  exact h2 pins s1 σ1 H1 _ _ Q I1 rr q1
noncomputable def Aj (K:az)(n:Nat)(t:TGs):TG:=fun v σ H Q=>∃ a xs,v=.ref a/\SqT K H a xs/\xs.length=n/\t xs σ H Q
theorem Mq {es:List Expr}{k:Nat}{t:TGs}{n:Nat}(hc:X.calm=true)(h:PGs X es t)
  (hn:(gi es X.env).length=n:=by rfl) (hst:(gi es X.env).findIdx? (·.1)=none:=by rfl):PG X (.Tuple es k pos) (Aj X.K n t):=by
 intro pins s σ H v u Q I r hw
 obtain ⟨a,xs,e1,hq,hl,hw⟩:=hw
 subst e1
 cases r
 obtain ⟨its,rv,ht,hz⟩:=I.tuple hq
 refine assign_Tuple_tuple (I.ok.hd hc) ht (by simp [hn,<- hl,rv.length]) hst fun h' hx=>?_
 have I1:Inv X pins σ H { s with heap:=h' }:=I.kept (t':=s.toks) fun b o e=>hx b o (bw (aM e)) e
 exact h pins _ σ H xs _ Q I1 (by simpa using rv) hw
noncomputable def ND (to ti:TE)(t:JQ):TG:=fun v σ H Q=>to σ H fun o H1=>ti σ H1 fun i H2=>t o i v H2 fun H3=>Q σ H3
theorem qM {o i:Expr}{to ti:TE}{t:JQ}(ho:PE X o to)(hi:PE X i ti)(hs:FZ X t)
  (ha:∀ v,mE (.Subscript o i pos) X.env v=(do
   let ov <- holding [v] (eval o X.env)
   let iv <- holding [v,ov] (eval i X.env)
   iZ pos
   holding [v,ov,iv] (setItem ov iv v)
   release [v,ov,iv] []):=by intro _;rfl):PG X (.Subscript o i pos) (ND to ti t):=by
 intro pins s σ H v u Q I r h
 rw [ha]
 refine aw (cQ (thn (ho pins s σ H _ I h) fun ov s1 ⟨x,H1,I1,r1,q1⟩=>?_))
 refine aw (cQ (thn (hi pins s1 σ H1 _ I1 q1) fun iv s2 ⟨y,H2,I2,r2,q2⟩=>?_))
 refine aw (cD (aw (cQ (thn (hs pins s2 σ H2 x y v ov iv u _ I2 r1 r2 r q2) fun _ s3 ⟨H3,I3,q3⟩=>?_))))
 exact wpAny_release ⟨σ,H3,I3,q3⟩
noncomputable def JK (te:TE)(g:TG):TS:=fun D σ H=>te σ H fun x H1=>g x σ H1 D.nx
variable {te:TE}
theorem qE {tg e:Expr} {g:TG}(he:PE X e te)(hg:PG X tg g)(hs:nj [tg] e pos.line X.env=pure false:=by rfl)(hw:nk [tg] e X.env=pure none:=by rfl)
  (h1:(gi [tg] X.env).map (·.2)=[mE tg X.env]:=by rfl):PS X (.Assign [tg] e pos) (JK te g):=by
 intro pins s σ H D I h
 refine wpAny_Assign_stores (thn (he pins s σ H _ I h) fun v s1 ⟨x,H1,I1,r1,q1⟩=>?_) hs hw
 rw [h1]
 exact thn (hg pins s1 σ H1 x v _ I1 r1 q1) fun _ s2 q=>q
theorem zB {x:Str} {pos':Pos}(hN:X.N.Nodup)(hi:X.N[i]?=some x)(hx:Loc X.env.scope x)(he:PE X e te)(hs:mY e (some (.Name x pos')) pos.line X.env=pure false:=by rfl)(hf:X.fn x=true \/ X.env.scope.names.lookup x=some .local:=by first | exact .inl rfl | exact .inr rfl | assumption) :
  PS X (.Assign [.Name x pos'] e pos) (JK te (Kr i)):=by
 intro pins s σ H D I h
 refine wpAny_Assign_Name (thn (he pins s σ H _ I h) fun v s1 ⟨y,H1,I1,r1,q1⟩=>?_) hs
 exact jz I1 hN hi hx r1 (fun s2 I2=>⟨_,H1,I2,q1⟩) hf
noncomputable def NT (i j:Nat)(ta:TA):TS:=fun D σ H=>ta σ H fun vs H1=>∃ v w,vs=[v,w]/\D.nx ((σ.set i (some v)).set j (some w)) H1
theorem IS {i j:Nat}{x y:Str}{a b:Expr}{ta:TA}{px py pt:Pos}{kt k2 pt2}(hc:X.calm=true)(hN:X.N.Nodup)(hi:X.N[i]?=some x)(hj:X.N[j]?=some y)(hij:i ≠ j)
  (hx:X.env.scope.names.lookup x=some .local) (hy:X.env.scope.names.lookup y=some .local) (ha:PA X [a,b] ta)
  (hw:nk [.Tuple [.Name x px,.Name y py] kt pt] (.Tuple [a,b] k2 pt2) X.env=pure (some [x,y]))
  (hs:nj [.Tuple [.Name x px,.Name y py] kt pt] (.Tuple [a,b] k2 pt2) pos.line X.env=pure false:=by rfl) :
  PS X (.Assign [.Tuple [.Name x px,.Name y py] kt pt] (.Tuple [a,b] k2 pt2) pos) (NT i j ta):=by
 intro pins s σ H D I h
 rw [exec_Assign_arm]
 refine aw (cD ?_)
 rw [hs]
 refine aw (aJ ?_)
 rw [if_neg (by decide)]
 refine aw (Tuple_ (thn (ha _ pins s σ H _ I h) fun us s1 ⟨vs,H1,I1,r1,q1⟩=>?_))
 obtain ⟨v,w,e1,q1⟩:=q1
 subst e1
 obtain ⟨u1,u2,rfl,rv,rw'⟩:∃ u1 u2,us=[u1,u2]/\zE v u1/\zE w u2:=by
  cases r1 with
  | cons p q=>
   cases q with
   | cons p' q'=>
    cases q'
    exact ⟨_,_,rfl,p,p'⟩
 refine bO ?_ (by show 2<=aT;decide)
 have I2:Inv X pins σ H1 { s1 with heap:=s1.heap.push { cls:=.type "tuple",data:=.seq [u1,u2].toArray } }:=I1.kept (t':=s1.toks) fun b o e=>aD _ e
 rw [hw]
 refine aw (aJ ?_)
 show aL (aN X.prog X.w) X.A (do rule "assign.swapped-stores";let items <- unpackItems (.ref s1.heap.objs.size) 2 none;hJ [fun v=>gv X.env y v,fun v=>gv X.env x v] items.reverse;pure Flow.next) _ _ _
 refine aw (nz (aw (unpackItems_tuple (items:=#[u1,u2]) (I.ok.hd hc) (IsTup.new s1.heap _) fun h' hx'=>?_)))
 have I3:=I2.kept (h':=h') (t':=s1.toks) fun b o e=>hx' b o (bw (aM e)) e
 show aL _ _ (hJ [fun v=>gv X.env y v,fun v=>gv X.env x v] [u2,u1] >>= fun _=>pure Flow.next) _ _ _
 refine aw (eF (gw (jz I3 hN hj (.inl hy) rw' (fun s2 I4=>?_) (.inr hy))))
 refine eF (gw (jz I4 hN hi (.inl hx) rv (fun s3 I5=>i5 (aJ ?_)) (.inr hx)))
 rw [eA _ _ (Ne.symm hij)] at I5
 exact ⟨_,H1,I5,q1⟩
noncomputable def Ec (to ti te:TE)(tget:V->V->Hp->VK->Prop)(tip:TIp)(tset:JQ):TS:=fun D σ H=>to σ H fun o H1=>ti σ H1 fun i H2=>tget o i H2 fun x H3=>te σ H3 fun y H4=>tip x y H4 fun z H5=>tset o i z H5 fun H6=>D.nx σ H6
def Oi (X:Cx)(t:V->V->Hp->VK->Prop):Prop:=
 ∀ (pins:List (ay × Obj)) (s:ax) (σ:St) (H:Hp) (o i:V) (ov iv:aq) (Q:VK),Inv X pins σ H s->zE o ov->zE i iv->t o i H Q ->
  aL (aN X.prog X.w) X.A (lQ ov iv) (EP X pins σ Q) X.xe s
theorem v0 {o i e:Expr}{to ti te:TE}{tget:V->V->Hp->VK->Prop}{tip:TIp}{tset:JQ}{op:Operator}{tpos:Pos}(ho:PE X o to)(hi:PE X i ti)(hg:Oi X tget)(he:PE X e te)(hp:PIp X op tip)(hs:FZ X tset)
  (ha:∀ ov iv new,augStore i ov iv new=(do holding [new,ov,iv] (setItem ov iv new);release [new,ov,iv] [];pure .next):=by intros;rfl):PS X (.AugAssign (.Subscript o i tpos) op e pos) (Ec to ti te tget tip tset):=by
 intro pins s σ H D I h
 refine wpAny_AugAssign_SubscriptAny (thn (ho pins s σ H _ I h) fun ov s1 ⟨x1,H1,I1,r1,q1⟩=>?_) ha
 refine thn (hi pins s1 σ H1 _ I1 q1) fun iv s2 ⟨x2,H2,I2,r2,q2⟩=>?_
 refine thn (hg pins s2 σ H2 x1 x2 ov iv _ I2 r1 r2 q2) fun old s3 ⟨x3,H3,I3,r3,q3⟩=>?_
 refine thn (he pins s3 σ H3 _ I3 q3) fun v s4 ⟨x4,H4,I4,r4,q4⟩=>?_
 refine thn (hp pins s4 σ H4 x3 x4 old v _ I4 r3 r4 q4) fun new s5 ⟨x5,H5,I5,r5,q5⟩=>?_
 exact thn (hs pins s5 σ H5 x1 x2 x5 ov iv new _ I5 r1 r2 r5 q5) fun _ s6 ⟨H6,I6,q6⟩=>⟨σ,H6,I6,q6⟩
noncomputable def ipI (f:Int->Int->Int):TIp:=fun x y H Q=>∃ i j,x=.int i/\y=.int j/\Q (.int (f i j)) H
theorem QO:PIp X .Add (ipI fun i j=>i+j):=by
 intro pins s σ H x y v u Q I r1 r2 h
 obtain ⟨i,j,e1,e2,q⟩:=h
 subst e1;subst e2
 obtain ⟨t,rfl⟩:=r1
 obtain ⟨t',rfl⟩:=r2
 exact iadd_int ⟨.int _,H,I.tok _,⟨_,rfl⟩,q⟩
end
section
variable {X:Cx}{pos:Pos}
noncomputable def DK (c:TT)(tb:TS):TS:=fun D σ H=>∃ W:Nat->St->Hp->Prop,(∃ m,W m σ H)/\∀ m σ H,W m σ H ->
 c σ H fun b H1=>if b=true then ∃ N:St->Hp->Prop,(∀ σ' H',N σ' H'->∃ m',m'<m/\W m' σ' H')/\tb { D with nx:=N,ct:=N,bk:=D.nx } σ H1 else D.nx σ H1
theorem BF {c:Expr}{body:List cJ}{tc:TT}{tb:TS}(hp:db (aN X.prog X.w) X.A X.env X.xe)(hc:PT X c tc)(hb:PSs X body tb):PS X (.While c body [] pos) (DK tc tb):=by
 intro pins s σ H D I h
 obtain ⟨W,⟨m0,w0⟩,turn⟩:=h
 refine wpAny_While (codeAny_whileLoop (fun n s'=>∃ σ' H',Inv X pins σ' H' s'/\W n σ' H') ?_ m0 ⟨σ,H,I,w0⟩)
 rintro n s1 ⟨σ1,H1,I1,w1⟩
 refine eM hp (thn (hc pins s1 σ1 H1 _ I1 (turn n σ1 H1 w1)) fun b s2 ⟨H2,I2,q2⟩=>?_)
 cases b with
 | true=>
  obtain ⟨N,hN,q2⟩:=q2
  rw [if_pos rfl]
  refine eM hp (thn (hb pins s2 σ1 H2 _ I2 q2) fun f s3 q3=>?_)
  cases f with
  | next=>
   obtain ⟨σ3,H3,I3,n3⟩:=q3
   obtain ⟨m',hm,w3⟩:=hN σ3 H3 n3
   exact ⟨m',hm,σ3,H3,I3,w3⟩
  | cont=>
   obtain ⟨σ3,H3,I3,n3⟩:=q3
   obtain ⟨m',hm,w3⟩:=hN σ3 H3 n3
   exact ⟨m',hm,σ3,H3,I3,w3⟩
  | brk=>exact q3
  | ret v=>exact q3
 | false=>
  rw [if_neg aW]
  exact f9 ⟨σ1,H2,I2,q2⟩
end
structure It where
 go:Nat->Hp->Prop
 yld:Nat->Hp->V->Hp->Prop
 stop:Nat->Hp->Prop
def yg (X:Cx)(pins:List (ay × Obj))(H:Hp)(b:ay):Prop:=
 H b=none/\b ≠ X.env.locals/\b ∉ X.fs/\(b ∈ X.ex \/ X.s₀.heap.objs.size<=b)/\(∀ x c,X.env.cells.lookup x=some c->c ≠ b)/\∀ p ∈ X.pn ++ pins,p.1 ≠ b
variable {pins:List (ay × Obj)} {σ:St}
theorem Inv.fpOk {H H':Hp} (I:Inv X pins σ H s)(hb:s.heap.objs.size<=b)(hn:H' b=none):yg X pins H' b:=by
 refine ⟨hn,e7 (bA I.lt hb),I.nofs hb,.inr (bf I.sz hb),fun x c e z=>?_,fun p hp z=>?_⟩
 ·obtain ⟨v,q⟩:=I.cell x c e
  exact absurd (bA q.lt (by rw [z];exact hb)) (de _)
 ·exact absurd (bA (aM (I.pin p hp).1) (by rw [z];exact hb)) (de _)
structure Kg (P:ba)(w:bE)(K:az)(tg:Expr)(J:It)(fp:List ay)(it:ay)(tn:Nat->Heap->Prop):Prop where
 mem:it ∈ fp
 obj:∀ i h,tn i h->∀ b ∈ fp,∃ o,h.get? b=some o/\∀ v,o.data ≠ .cell v
 keep:∀ i h h',tn i h->(∀ b ∈ fp,∀ o,h.get? b=some o->h'.get? b=some o)->tn i h'
 item:∀ (X:Cx),X.prog=P->X.w=w->X.K=K->X.calm=true->∀ (i:Nat) (pins:List (ay × Obj)) (s:ax) (σ:St) (H:Hp) (E:aq->ax->Prop),Inv X pins σ H s->(∀ b ∈ fp,yg X pins H b)->tn i s.heap->J.go i H ->
  aL (aN P w) X.A (oF (.ref it)) (fun r s1=>∃ u,r=some u /\
   aL (aN P w) X.A (gc tg (.ref it) u) (fun _ s2=>∃ x H',Inv X pins σ H' s2/\zE x u/\J.yld i H x H'/\tn (i+1) s2.heap/\∀ b ∈ fp,H' b=none) E s1) E s
 done:∀ (X:Cx),X.prog=P->X.w=w->X.K=K->X.calm=true->∀ (i:Nat) (pins:List (ay × Obj)) (s:ax) (σ:St) (H:Hp) (E:aq->ax->Prop),Inv X pins σ H s->(∀ b ∈ fp,yg X pins H b)->tn i s.heap->J.stop i H ->
  aL (aN P w) X.A (oF (.ref it)) (fun r s1=>r=none/\Inv X pins σ H s1) E s
 self:∀ (A:bt) (i:Nat) (s:ax) (Q:aq->ax->Prop) (E:aq->ax->Prop),tn i s.heap->Q (.ref it) s->aL (aN P w) A (pyIter (.ref it)) Q E s
abbrev TI:=St->Hp->(It->Hp->Prop)->Prop
def PIE (X:Cx)(pins:List (ay × Obj))(σ:St)(tg:Expr)(R:It->Hp->Prop)(itv:aq)(s2:ax):Prop:=
 ∃ (it:ay) (fp:List ay) (tn:Nat->Heap->Prop) (J:It) (H':Hp),itv=.ref it/\Inv X pins σ H' s2/\Kg X.prog X.w X.K tg J fp it tn/\tn 0 s2.heap/\(∀ b ∈ fp,yg X pins H' b)/\R J H'
def PI (X:Cx)(tg iter:Expr)(wi:TI):Prop:=
 ∀ (pins:List (ay × Obj)) (s:ax) (σ:St) (H:Hp) (R:It->Hp->Prop),Inv X pins σ H s->wi σ H R ->
  aL (aN X.prog X.w) X.A (eval iter X.env) (fun v s1=>aL (aN X.prog X.w) X.A (pyIter v) (PIE X pins σ tg R) X.xe s1) X.xe s
theorem Bg {M : ou}{A : bt}{E : aq -> ax -> Prop}{s : ax}{tg : Expr}{it : ay}{u : aq}{o : Obj}{n : String}{vs : Array aq}{Q : Unit -> ax -> Prop}(ho : s.heap.get? it = some o)(hc : o.cls = .type n)(hd : o.data = .fields vs)
    (hn:["enumerate","zip","dict_itemiterator","dict_reverseitemiterator","odict_iterator","itertools.zip_longest","itertools.pairwise"].contains n=false) (hQ:Q () s):aL M A (gc tg (.ref it) u) Q E s:=by
  unfold gc
  cases tg <;> first
    | exact aJ hQ
    | (cases u <;> first
        | exact aJ hQ
        | (refine aw (nA ho ?_)
           rw [hc,hd]
           show aL M A (if (["enumerate","zip","dict_itemiterator","dict_reverseitemiterator","odict_iterator","itertools.zip_longest","itertools.pairwise"].contains n && vs[0]? == some (mF _))=true then _ else _) Q E s
           rw [if_neg (by intro h;rw [hn,Bool.false_and] at h;cases h)]
           exact aJ hQ))
noncomputable def Itl (K:az)(a:ay):It:=
 ⟨fun i H=>∃ xs x,SqL K H a xs/\xs[i]?=some x,fun i H x H'=>H'=H/\∀ xs,SqL K H a xs->xs[i]?=some x,fun i H=>∃ xs,SqL K H a xs/\xs.length<=i⟩
noncomputable def Itt (K:az)(a:ay):It:=
 ⟨fun i H=>∃ xs x,SqT K H a xs/\xs[i]?=some x,fun i H x H'=>H'=H/\∀ xs,SqT K H a xs->xs[i]?=some x,fun i H=>∃ xs,SqT K H a xs/\xs.length<=i⟩
noncomputable def Itr (lo:Int)(n:Nat):It:=⟨fun i _=>i<n,fun i H x H'=>H'=H/\x=.int (lo+i),fun i _=>n<=i⟩
variable {K:az} {tg:Expr}
theorem Qf (a it:ay):Kg P w K tg (Itl K a) [it] it (fun i h=>h.IsListIter it a i) where
 mem:=by simp
 obj:=fun i h st b hb=>by
  have e:b=it:=by simpa using hb
  subst e
  obtain ⟨o,e,c,d⟩:=st
  exact ⟨o,e,fun v z=>by rw [d] at z;cases z⟩
 keep:=fun i h h' st k=>st.at fun o e=>k it (by simp) o e
 item:=by
  intro X hP hw hK hc i pins s σ H E I hf st hg
  subst hP hw hK
  obtain ⟨xs,x,hq,hx⟩:=hg
  obtain ⟨its,rv,p,hz⟩:=I.list hq
  obtain ⟨u,hu,ru⟩:=rv.get hx
  obtain ⟨f0,f1,f2,f3,f4,f5⟩:=hf it (by simp)
  refine wpAny_pyNext_list_item st p.isList (x:=u) (by simpa using hu) fun h' st' sb=>?_
  have I1:Inv X pins σ H { s with heap:=h' }:=I.turned (t':=s.toks) (fun b o hb e=>(sb.2 b hb).trans e) f0 f1 f3 f4 f5
  obtain ⟨o,e,c,d⟩:=id st'
  exact ⟨u,rfl,Bg (s:={ s with heap:=h' }) e c d (by decide) ⟨x,H,I1,ru,⟨rfl,fun ys hy=>by rw [I.list_inj hy hq];exact hx⟩,st',fun b hb=>(hf b hb).1⟩⟩
 done:=by
  intro X hP hw hK hc i pins s σ H E I hf st hg
  subst hP hw hK
  obtain ⟨xs,hq,hx⟩:=hg
  obtain ⟨its,rv,p,hz⟩:=I.list hq
  obtain ⟨f0,f1,f2,f3,f4,f5⟩:=hf it (by simp)
  have hl:=rv.length
  exact wpAny_pyNext_list_end (I.ok.hd hc) st p.isList (by simp;omega) fun h' eb=>⟨rfl,I.turned (t':=s.toks) (fun b o hb e=>eb b o hb e) f0 f1 f3 f4 f5⟩
 self:=fun _ _ _ _ _ st h=>wpAny_pyIter_listiter st h
theorem Yb (a it:ay):Kg P w K tg (Itt K a) [it] it (fun i h=>h.IsTupleIter it a i) where
 mem:=by simp
 obj:=fun i h st b hb=>by
  have e:b=it:=by simpa using hb
  subst e
  obtain ⟨o,e,c,d⟩:=st
  exact ⟨o,e,fun v z=>by rw [d] at z;cases z⟩
 keep:=fun i h h' st k=>st.at fun o e=>k it (by simp) o e
 item:=by
  intro X hP hw hK hc i pins s σ H E I hf st hg
  subst hP hw hK
  obtain ⟨xs,x,hq,hx⟩:=hg
  obtain ⟨its,rv,p,hz⟩:=I.tuple hq
  obtain ⟨u,hu,ru⟩:=rv.get hx
  obtain ⟨f0,f1,f2,f3,f4,f5⟩:=hf it (by simp)
  refine wpAny_pyNext_tuple_item st (show s.heap.IsTuple a its.toArray from p) (x:=u) (by simpa using hu) fun h' st' sb=>?_
  have I1:Inv X pins σ H { s with heap:=h' }:=I.turned (t':=s.toks) (fun b o hb e=>(sb.2 b hb).trans e) f0 f1 f3 f4 f5
  obtain ⟨o,e,c,d⟩:=id st'
  exact ⟨u,rfl,Bg (s:={ s with heap:=h' }) e c d (by decide) ⟨x,H,I1,ru,⟨rfl,fun ys hy=>by rw [I.tuple_inj hy hq];exact hx⟩,st',fun b hb=>(hf b hb).1⟩⟩
 done:=by
  intro X hP hw hK hc i pins s σ H E I hf st hg
  subst hP hw hK
  obtain ⟨xs,hq,hx⟩:=hg
  obtain ⟨its,rv,p,hz⟩:=I.tuple hq
  obtain ⟨f0,f1,f2,f3,f4,f5⟩:=hf it (by simp)
  have hl:=rv.length
  exact wpAny_pyNext_tuple_end (I.ok.hd hc) st (show s.heap.IsTuple a its.toArray from p) (by simp;omega) fun h' eb=>⟨rfl,I.turned (t':=s.toks) (fun b o hb e=>eb b o hb e) f0 f1 f3 f4 f5⟩
 self:=fun _ _ _ _ _ st h=>wpAny_pyIter_tupleiter st h
theorem Yd (it:ay)(lo:Int)(n:Nat):Kg P w K tg (Itr lo n) [it] it (fun i h=>IsRangeIter h it (lo+(i:Nat) * 1) ((n:Int) - (i:Nat)) 1) where
 mem:=by simp
 obj:=fun i h st b hb=>by
  have e:b=it:=by simpa using hb
  subst e
  exact ⟨_,st,fun v z=>by
   have z':mG _=lC v:=z
   cases z'⟩
 keep:=fun i h h' st k=>k it (by simp) _ st
 item:=by
  intro X hP hw hK hc i pins s σ H E I hf st hg
  subst hP hw hK
  obtain ⟨f0,f1,f2,f3,f4,f5⟩:=hf it (by simp)
  have W:=Walks.range (prog:=X.prog) (w:=X.w) (I.ok.hd hc) it lo 1 n
  refine W.item i s _ _ hg st fun v h' tk hv st' kk=>?_
  obtain ⟨t,rfl⟩:=hv
  have I1:Inv X pins σ H { s with heap:=h',toks:=tk }:=I.turned (fun b o hb e=>kk b o (by simpa using hb) e) f0 f1 f3 f4 f5
  refine ⟨_,rfl,Bg (s:={ s with heap:=h',toks:=tk }) (n:="range_iterator") st' rfl rfl (by decide) ⟨.int (lo+i),H,I1,⟨t,?_⟩,⟨rfl,rfl⟩,st',fun b hb=>(hf b hb).1⟩⟩
  rw [mH]
 done:=by
  intro X hP hw hK hc i pins s σ H E I hf st hg
  subst hP hw hK
  obtain ⟨f0,f1,f2,f3,f4,f5⟩:=hf it (by simp)
  exact wpAny_pyNext_range_end (I.ok.hd hc) st (by have:n<=i:=hg;omega) fun h' eb=>⟨rfl,I.turned (t':=s.toks) (fun b o hb e=>eb b o hb e) f0 f1 f3 f4 f5⟩
 self:=fun _ _ _ _ _ st h=>wpAny_pyIter_rangeiter st h
section
variable {X:Cx}{tg:Expr}
noncomputable def IB (K:az)(tl:TE):TI:=fun σ H R=>tl σ H fun x H1=>∃ a,x=.ref a/\(∃ xs,SqL K H1 a xs)/\R (Itl K a) H1
theorem FS {l:Expr}{tl:TE}(hl:PE X l tl):PI X tg l (IB X.K tl):=by
 intro pins s σ H R I h
 refine thn (hl pins s σ H _ I h) fun v s1 ⟨x,H1,I1,r1,q1⟩=>?_
 obtain ⟨a,e,⟨xs,hq⟩,q⟩:=q1
 subst e
 cases r1
 obtain ⟨its,rv,p,hz⟩:=I1.list hq
 refine i6 p.isList ?_
 refine ⟨s1.heap.objs.size,[s1.heap.objs.size],_,_,H1,rfl,I1.kept (t':=s1.toks) fun b o e=>aD _ e,Qf a _,⟨_,aS _ rfl,rfl,rfl⟩,fun b hb=>?_,q⟩
 have e:b=s1.heap.objs.size:=by simpa using hb
 subst e
 exact I1.fpOk (aF _) (I1.hok.fresh (aF _))
theorem Dz {R:It->Hp->Prop} {lo hi:Int}{t u v:Tok}{tk:Nat}(I:Inv X pins σ H s)(h1:-(2 ^ 62)<=lo)(h2:lo<2 ^ 62)(h3:-(2 ^ 62)<=hi)(h4:hi<2 ^ 62)
  (q:R (Itr lo (hi - lo).toNat) H):aL (aN X.prog X.w) X.A (pyIter (.ref s.heap.objs.size)) (PIE X pins σ tg R) E { s with heap:=s.heap.push { cls:=.type "range",data:=.fields #[.int lo t,.int hi u,.int 1 v] },toks:=tk }:=by
 refine wpAny_pyIter_range (IsRange.new ..) (mZ h1 h2 h3 h4) ?_
 have I1:Inv X pins σ H { s with heap:=s.heap.push { cls:=.type "range",data:=.fields #[.int lo t,.int hi u,.int 1 v] },toks:=tk }:=I.kept fun b o e=>aD _ e
 refine ⟨(s.heap.push { cls:=.type "range",data:=.fields #[.int lo t,.int hi u,.int 1 v] }).objs.size,[(s.heap.push { cls:=.type "range",data:=.fields #[.int lo t,.int hi u,.int 1 v] }).objs.size],_,_,H,rfl,
  I1.kept (t':=tk) fun b o e=>aD _ e,Yd _ lo (hi - lo).toNat,?_,fun b hb=>?_,q⟩
 ·have e1:lo+((0:Nat):Int) * 1=lo:=by simp
  have e2:(((hi - lo).toNat:Nat):Int) - ((0:Nat):Int)=bR lo hi 1:=by rw [hR];split <;> omega
  show IsRangeIter _ _ (lo+((0:Nat):Int) * 1) ((((hi - lo).toNat:Nat):Int) - ((0:Nat):Int)) 1
  rw [e1,e2]
  exact aS _ rfl
 ·have e:b=(s.heap.push { cls:=.type "range",data:=.fields #[.int lo t,.int hi u,.int 1 v] }).objs.size:=by simpa using hb
  subst e
  exact I1.fpOk (aF _) (I1.hok.fresh (aF _))
noncomputable def B9 (ta:TA):TI:=fun σ H R=>ta σ H fun vs H1=>∃ j:Int,vs=[.int j]/\-(2 ^ 62)<=j/\j<2 ^ 62/\R (Itr 0 j.toNat) H1
theorem kj {a:Expr}{ta:TA}{p pos:Pos}(hg:Gl X "range")(hm:X.mg "range"=none)(ha:PA X [a] ta)(hs:aV [a] X.env=[(false,eval a X.env)]:=by rfl):PI X tg (.Call (.Name "range" p) [a] [] pos) (B9 ta):=by
 intro pins s σ H R I h
 refine Call_ (vt I hg hm boot_range (eh (thn (ha pos pins s σ H _ I h) fun us s1 ⟨vs,H1,I1,r1,q1⟩=>?_) hs rfl))
 obtain ⟨j,e,q1,q2,q⟩:=q1
 subst e
 cases r1 with
 | cons r rr=>
  cases rr
  obtain ⟨t,rfl⟩:=r
  exact call_range_1 (Dz I1 (by omega) (by omega) q1 q2 (by simpa using q))
noncomputable def GZ (wi:TI)(g:TG)(tb:TS):TS:=fun D σ H=>wi σ H fun J H1=>∃ W:Nat->Nat->St->Hp->Prop,(∃ m,W 0 m σ H1)/\∀ i m σ H,W i m σ H ->
 (J.stop i H/\D.nx σ H) \/ (J.go i H/\∃ N:St->Hp->Prop,(∀ σ' H',N σ' H'->∃ m',m'<m/\W (i+1) m' σ' H')/\∀ x H',J.yld i H x H'->g x σ H' fun σ2 H2=>tb { D with nx:=N,ct:=N,bk:=D.nx } σ2 H2)
noncomputable def vH (fp:List ay)(h:Heap):List (ay × Obj):=fp.filterMap fun b=>(h.get? b).map fun o=>(b,o)
variable {fp:List ay}
theorem jq {h:Heap} {o:Obj}(hb:b ∈ fp)(e:h.get? b=some o):(b,o) ∈ vH fp h:=e8.mpr ⟨b,hb,by rw [e];rfl⟩
theorem Wj {fp:List ay}{h:Heap}{p:ay × Obj}(hp:p ∈ vH fp h):p.1 ∈ fp/\h.get? p.1=some p.2:=by
 obtain ⟨b,hb,e⟩:=e8.mp hp
 cases q:h.get? b with
 | none=>rw [q] at e;cases e
 | some o=>
  rw [q] at e
  have e':(b,o)=p:=b9 e
  subst e'
  exact ⟨hb,q⟩
theorem Inv.pinned (I:Inv X pins σ H s)(hf:∀ b ∈ fp,yg X pins H b)(ho:∀ b ∈ fp,∃ o,s.heap.get? b=some o/\∀ v,o.data ≠ .cell v):Inv X (pins ++ vH fp s.heap) σ H s:=
 I.pins_of fun p hp=>(cO.mp hp).elim (fun z=>I.pin p (bD _ z)) fun z=>by
  obtain ⟨hb,e⟩:=Wj z
  obtain ⟨f0,f1,f2,_⟩:=hf p.1 hb
  obtain ⟨o,e',d⟩:=ho p.1 hb
  rw [e] at e';cases e'
  exact ⟨e,f0,f1,f2,d⟩
theorem Inv.unpinned {pins pl:List (ay × Obj)} (I:Inv X (pins ++ pl) σ H s):Inv X pins σ H s:=I.pins_of fun p hp=>I.pin p (bD _ (eO _ hp))
theorem qZ {iter:Expr}{body:List cJ}{wi:TI}{g:TG}{tb:TS}{pos:Pos}(hp:db (aN X.prog X.w) X.A X.env X.xe)(hc:X.calm=true)(hi:PI X tg iter wi)(hg:PG X tg g)(hb:PSs X body tb)
  (hs:∀ x,du iter X.env x=pure x:=by intro _;rfl):PS X (.For tg iter body [] pos) (GZ wi g tb):=by
 intro pins s σ H D I h
 refine wpAny_For (thn (hi pins s σ H _ I h) fun v s1 h1=>thn h1 fun itv s2 h2=>?_) hs
 obtain ⟨it,fp,tn,J,H2,e,I2,T,st2,f2,W,⟨m0,w0⟩,turn⟩:=h2
 subst e
 have stat:∀ {H':Hp},(∀ b ∈ fp,H' b=none)->∀ b ∈ fp,yg X pins H' b:=fun hn b hb=>⟨hn b hb,(f2 b hb).2⟩
 refine codeAny_forLoop_any (fun n s'=>∃ i σ' H',Inv X pins σ' H' s'/\tn i s'.heap/\(∀ b ∈ fp,H' b=none)/\W i n σ' H') ?_ m0 ⟨0,σ,H2,I2,st2,fun b hb=>(f2 b hb).1,w0⟩
 rintro n s3 ⟨i,σ3,H3,I3,st3,fr3,w3⟩
 rcases turn i n σ3 H3 w3 with ⟨stop,qn⟩ | ⟨go,N,hN,step⟩
 ·refine eM hp (thn (T.done X rfl rfl rfl hc i pins s3 σ3 H3 X.xe I3 (stat fr3) st3 stop) fun r s4 ⟨hr,I4⟩=>?_)
  subst hr
  exact f9 ⟨σ3,H3,I4,qn⟩
 ·refine eM hp (thn (T.item X rfl rfl rfl hc i pins s3 σ3 H3 X.xe I3 (stat fr3) st3 go) fun r s4 ⟨u,hr,h4⟩=>?_)
  subst hr
  refine eM hp (thn h4 fun _ s5 ⟨x,H5,I5,r5,y5,st5,fr5⟩=>?_)
  have I5':=I5.pinned (stat fr5) (T.obj _ _ st5)
  refine eM hp (thn (hg _ s5 σ3 H5 x u _ I5' r5 (step x H5 y5)) fun _ s6 ⟨σ6,H6,I6,q6⟩=>?_)
  refine eM hp (thn (hb _ s6 σ6 H6 _ I6 q6) fun f s7 q7=>?_)
  have again:∀ {σ7:St} {H7:Hp},Inv X (pins ++ vH fp s5.heap) σ7 H7 s7->N σ7 H7->∃ m,m<n/\∃ i σ' H',Inv X pins σ' H' s7/\tn i s7.heap/\(∀ b ∈ fp,H' b=none)/\W i m σ' H':=fun {σ7 H7} I7 n7=>by
   obtain ⟨m',hm,w7⟩:=hN σ7 H7 n7
   refine ⟨m',hm,i+1,σ7,H7,I7.unpinned,T.keep _ _ _ st5 fun b hb o e=>(I7.pin (b,o) (bD _ (bD _ (jq hb e)))).1,fun b hb=>?_,w7⟩
   obtain ⟨o,e,d⟩:=T.obj _ _ st5 b hb
   exact (I7.pin (b,o) (bD _ (bD _ (jq hb e)))).2.1
  cases f with
  | next=>obtain ⟨σ7,H7,I7,n7⟩:=q7;exact again I7 n7
  | cont=>obtain ⟨σ7,H7,I7,n7⟩:=q7;exact again I7 n7
  | brk=>obtain ⟨σ7,H7,I7,q7⟩:=q7;exact ⟨σ7,H7,I7.unpinned,q7⟩
  | ret v=>obtain ⟨x7,σ7,H7,I7,r7,q7⟩:=q7;exact ⟨x7,σ7,H7,I7.unpinned,r7,q7⟩
end
variable {g:TG} {tb:TS} {D:kA}
theorem EG (Pv:Nat->St->Hp->Prop)(h0:Pv 0 σ H)(hl:∀ i σ H,i<=xs.length->Pv i σ H->SqL K H a xs)
  (hs:∀ i x σ H,xs[i]?=some x->Pv i σ H->g x σ H fun σ2 H2=>tb { D with nx:=Pv (i+1),ct:=Pv (i+1),bk:=D.nx } σ2 H2) (hd:∀ σ H,Pv xs.length σ H->D.nx σ H) :
  ∃ W:Nat->Nat->St->Hp->Prop,(∃ m,W 0 m σ H)/\∀ i m σ H,W i m σ H ->
   ((Itl K a).stop i H/\D.nx σ H) \/ ((Itl K a).go i H/\∃ N:St->Hp->Prop,(∀ σ' H',N σ' H'->∃ m',m'<m/\W (i+1) m' σ' H')/\∀ x H',(Itl K a).yld i H x H'->g x σ H' fun σ2 H2=>tb { D with nx:=N,ct:=N,bk:=D.nx } σ2 H2):=by
 refine ⟨fun i m σ H=>m=xs.length - i/\i<=xs.length/\Pv i σ H,⟨xs.length,by simp,cn _,h0⟩,?_⟩
 rintro i m σ H ⟨rfl,hi,p⟩
 have q:=hl i σ H hi p
 by_cases hlt:i<xs.length
 ·refine .inr ⟨⟨xs,xs[i],q,by simp [hlt]⟩,Pv (i+1),fun σ' H' p'=>⟨xs.length - (i+1),by omega,rfl,hlt,p'⟩,fun x H' y=>?_⟩
  obtain ⟨e,y⟩:=y
  subst e
  exact hs i x σ _ (y xs q) p
 ·have e:i=xs.length:=by omega
  subst e
  exact .inl ⟨⟨xs,q,aF _⟩,hd σ H p⟩
variable {n:Nat}
theorem WD {lo:Int} (Pv:Nat->St->Hp->Prop)(h0:Pv 0 σ H)
  (hs:∀ i σ H,i<n->Pv i σ H->g (.int (lo+i)) σ H fun σ2 H2=>tb { D with nx:=Pv (i+1),ct:=Pv (i+1),bk:=D.nx } σ2 H2) (hd:∀ σ H,Pv n σ H->D.nx σ H) :
  ∃ W:Nat->Nat->St->Hp->Prop,(∃ m,W 0 m σ H)/\∀ i m σ H,W i m σ H ->
   ((Itr lo n).stop i H/\D.nx σ H) \/ ((Itr lo n).go i H/\∃ N:St->Hp->Prop,(∀ σ' H',N σ' H'->∃ m',m'<m/\W (i+1) m' σ' H')/\∀ x H',(Itr lo n).yld i H x H'->g x σ H' fun σ2 H2=>tb { D with nx:=N,ct:=N,bk:=D.nx } σ2 H2):=by
 refine ⟨fun i m σ H=>m=n - i/\i<=n/\Pv i σ H,⟨n,by simp,cn _,h0⟩,?_⟩
 rintro i m σ H ⟨rfl,hi,p⟩
 by_cases hlt:i<n
 ·refine .inr ⟨hlt,Pv (i+1),fun σ' H' p'=>⟨n - (i+1),by omega,rfl,hlt,p'⟩,fun x H' y=>?_⟩
  obtain ⟨e,y⟩:=y
  subst e y
  exact hs i σ _ hlt p
 ·have e:i=n:=by omega
  subst e
  exact .inl ⟨aF _,hd σ H p⟩
theorem DZ {c:TT}{tb:TS}{D:kA}{σ:St}{H:Hp}(Pv:St->Hp->Prop)(μ:St->Hp->Nat)(h0:Pv σ H)
  (hs:∀ σ H,Pv σ H->c σ H fun b H1=>if b=true then tb { D with nx:=fun σ' H'=>Pv σ' H'/\μ σ' H'<μ σ H,ct:=fun σ' H'=>Pv σ' H'/\μ σ' H'<μ σ H,bk:=D.nx } σ H1 else D.nx σ H1)
  (mono:∀ σ H Q Q',(∀ b H1,Q b H1->Q' b H1)->c σ H Q->c σ H Q'):DK c tb D σ H:=by
 refine ⟨fun m σ H=>m=μ σ H/\Pv σ H,⟨_,rfl,h0⟩,?_⟩
 rintro m σ H ⟨rfl,p⟩
 refine mono σ H _ _ (fun b H1 q=>?_) (hs σ H p)
 cases b with
 | true=>exact ⟨_,fun σ' H' ⟨p',l⟩=>⟨_,l,rfl,p'⟩,q⟩
 | false=>exact q
abbrev R2:=V->V->Hp->VK->Prop
def OpR (X:Cx)(f:aq->aq->Sem aq)(r:R2):Prop:=
 ∀ (pins:List (ay × Obj)) (s:ax) (σ:St) (H:Hp) (x y:V) (v u:aq) (Q:VK),Inv X pins σ H s->zE x v->zE y u->r x y H Q ->
  aL (aN X.prog X.w) X.A (f v u) (EP X pins σ Q) X.xe s
def UnR (X:Cx)(f:aq->Sem aq)(r:V->Hp->VK->Prop):Prop:=
 ∀ (pins:List (ay × Obj)) (s:ax) (σ:St) (H:Hp) (x:V) (v:aq) (Q:VK),Inv X pins σ H s->zE x v->r x H Q ->
  aL (aN X.prog X.w) X.A (f v) (EP X pins σ Q) X.xe s
def ju (X:Cx)(f:aq)(r:List V->Hp->VK->Prop):Prop:=
 ∀ (pins:List (ay × Obj)) (s:ax) (σ:St) (H:Hp) (xs:List V) (us:List aq) (Q:VK),Inv X pins σ H s->zz xs us->r xs H Q ->
  aL (aN X.prog X.w) X.A (call f us) (EP X pins σ Q) X.xe s
noncomputable def tOp (r:R2)(ta tb:TE):TE:=fun σ H Q=>ta σ H fun x H1=>tb σ H1 fun y H2=>r x y H2 Q
noncomputable def tUn (r:V->Hp->VK->Prop)(ta:TE):TE:=fun σ H Q=>ta σ H fun x H1=>r x H1 Q
noncomputable def rI (C:Int->Int->Prop)(g:Int->Int->V):R2:=fun x y H Q=>∃ i j,x=.int i/\y=.int j/\C i j/\Q (g i j) H
noncomputable def rI0 (g:Int->Int->V):R2:=fun x y H Q=>∃ i j,x=.int i/\y=.int j/\Q (g i j) H
noncomputable def rU (g:Int->V):V->Hp->VK->Prop:=fun x H Q=>∃ i,x=.int i/\Q (g i) H
section
variable {X:Cx}{a b c:Expr}{ta tb tc:TE}{pos:Pos}
variable {f:aq->aq->Sem aq}
theorem NC (ha:PE X a ta)(hb:PE X b tb) {R:V->V->Hp->Prop}(I:Inv X pins σ H s)
  (h:ta σ H fun x H1=>tb σ H1 fun y H2=>R x y H2) {Q:aq->ax->Prop}
  (hf:∀ v u s2 x y H2,Inv X pins σ H2 s2->zE x v->zE y u->R x y H2->aL (aN X.prog X.w) X.A (f v u) Q X.xe s2) :
  aL (aN X.prog X.w) X.A (eval a X.env) (fun v s₁=>aL (aN X.prog X.w) X.A (eval b X.env) (fun u s₂=>aL (aN X.prog X.w) X.A (f v u) Q X.xe s₂) X.xe s₁) X.xe s:=by
 refine thn (ha pins s σ H _ I h) fun v s1 ⟨x,H1,I1,r1,q1⟩=>?_
 refine thn (hb pins s1 σ H1 _ I1 q1) fun u s2 ⟨y,H2,I2,r2,q2⟩=>?_
 exact hf v u s2 x y H2 I2 r1 r2 q2
theorem zO {op:Operator}{r:R2}(ho:OpR X (hZ op) r)(ha:PE X a ta)(hb:PE X b tb):PE X (.BinOp a op b pos) (tOp r ta tb):=by
 intro pins s σ H Q I h
 exact wpAny_BinOp (NC ha hb I h fun v u s2 x y H2 I2 rx ry q=>ho pins s2 σ H2 x y v u Q I2 rx ry q)
theorem Vw {op:UnaryOp}{r:V->Hp->VK->Prop}(ho:UnR X (unaryOp op) r)(ha:PE X a ta):PE X (.UnaryOp op a pos) (tUn r ta):=by
 intro pins s σ H Q I h
 exact UnaryOp_ (thn (ha pins s σ H _ I h) fun v s1 ⟨x,H1,I1,r1,q1⟩=>ho pins s1 σ H1 x v Q I1 r1 q1)
theorem opI {C:Int->Int->Prop}{g:Int->Int->Int}
  (rule:∀ (i j:Int) (t u:Tok) (s:ax) (Q:aq->ax->Prop) (E:aq->ax->Prop),C i j->Q (.int (g i j) s.toks) { s with toks:=s.toks+1 }->aL (aN X.prog X.w) X.A (f (.int i t) (.int j u)) Q E s) :
  OpR X f (rI C fun i j=>.int (g i j)):=by
 intro pins s σ H x y v u Q I rx ry h
 obtain ⟨i,j,rfl,rfl,hc,q⟩:=h
 obtain ⟨t,rfl⟩:=rx
 obtain ⟨t',rfl⟩:=ry
 exact rule i j t t' s _ _ hc ⟨.int (g i j),H,I.tok _,⟨_,rfl⟩,q⟩
theorem OA {g:Int->Int->Int}
  (rule:∀ (i j:Int) (t u:Tok) (s:ax) (Q:aq->ax->Prop) (E:aq->ax->Prop),Q (.int (g i j) s.toks) { s with toks:=s.toks+1 }->aL (aN X.prog X.w) X.A (f (.int i t) (.int j u)) Q E s) :
  OpR X f (rI0 fun i j=>.int (g i j)):=by
 intro pins s σ H x y v u Q I rx ry h
 obtain ⟨i,j,rfl,rfl,q⟩:=h
 obtain ⟨t,rfl⟩:=rx
 obtain ⟨t',rfl⟩:=ry
 exact rule i j t t' s _ _ ⟨.int (g i j),H,I.tok _,⟨_,rfl⟩,q⟩
theorem F4 {g:Int->Int->Bool}
  (rule:∀ (i j:Int) (t u:Tok) (s:ax) (Q:aq->ax->Prop) (E:aq->ax->Prop),Q (.bool (g i j)) s->aL (aN X.prog X.w) X.A (f (.int i t) (.int j u)) Q E s) :
  OpR X f (rI0 fun i j=>.bl (g i j)):=by
 intro pins s σ H x y v u Q I rx ry h
 obtain ⟨i,j,rfl,rfl,q⟩:=h
 obtain ⟨t,rfl⟩:=rx
 obtain ⟨t',rfl⟩:=ry
 exact rule i j t t' s _ _ ⟨.bl (g i j),H,I,rfl,q⟩
def Lk (i j:Int):Prop:=0<j/\j<1073741824
def Ph (i j:Int):Prop:=0<=j/\j<=1000000/\i.natAbs<2 ^ 64
def Ed (i j:Int):Prop:=(-(2 ^ 64)<i/\i<2 ^ 64) \/ (-(2 ^ 64)<j/\j<2 ^ 64)
theorem Ed.ok {i j:Int}(h:Ed i j):IntMulOk i j:=by
 rcases h with ⟨h1,h2⟩ | ⟨h1,h2⟩
 ·exact .of_left (intBits_le_64 h1 h2)
 ·exact .of_right (intBits_le_64 h1 h2)
theorem qW:OpR X (hZ .Add) (rI0 fun i j=>.int (i+j)):=OA fun _ _ _ _ _ _ _ q=>add_int q
theorem ZL:OpR X (hZ .Sub) (rI0 fun i j=>.int (i - j)):=OA fun _ _ _ _ _ _ _ q=>sub_int q
theorem kQ:OpR X (hZ .Mult) (rI Ed fun i j=>.int (i * j)):=opI fun _ _ _ _ _ _ _ hc q=>mul_int q hc.ok
theorem YB:OpR X (hZ .FloorDiv) (rI Lk fun i j=>.int (i / j)):=opI fun i j _ _ _ _ _ hc q=>by
 have h1:(0:Int)<j:=hc.1
 have h2:j<1073741824:=hc.2
 exact floordiv_int (by omega) (by rw [iD i (by omega)];exact q) (.inl (lR (by omega)))
theorem ka:OpR X (hZ .Mod) (rI (fun _ j=>0<j) fun i j=>.int (i % j)):=opI fun i j _ _ _ _ _ hc q=>by
 have h1:(0:Int)<j:=hc
 exact mod_int' (by omega) (by rw [iE i (by omega)];exact q)
theorem Nh:OpR X (hZ .Pow) (rI Ph fun i j=>.int (i ^ j.toNat)):=opI fun _ _ _ _ _ _ _ hc q=>pow_int_small hc.1 hc.2.1 hc.2.2 q
theorem unI {f:aq->Sem aq}{g:Int->Int}
  (rule:∀ (i:Int) (t:Tok) (s:ax) (Q:aq->ax->Prop) (E:aq->ax->Prop),Q (.int (g i) s.toks) { s with toks:=s.toks+1 }->aL (aN X.prog X.w) X.A (f (.int i t)) Q E s) :
  UnR X f (rU fun i=>.int (g i)):=by
 intro pins s σ H x v Q I rx h
 obtain ⟨i,rfl,q⟩:=h
 obtain ⟨t,rfl⟩:=rx
 exact rule i t s _ _ ⟨.int (g i),H,I.tok _,⟨_,rfl⟩,q⟩
theorem QT:UnR X (unaryOp .USub) (rU fun i=>.int (-i)):=unI fun _ _ _ _ _ q=>neg_int q
end
noncomputable def Oz:V->V->Bool
 | .non,.non=>true | .non,.int _=>true | .int _,.non=>true | .non,.bl _=>true | .bl _,.non=>true | .non,.str _=>true | .str _,.non=>true
 | .int _,.int _=>true | .bl _,.bl _=>true | .str _,.str _=>true | .byt _,.byt _=>true
 | .int _,.str _=>true | .str _,.int _=>true | .bl _,.str _=>true | .str _,.bl _=>true
 | _,_=>false
noncomputable def rEq:R2:=fun x y H Q=>Oz x y=true/\Q (.bl (decide (x=y))) H
noncomputable def rNe:R2:=fun x y H Q=>Oz x y=true/\Q (.bl (!decide (x=y))) H
theorem Y7 {i j:Int}:decide (V.int i=V.int j)=(i == j):=by
 rw [d7]
 simp
theorem Eb {i j:Bool}:decide (V.bl i=V.bl j)=(i == j):=by
 rw [d7]
 simp
theorem YT {i j:Str}:decide (V.str i=V.str j)=(i == j):=by
 rw [d7]
 simp
theorem Vq {i j:Array UInt8}:decide (V.byt i=V.byt j)=(i.toList == j.toList):=by
 rw [d7]
 cases i
 cases j
 simp
section
variable {X:Cx}{a b c:Expr}{ta tb tc:TE}{pos:Pos}
theorem zT {Q:VK}{k k':Bool}(I:Inv X pins σ H s)(q:Q (.bl k) H)(e:k=k'):EP X pins σ Q (.bool k') s:=by
 subst e
 exact ⟨.bl k,H,I,rfl,q⟩
theorem IH:OpR X (dS .Eq) rEq:=by
 intro pins s σ H x y v u Q I rx ry h
 obtain ⟨hs,q⟩:=h
 cases x with
 | non=>
  cases rx
  cases y with
  | non=>cases ry;exact PySem.EqNone.eq_none_none (zT I q (by simp))
  | bl j=>cases ry;exact PySem.EqNone.eq_none_bool (zT I q (by simp))
  | int j=>obtain ⟨t',rfl⟩:=ry;exact PySem.EqNone.eq_none_int (zT I q (by simp))
  | str j=>obtain ⟨t',rfl⟩:=ry;exact PySem.EqNone.eq_none_str (zT I q (by simp))
  | _=>exact absurd (show false=true from hs) aW
 | bl i=>
  cases rx
  cases y with
  | non=>cases ry;exact PySem.EqNone.eq_bool_none (zT I q (by simp))
  | bl j=>cases ry;exact eq_bool (zT I q Eb)
  | str j=>obtain ⟨t',rfl⟩:=ry;exact PySem.EqMixed.eq_bool_str (zT I q (by simp))
  | _=>exact absurd (show false=true from hs) aW
 | int i=>
  obtain ⟨t,rfl⟩:=rx
  cases y with
  | non=>cases ry;exact PySem.EqNone.eq_int_none (zT I q (by simp))
  | int j=>obtain ⟨t',rfl⟩:=ry;exact eq_int (zT I q Y7)
  | str j=>obtain ⟨t',rfl⟩:=ry;exact PySem.EqMixed.eq_int_str (zT I q (by simp))
  | _=>exact absurd (show false=true from hs) aW
 | str i=>
  obtain ⟨t,rfl⟩:=rx
  cases y with
  | non=>cases ry;exact PySem.EqNone.eq_str_none (zT I q (by simp))
  | bl j=>cases ry;exact PySem.EqMixed.eq_str_bool (zT I q (by simp))
  | int j=>obtain ⟨t',rfl⟩:=ry;exact PySem.EqMixed.eq_str_int (zT I q (by simp))
  | str j=>obtain ⟨t',rfl⟩:=ry;exact eq_str (zT I q YT)
  | _=>exact absurd (show false=true from hs) aW
 | byt i=>
  obtain ⟨t,rfl⟩:=rx
  cases y with
  | byt j=>obtain ⟨t',rfl⟩:=ry;exact PySem.W.eq_bytes (zT I q Vq)
  | _=>exact absurd (show false=true from hs) aW
 | _=>cases y <;> exact absurd (show false=true from hs) aW
theorem NY:OpR X (dS .NotEq) rNe:=by
 intro pins s σ H x y v u Q I rx ry h
 obtain ⟨hs,q⟩:=h
 cases x with
 | non=>
  cases rx
  cases y with
  | non=>cases ry;exact PySem.EqNone.ne_none_none (zT I q (by simp))
  | bl j=>cases ry;exact PySem.EqNone.ne_none_bool (zT I q (by simp))
  | int j=>obtain ⟨t',rfl⟩:=ry;exact PySem.EqNone.ne_none_int (zT I q (by simp))
  | str j=>obtain ⟨t',rfl⟩:=ry;exact PySem.EqNone.ne_none_str (zT I q (by simp))
  | _=>exact absurd (show false=true from hs) aW
 | bl i=>
  cases rx
  cases y with
  | non=>cases ry;exact PySem.EqNone.ne_bool_none (zT I q (by simp))
  | bl j=>cases ry;exact ne_bool (zT I q (congrArg not Eb))
  | str j=>obtain ⟨t',rfl⟩:=ry;exact PySem.EqMixed.ne_bool_str (zT I q (by simp))
  | _=>exact absurd (show false=true from hs) aW
 | int i=>
  obtain ⟨t,rfl⟩:=rx
  cases y with
  | non=>cases ry;exact PySem.EqNone.ne_int_none (zT I q (by simp))
  | int j=>obtain ⟨t',rfl⟩:=ry;exact ne_int (zT I q (congrArg not Y7))
  | str j=>obtain ⟨t',rfl⟩:=ry;exact PySem.EqMixed.ne_int_str (zT I q (by simp))
  | _=>exact absurd (show false=true from hs) aW
 | str i=>
  obtain ⟨t,rfl⟩:=rx
  cases y with
  | non=>cases ry;exact PySem.EqNone.ne_str_none (zT I q (by simp))
  | bl j=>cases ry;exact PySem.EqMixed.ne_str_bool (zT I q (by simp))
  | int j=>obtain ⟨t',rfl⟩:=ry;exact PySem.EqMixed.ne_str_int (zT I q (by simp))
  | str j=>obtain ⟨t',rfl⟩:=ry;exact ne_str (zT I q (congrArg not YT))
  | _=>exact absurd (show false=true from hs) aW
 | byt i=>
  obtain ⟨t,rfl⟩:=rx
  cases y with
  | byt j=>obtain ⟨t',rfl⟩:=ry;exact PySem.W.ne_bytes (zT I q (congrArg not Vq))
  | _=>exact absurd (show false=true from hs) aW
 | _=>cases y <;> exact absurd (show false=true from hs) aW
theorem Os:OpR X (dS .Lt) (rI0 fun i j=>.bl (decide (i<j))):=F4 fun _ _ _ _ _ _ _ q=>lt_int q
theorem Iz:OpR X (dS .LtE) (rI0 fun i j=>.bl (decide (i<=j))):=F4 fun _ _ _ _ _ _ _ q=>le_int q
theorem QD:OpR X (dS .Gt) (rI0 fun i j=>.bl (decide (j<i))):=F4 fun _ _ _ _ _ _ _ q=>gt_int q
theorem Ou:OpR X (dS .GtE) (rI0 fun i j=>.bl (decide (j<=i))):=F4 fun _ _ _ _ _ _ _ q=>ge_int q
theorem yD:OpR X (dS .Is) (fun x y H Q=>y=.non/\Q (.bl (decide (x=.non))) H):=by
 intro pins s σ H x y v u Q I rx ry h
 obtain ⟨rfl,q⟩:=h
 cases ry
 refine is_none_gen (zT I q ?_)
 cases x <;> first
  | (cases rx;rfl)
  | (obtain ⟨t,rfl⟩:=rx;rfl)
theorem jW:OpR X (dS .IsNot) (fun x y H Q=>y=.non/\Q (.bl (!decide (x=.non))) H):=by
 intro pins s σ H x y v u Q I rx ry h
 obtain ⟨rfl,q⟩:=h
 cases ry
 refine isnot_none_gen (zT I q ?_)
 cases x <;> first
  | (cases rx;rfl)
  | (obtain ⟨t,rfl⟩:=rx;rfl)
variable {op:oE}
theorem zt (b:Expr) (h:op ≠ .In:=by decide)(h2:op ≠ .NotIn:=by decide):fz op b=false:=by
 have e1:(op == oE.In)=false:=by cases op <;> first | rfl | exact absurd rfl h
 have e2:(op == oE.NotIn)=false:=by cases op <;> first | rfl | exact absurd rfl h2
 cases b <;> simp [fz,e1,e2]
variable {r:R2}
theorem jZ (ho:OpR X (dS op) r)(ha:PE X a ta)(hb:PE X b tb)(hm:fz op b=false):PE X (.Compare a [op] [b] pos) (tOp r ta tb):=by
 intro pins s σ H Q I h
 exact wpAny_Compare1 (NC ha hb I h fun v u s2 x y H2 I2 rx ry q=>ho pins s2 σ H2 x y v u Q I2 rx ry q) hm
noncomputable def YI (t:TE):TT:=fun σ H Q=>t σ H fun x H'=>∃ k,x=.bl k/\Q k H'
theorem zq (ho:OpR X (dS op) r)(ha:PE X a ta)(hb:PE X b tb)(hm:fz op b=false):PT X (.Compare a [op] [b] pos) (YI (tOp r ta tb)):=by
 intro pins s σ H Q I h
 refine wpAny_isTrue_Compare1 (thn (ha pins s σ H _ I h) fun v s1 ⟨x,H1,I1,r1,q1⟩=>thn (hb pins s1 σ H1 _ I1 q1) fun u s2 ⟨y,H2,I2,r2,q2⟩=>
  thn (ho pins s2 σ H2 x y v u _ I2 r1 r2 q2) fun c s3 ⟨z,H3,I3,r3,k,e,q3⟩=>?_) hm
 subst e
 cases r3
 exact dU ⟨H3,I3,q3⟩
noncomputable def Dg (r r':R2)(ta tb tc:TE):TE:=fun σ H Q=>ta σ H fun x H1=>tb σ H1 fun y H2=>r x y H2 fun z H3=>∃ k,z=.bl k /\
 (if k=true then tc σ H3 fun w' H4=>r' y w' H4 Q else Q (.bl false) H3)
theorem E2 {op op':oE}{r r':R2}(ho:OpR X (dS op) r)(ho':OpR X (dS op') r')(ha:PE X a ta)(hb:PE X b tb)(hc:PE X c tc)
  (hm:lastMarks [op,op'] [b,c]=false:=by with_unfolding_all rfl):PE X (.Compare a [op,op'] [b,c] pos) (Dg r r' ta tb tc):=by
 intro pins s σ H Q I h
 refine Compare_chain (thn (ha pins s σ H _ I h) fun v s1 ⟨x,H1,I1,r1,q1⟩=>chain_link (thn (hb pins s1 σ H1 _ I1 q1) fun u s2 ⟨y,H2,I2,r2,q2⟩=>
  thn (ho pins s2 σ H2 x y v u _ I2 r1 r2 q2) fun d s3 ⟨z,H3,I3,r3,k,e,q3⟩=>?_)) hm
 subst e
 cases r3
 refine dU ?_
 cases k with
 | false=>exact ite_ff ⟨.bl false,H3,I3,rfl,q3⟩
 | true=>exact ite_tt (chain_last (thn (hc pins s3 σ H3 _ I3 q3) fun w' s4 ⟨z',H4,I4,r4,q4⟩=>ho' pins s4 σ H4 y z' u w' Q I4 r2 r4 q4))
theorem wW:(aT:Nat)<2 ^ 63:=by rw [dq];decide
theorem ki {x:V}{us:List aq}(r:zz [x] us):∃ u,us=[u]/\zE x u:=by
 cases r with
 | cons r1 r2=>cases r2;exact ⟨_,rfl,r1⟩
theorem Ve {x y:V}{us:List aq}(r:zz [x,y] us):∃ u w',us=[u,w']/\zE x u/\zE y w':=by
 cases r with
 | cons r1 r2=>
  cases r2 with
  | cons r3 r4=>cases r4;exact ⟨_,_,rfl,r1,r3⟩
theorem Xh:ju X (.builtin "abs") (fun xs H Q=>∃ i,xs=[.int i]/\Q (.int (if i<0 then -i else i)) H):=by
 intro pins s σ H xs us Q I r h
 obtain ⟨i,rfl,q⟩:=h
 obtain ⟨u,rfl,t,rfl⟩:=ki r
 exact call_abs_int fun u tk=>⟨.int (if i<0 then -i else i),H,I.tok _,⟨_,rfl⟩,q⟩
theorem Qm (hc:X.calm=true):ju X (.builtin "max") (fun xs H Q=>∃ i j,xs=[.int i,.int j]/\Q (.int (if j > i then j else i)) H):=by
 intro pins s σ H xs us Q I r h
 obtain ⟨i,j,rfl,q⟩:=h
 obtain ⟨u,w',rfl,⟨t,rfl⟩,⟨t',rfl⟩⟩:=Ve r
 refine max_two_ints (I.ok.hd hc) fun h' tk k=>⟨_,H,I.kept k,?_,q⟩
 by_cases hj:j > i
 ·rw [if_pos hj,if_pos hj];exact ⟨_,rfl⟩
 ·rw [if_neg hj,if_neg hj];exact ⟨_,rfl⟩
theorem Ah:ju X (.type "int") (fun xs H Q=>(∃ i,xs=[.int i]/\Q (.int i) H) \/ ∃ k,xs=[.bl k]/\Q (.int (if k then 1 else 0)) H):=by
 intro pins s σ H xs us Q I r h
 rcases h with ⟨i,rfl,q⟩ | ⟨k,rfl,q⟩
 ·obtain ⟨u,rfl,t,rfl⟩:=ki r
  exact call_int_int ⟨.int i,H,I,⟨_,rfl⟩,q⟩
 ·obtain ⟨u,rfl,r1⟩:=ki r
  cases r1
  exact call_int_bool ⟨.int (if k then 1 else 0),H,I.tok _,⟨_,rfl⟩,q⟩
theorem J9:ju X (.builtin "divmod") (fun xs H Q=>∃ i j,xs=[.int i,.int j]/\Lk i j/\∀ p,H p=none->Q (.ref p) (upd H p (.tup [.int (i / j),.int (i % j)]))):=by
 intro pins s σ H xs us Q I r h
 obtain ⟨i,j,rfl,⟨h1,h2⟩,q⟩:=h
 obtain ⟨u,w',rfl,⟨t,rfl⟩,⟨t',rfl⟩⟩:=Ve r
 refine divmod_int (by omega) ?_ (.inl (lR (by omega)))
 rw [iD i (by omega),iE i (by omega)]
 have hn:H s.heap.objs.size=none:=I.hok.fresh (aF _)
 refine ⟨.ref s.heap.objs.size,_,?_,rfl,q _ hn⟩
 refine I.laid (fun b o e=>aD _ e) (aF _) ⟨by simp only [aK,fk];rw [dq];decide,[.int (i / j) s.toks,.int (i % j) (s.toks+1)],.cons ⟨_,rfl⟩ (.cons ⟨_,rfl⟩ .nil),?_⟩
 exact ⟨_,aS s.heap rfl,rfl,⟨0,rfl⟩,rfl⟩
end
structure XF (h:Heap)(x dx C:ay)(mA:Str->Option aq):Prop where
 obj:h.get? x=some (d6 C dx)
 ns:h.Ns1 dx mA
 ne:dx ≠ x
variable {mA:Str->Option aq}
theorem Qo {h:Heap}{dx:ay} (n:h.Ns1 dx mA):∃ od,h.get? dx=some od/\∀ name,gx name od=some (mA name):=by
 obtain ⟨o,es,ep,ho,hd,hk,_,hm⟩:=n
 refine ⟨o,ho,fun name=>?_⟩
 have e:=hm name
 unfold nsFind findBy at e
 rw [<- nC] at e
 unfold gx
 rw [hd]
 dsimp only
 split
 ·rename_i y q
  rw [q] at e
  exact congrArg some e
 ·rename_i q
  rw [q] at e
  have a:es.toList.any (·.refKey)=false:=by
   rw [List.any_eq_false]
   intro y hy
   obtain ⟨z,t,hkey⟩:=hk y (mI.mp hy)
   simp [DictEntry.refKey,hkey]
  have a':¬ es.toList.any (·.refKey)=true:=by rw [a];exact aW
  rw [if_neg a']
  exact congrArg some e
theorem XF.look {h:Heap}{x dx C:ay} (I:XF h x dx C mA):∃ od,PySem.W.InstAt h x (d6 C dx) C (some od)/\∀ name,gx name od=some (mA name):=
 let ⟨od,ho,hl⟩:=Qo I.ns
 ⟨od,⟨I.obj,rfl,rfl,ho⟩,hl⟩
section
variable {prog:ba}{w:bE}{A:bt}{E:aq->ax->Prop}{s:ax}{K:az}{x dx C f:ay}{mA:Str->Option aq}{name:Str}{v:aq}
theorem G9 {expr:Bool}{Q:aq->ax->Prop}(X:K.In s.heap)(I:XF s.heap x dx C mA)(hg:fO K C name=true)(hh:eP K C=true)
  (ha:bC K (.ref C) name=some none) (hv:mA name=some v) (hv':lD v=true) (h:Q v { s with toks:=s.toks+1 }) :
  aL (aN prog w) A (oA (.ref x) name expr) Q E s:=by
 obtain ⟨od,J,hl⟩:=I.look
 exact PySem.W.get_value X J (iq hg).1 (nc hh ha rfl (by rw [hl,hv])) hv' h
theorem EY {pl:Sem Bool}{Q:aq × List aq->ax->Prop}(X:K.In s.heap)(I:XF s.heap x dx C mA)(hg:fO K C name=true)
  (hf:bC K (.ref C) name=some (some (.ref f))) (ht:dh K (.ref f)=true) (hv:mA name=none) (h:Q (.ref f,[.ref x]) s) :
  aL (aN prog w) A (getMethod (.ref x) name pl) Q E s:=by
 obtain ⟨od,J,hl⟩:=I.look
 exact PySem.W.method_fn X J (iq hg).1 (iq hg).2 hf (beq_iff_eq.mp ht) (by show (gx name od).map (·.isSome)=some false;rw [hl,hv];rfl) h
theorem JJ {ns:List Str}{Q:Unit->ax->Prop}(X:K.In s.heap)(I:XF s.heap x dx C mA)
  (hs:bC K (.ref C) "__setattr__"=some (some (.builtin "object.__setattr__"))) (hp:i7 K C=true) (ht:mj K C name=some none) (hh:eP K C=true)
  (hw:iu mA ns) (hsz:ns.length<=aT)
  (h:∀ h',XF h' x dx C (fun y=>if y=name then some v else mA y)->eg dx s.heap h'->Q () { s with heap:=h',toks:=s.toks+2 }) :
  aL (aN prog w) A (setAttr (.ref x) name v) Q E s:=by
 obtain ⟨od,J,hl⟩:=I.look
 refine i8 X J hs (PySem.W.osa_open (s:={ s with toks:=s.toks+1 }) (r:=none) X J hp ht fun b=>?_)
 obtain ⟨cd,hc,hd'⟩:=gR hh
 have hx:s.heap.get? x=some ⟨.ref C,some dx,.plain,#[]⟩:=I.obj
 refine aw (aJ (aw (aw (mJ hx (aw (hU.here (s:={ s with toks:=s.toks+1 }) (fX X hc) ?_))))))
 rw [hd']
 refine aJ (a:=some dx) (aw (aJ (aw ?_)))
 refine nM (s:={ s with toks:=s.toks+1 }) I.ns fun h' hn2 hs2=>?_
 obtain ⟨oD,esD,epD,hoD,hdD,hcD⟩:=hn2.count (iu.cons name v hw)
 refine aw (lE hoD (by rw [hdD];exact lF (bf hcD (by rw [aK];omega))) ?_)
 exact aJ (h _ ⟨(hs2.2 _ (Ne.symm I.ne)).trans I.obj,hn2,I.ne⟩ hs2)
theorem Ft {R:nD->ax->Prop}{vs:List aq}{kw:List (Str × aq)}(X:K.In s.heap)(hm:mn K C=true)
  (hi:bC K (.ref C) "__init__"=some (some (.ref f))) (hf:PySem.W.typeIn K (.ref f)=some (.type "function"))
  (h:dX (aN prog w) (A.under (.builtin "type.__call__" ⟨.ref C :: vs,kw⟩)) (.call (.ref f) ⟨.ref (s.heap.objs.size+1) :: vs,kw⟩) (PySem.W.InitBack (s.heap.objs.size+1) R)
   { s with heap:=(s.heap.push cX).push (d6 C s.heap.objs.size) }) :
  dX (aN prog w) A (.call (.ref C) ⟨vs,kw⟩) R s:=by
 obtain ⟨hh,g,d,t,os⟩:=s
 exact PySem.W.make_core (PySem.W.makes_of X hm) (fJ X hi) (fun self=>PySem.W.bind_fn X self hf) (.inl rfl) h
end
noncomputable def jE (f:Str)(v:V):List (Str × V)->List (Str × V)
 | []=>[(f,v)]
 | (g,x) :: r=>if g=f then (g,v) :: r else (g,x) :: jE f v r
theorem j4 (f g:Str)(v:V):∀ fs:List (Str × V),(jE f v fs).lookup g=if g=f then some v else fs.lookup g
 | []=>by
  show dH g [(f,v)]=_
  by_cases h:g=f
  ·have hb:(g == f)=true:=beq_iff_eq.mpr h
   simp only [dH,hb,if_pos h]
  ·have hb:(g == f)=false:=beq_eq_false_iff_ne.mpr h
   simp only [dH,hb,if_neg h]
 | (k,x) :: r=>by
  have ih:=j4 f g v r
  rw [show jE f v ((k,x) :: r)=(if k=f then (k,v) :: r else (k,x) :: jE f v r) from rfl]
  by_cases hk:k=f
  ·rw [if_pos hk]
   by_cases h:g=k
   ·have hb:(g == k)=true:=beq_iff_eq.mpr h
    simp only [dH,hb,if_pos (h.trans hk)]
   ·have hb:(g == k)=false:=beq_eq_false_iff_ne.mpr h
    simp only [dH,hb,if_neg (fun e:g=f=>h (e.trans hk.symm))]
  ·rw [if_neg hk]
   by_cases h:g=k
   ·have hb:(g == k)=true:=beq_iff_eq.mpr h
    simp only [dH,hb,if_neg (fun e:g=f=>hk (h.symm.trans e))]
   ·have hb:(g == k)=false:=beq_eq_false_iff_ne.mpr h
    simp only [dH,hb]
    exact ih
theorem kz (f:Str)(v:V):∀ fs:List (Str × V),f ∈ (jE f v fs).map (·.1)/\∀ g,g ∈ fs.map (·.1)->g ∈ (jE f v fs).map (·.1)
 | []=>⟨by simp [jE],fun g h=>by simp at h⟩
 | (k,x) :: r=>by
  obtain ⟨i1,i2⟩:=kz f v r
  rw [show jE f v ((k,x) :: r)=(if k=f then (k,v) :: r else (k,x) :: jE f v r) from rfl]
  by_cases hk:k=f
  ·rw [if_pos hk]
   subst hk
   exact ⟨by simp,fun g h=>by simpa using h⟩
  ·rw [if_neg hk]
   refine ⟨?_,fun g h=>?_⟩
   ·rw [aX]
    exact aZ _ i1
   ·rw [aX] at h ⊢
    rcases aO.mp h with e | e
    ·exact aO.mpr (.inl e)
    ·exact aZ _ (i2 g e)
theorem vO (f:Str)(v:V):∀ fs:List (Str × V),(jE f v fs).length<=fs.length+1
 | []=>by simp [jE]
 | (k,x) :: r=>by
  have ih:=vO f v r
  rw [show jE f v ((k,x) :: r)=(if k=f then (k,v) :: r else (k,x) :: jE f v r) from rfl]
  by_cases hk:k=f
  ·rw [if_pos hk,aK,aK];omega
  ·rw [if_neg hk,aK,aK];omega
theorem yu.some_of {v:V}{o:Option aq}(r:yu (some v) o):∃ u,o=some u/\zE v u:=by
 cases o with
 | none=>exact (show False from r).elim
 | some u=>exact ⟨u,rfl,r⟩
theorem yu.none_of {o:Option aq}(r:yu none o):o=none:=by
 cases o with
 | none=>rfl
 | some u=>exact (show False from r).elim
theorem Qd {v:V}{u:aq}(r:zE v u):lD u=true:=by
 cases v with
 | non=>cases (show u=aq.none from r);rfl
 | bl b=>cases (show u=aq.bool b from r);rfl
 | int i=>obtain ⟨t,e⟩:=(show ∃ t,u=aq.int i t from r);cases e;rfl
 | str x=>obtain ⟨t,e⟩:=(show ∃ t,u=aq.str x t from r);cases e;rfl
 | byt b=>obtain ⟨t,e⟩:=(show ∃ t,u=aq.bytes b t from r);cases e;rfl
 | flt b=>obtain ⟨t,e⟩:=(show ∃ t,u=aq.float b t from r);cases e;rfl
 | ref a=>cases (show u=aq.ref a from r);rfl
 | ty n=>cases (show u=aq.type n from r);rfl
section
variable {P:ba}{w:bE}{H H':Hp}{h h':Heap}{a C dx:ay}{fs fs':List (Str × V)}
theorem v6 (hok:HOk P w H h)(e:H a=some (.ins C dx fs)):∃ mA,XF h a dx C mA/\(∀ f,yu (fs.lookup f) (mA f))/\iu mA (fs.map (·.1))/\fs.length<=1000/\H dx=some (.own a):=by
 obtain ⟨d,z,ne,ob,mA,n,r,q⟩:=(show zV P w H h a (.ins C dx fs) from hok a _ e)
 exact ⟨mA,⟨ob,n,ne⟩,r,q,z,d⟩
end
structure Cls (K:az)(C:ay):Prop where
 pg:fO K C Str.empty=true
 hd:eP K C=true
 po:i7 K C=true
 sa:bC K (.ref C) "__setattr__"=some (some (.builtin "object.__setattr__"))
variable {C:ay}
theorem Cls.get (c:Cls K C)(f:Str):fO K C f=true:=c.pg
def jQ (K:az)(C:ay)(f:Str):Prop:=bC K (.ref C) f=some none
variable {f:Str}
theorem jQ.taker (n:jQ K C f):mj K C f=some none:=by
 unfold mj
 rw [show bC K (.ref C) f=some none from n]
 rfl
structure Con (K:az)(C:ay)(f:Str)(v:V)(u:aq):Prop where
 at_:bC K (.ref C) f=some (some u)
 rel:zE v u
 get:gz K u "__get__"=some none
 cp:PySem.W.copiedNames.contains f=false
structure XN (K:az)(C:ay)(m:Str)(f:ay):Prop where
 at_:bC K (.ref C) m=some (some (.ref f))
 fn:dh K (.ref f)=true
 kp:dv K (.ref f)=true
section
variable {X:Cx}{pins:List (ay × Obj)}{σ:St}{H:Hp}{s:ax}{a C dx:ay}{fs:List (Str × V)}{f:Str}{v:V}{A:bt}{E:aq->ax->Prop}
variable {Q:aq->ax->Prop}
theorem XC {b:Bool} (I:Inv X pins σ H s)(e:H a=some (.ins C dx fs))(c:Cls X.K C)(n:jQ X.K C f)(l:fs.lookup f=some v)
  (h:∀ u s',Inv X pins σ H s'->zE v u->Q u s'):aL (aN X.prog X.w) A (oA (.ref a) f b) Q E s:=by
 obtain ⟨mA,O,r,_,_,_⟩:=v6 I.hok e
 obtain ⟨u,hu,ru⟩:=yu.some_of (v:=v) (o:=mA f) (by rw [<- l];exact r f)
 exact G9 I.kIn O (c.get f) c.hd n hu (Qd ru) (h u _ (I.tok _) ru)
theorem kP {m:Str}{g:ay}{pl:Sem Bool}{Q:aq × List aq->ax->Prop}(I:Inv X pins σ H s)(e:H a=some (.ins C dx fs))(c:Cls X.K C)(k:XN X.K C m g)(l:fs.lookup m=none)
  (h:Q (.ref g,[.ref a]) s):aL (aN X.prog X.w) A (getMethod (.ref a) m pl) Q E s:=by
 obtain ⟨mA,O,r,_,_,_⟩:=v6 I.hok e
 have hn:mA m=none:=yu.none_of (by rw [<- l];exact r m)
 exact EY I.kIn O (c.get m) k.at_ k.fn hn h
theorem Ym {y:V}{u:aq}{Q:Unit->ax->Prop}(I:Inv X pins σ H s)(e:H a=some (.ins C dx fs))(c:Cls X.K C)(n:jQ X.K C f)(hl:fs.length<1000)(ry:zE y u)
  (h:∀ s',Inv X pins σ (upd H a (.ins C dx (jE f y fs))) s'->Q () s'):aL (aN X.prog X.w) A (setAttr (.ref a) f u) Q E s:=by
 obtain ⟨mA,O,r,wi,_,ho⟩:=v6 I.hok e
 have hz:(fs.map (·.1)).length<=aT:=by rw [am,dq];omega
 refine JJ I.kIn O c.sa c.po n.taker c.hd wi hz fun h' O' sb=>h _ ?_
 have hd:∃ o,h'.get? dx=some o:=let ⟨o,_,_,e',_⟩:=O'.ns;⟨o,e'⟩
 refine I.write (x:=a) (e:=dx) (by rw [e];exact True.intro) (.inr ho) (fun b q hb z=>(sb.2 b hb).trans z) hd ?_
 refine ⟨by rw [zh O.ne];exact ho,?_,O.ne,O'.obj,_,O'.ns,fun g=>?_,fun g hg=>?_⟩
 ·have:=vO f y fs;omega
 ·show yu ((jE f y fs).lookup g) (if g=f then some u else mA g)
  rw [j4]
  by_cases q:g=f
  ·rw [if_pos q,if_pos q];exact ry
  ·rw [if_neg q,if_neg q];exact r g
 ·by_cases q:g=f
  ·rw [q];exact (kz f y fs).1
  ·refine (kz f y fs).2 g (wi g fun z=>hg ?_)
   show (if g=f then some u else mA g)=none
   rw [if_neg q];exact z
theorem Inv.made (I:Inv X pins σ H s):Inv X pins σ (upd (upd H s.heap.objs.size (.own (s.heap.objs.size+1))) (s.heap.objs.size+1) (.ins C s.heap.objs.size []))
  { s with heap:=(s.heap.push cX).push (d6 C s.heap.objs.size) }:=by
 have e1:(s.heap.push cX).get? s.heap.objs.size=some cX:=aS s.heap rfl
 have e2:((s.heap.push cX).push (d6 C s.heap.objs.size)).get? (s.heap.objs.size+1)=some (d6 C s.heap.objs.size):=by
  have:=aS (s.heap.push cX) (o:=d6 C s.heap.objs.size) rfl
  rwa [gA] at this
 have e3:(s.heap.push cX).Ns s.heap.objs.size (fun _=>none):=⟨cX,#[],_,e1,rfl,(fun e he=>absurd he (by simp)),fun _=>rfl⟩
 have I1:=I.laid (a:=s.heap.objs.size) (o:=.own (s.heap.objs.size+1)) (h':=s.heap.push cX) (t':=s.toks) (fun b u q=>aD _ q) (aF _) ⟨_,e1⟩
 refine I1.laid (a:=s.heap.objs.size+1) (o:=.ins C s.heap.objs.size []) (t':=s.toks) (fun b u q=>aD _ q) (nN (gA _ _)) ?_
 have ne:s.heap.objs.size ≠ s.heap.objs.size+1:=bw (nY _)
 refine ⟨by rw [zh ne,zi],cn _,ne,e2,fun _=>none,(Heap.Ns1.of_empty e3).at fun o q=>aD _ q,fun _=>True.intro,fun y hy=>absurd rfl hy⟩
theorem Vp {prog:ba} {env:Env} {pos:Pos} (hb:eD e f env (eval e env)=eval e env)
  (h:aL (aN prog w) A (eval e env) (fun o s₁=>aL (aN prog w) A (oA o f true) Q E s₁) E s):aL (aN prog w) A (eval (.Attribute e f pos) env) Q E s:=
 Attribute_any_ h (by rw [arm_eval_Attribute,hb])
end
noncomputable def NK (K:az)(ta:TE)(f:Str):TE:=fun σ H Q=>ta σ H fun x H1=>∃ a C dx fs v,x=.ref a/\H1 a=some (.ins C dx fs)/\Cls K C/\jQ K C f/\fs.lookup f=some v/\Q v H1
noncomputable def Gg (K:az)(ta tv:TE)(f:Str):TS:=fun D σ H=>tv σ H fun y H1=>ta σ H1 fun x H2=>∃ a C dx fs,x=.ref a/\H2 a=some (.ins C dx fs)/\Cls K C/\jQ K C f/\fs.length<1000 /\
 D.nx σ (upd H2 a (.ins C dx (jE f y fs)))
section
variable {X:Cx}{o e value:Expr}{f:Str}{pos pos' tpos:Pos}{ta tv:TE}
theorem qa (he:PE X e ta)(hb:eD e f X.env (eval e X.env)=eval e X.env):PE X (.Attribute e f pos) (NK X.K ta f):=by
 intro pins s σ H Q I h
 refine Vp hb (thn (he pins s σ H _ I h) fun u s1 ⟨x,H1,I1,rx,a,C,dx,fs,v,ex,ea,c,n,l,q⟩=>?_)
 subst ex
 obtain rfl:u=aq.ref a:=rx
 exact XC I1 ea c n l fun u' s2 I2 ru=>⟨v,H1,I2,ru,q⟩
theorem xy (ha:PE X o ta)(hv:PE X value tv)(hs:mY value (some (.Attribute o f pos')) pos.line X.env=pure false):PS X (.Assign [.Attribute o f pos'] value pos) (Gg X.K ta tv f):=by
 intro pins s σ H D I h
 refine gN (thn (hv pins s σ H _ I h) fun u s1 ⟨y,H1,I1,ry,q⟩=>thn (ha pins s1 σ H1 _ I1 q) fun ov s2 ⟨x,H2,I2,rx,a,C,dx,fs,ex,ea,c,n,l,q2⟩=>?_) hs
 subst ex
 obtain rfl:ov=aq.ref a:=rx
 exact Ym I2 ea c n l ry fun s3 I3=>⟨σ,_,I3,q2⟩
theorem II {pl:Sem Bool}{m:Str}{apos:Pos}{args:List Expr} {Q:aq->ax->Prop}{te:TE}(he:PE X e te)(I:Inv X pins σ H s)
  (h:te σ H fun x H1=>∃ a C dx fs g,x=.ref a/\H1 a=some (.ins C dx fs)/\Cls X.K C/\XN X.K C m g/\fs.lookup m=none /\
   ∀ s1,Inv X pins σ H1 s1->aL (aN X.prog X.w) X.A (h8 pos (.ref g) [.ref a] (cH pos (aV args X.env)) (fY pos (eE [] X.env))) Q X.xe s1)
  (ht:eval (.Call (.Attribute e m apos) args [] pos) X.env=(do
   let ov <- eval e X.env
   iZ apos.atName
   let (f,first) <- holding [ov] (getMethod ov m pl)
   h8 pos f first (cH pos (aV args X.env)) (fY pos (eE [] X.env)))) :
  aL (aN X.prog X.w) X.A (eval (.Call (.Attribute e m apos) args [] pos) X.env) Q X.xe s:=by
 refine fC (pl:=pl) (thn (he pins s σ H _ I h) fun u s1 ⟨x,H1,I1,rx,a,C,dx,fs,g,ex,ea,c,k,l,q⟩=>?_) ht
 subst ex
 obtain rfl:u=aq.ref a:=rx
 exact kP I1 ea c k l (q s1 I1)
end
section
variable {X:Cx}{pins:List (ay × Obj)}{σ:St}{H:Hp}{s:ax}{A:bt}{E:aq->ax->Prop}{Q:aq->ax->Prop}{c:aq}{b:Bool}
inductive xH (K:az) (H:Hp):V->aq->Prop where
  | non:xH K H .non (.type "NoneType")
  | bl (x:Bool):xH K H (.bl x) (.type "bool")
  | int (i:Int):xH K H (.int i) (.type "int")
  | str (x:Str):xH K H (.str x) (.type "str")
  | flt (x:UInt64):xH K H (.flt x) (.type "float")
  | lst {a:ay} {xs:List V} (e:H a=some (.lst xs)):xH K H (.ref a) (.type "list")
  | frz {a:ay} {o:Obj} {xs:List V} (e:H a=some (.frz o (.lst xs))):xH K H (.ref a) (.type "list")
  | tup {a:ay} {xs:List V} (e:H a=some (.tup xs)):xH K H (.ref a) (.type "tuple")
  | dK {a:ay} {kvs:List (Key × V)} (e:H a=some (.dK kvs)):xH K H (.ref a) (.type "dict")
  | dT {a:ay} {kvs:List (List Key × V)} (e:H a=some (.dT kvs)):xH K H (.ref a) (.type "dict")
  | ins {a C dx : ay} {fs : List (Str × V)} (e : H a = some (.ins C dx fs)) (cl : Cls K C) (ha : bC K (.ref C) "__class__" = some (some (.builtin "object.__class__")))
      (hn:gz K (.builtin "object.__class__") "__get__"=some (some (.builtin "getset_descriptor.__get__"))) (htk:mq K (.builtin "object.__class__")=some true)
      (hm:PySem.W.mroIn K C (.type "object")=some true):xH K H (.ref a) (.ref C)
theorem Wa {x:V}{u t:aq}(I:Inv X pins σ H s)(rx:zE x u)(ty:xH X.K H x t)(e:mK X.K t c=some b)(h:∀ tk,Q (.bool b) { s with toks:=tk }) :
  aL (aN X.prog X.w) A (call (.builtin "isinstance") [u,c]) Q E s:=by
 cases ty with
 | non=>cases (show u=aq.none from rx);exact cR nO I.kIn True.intro e (fun z=>nomatch z) h
 | bl y=>cases (show u=aq.bool y from rx);exact cR nQ I.kIn True.intro e (fun z=>nomatch z) h
 | int i=>obtain ⟨t,q⟩:=(show ∃ t,u=aq.int i t from rx);cases q;exact cR nZ I.kIn True.intro e (fun z=>nomatch z) h
 | str y=>obtain ⟨t,q⟩:=(show ∃ t,u=aq.str y t from rx);cases q;exact cR n4 I.kIn True.intro e (fun z=>nomatch z) h
 | flt y=>obtain ⟨t,q⟩:=(show ∃ t,u=aq.float y t from rx);cases q;exact cR nE I.kIn True.intro e (fun z=>nomatch z) h
 | @lst a xs ea=>
  cases (show u=aq.ref a from rx)
  obtain ⟨_,_,n,_,h1⟩:=(show zV X.prog X.w H s.heap a (.lst xs) from I.hok a _ ea)
  exact cR gB I.kIn ⟨_,h1,rfl⟩ e (fun z=>nomatch z) h
 | @frz a ob xs ea=>
  cases (show u=aq.ref a from rx)
  obtain ⟨_,_,_,n,_,h1⟩:=(show zV X.prog X.w H s.heap a (.frz ob (.lst xs)) from I.hok a _ ea)
  exact cR gB I.kIn ⟨_,h1,rfl⟩ e (fun z=>nomatch z) h
 | @tup a xs ea=>
  cases (show u=aq.ref a from rx)
  obtain ⟨_,_,_,p⟩:=(show zV X.prog X.w H s.heap a (.tup xs) from I.hok a _ ea)
  obtain ⟨o,h1,h2,_⟩:=p
  exact cR nF I.kIn ⟨o,h1,h2⟩ e (fun z=>nomatch z) h
 | @dK a kvs ea=>
  cases (show u=aq.ref a from rx)
  obtain ⟨_,_,vs,_,p⟩:=(show zV X.prog X.w H s.heap a (.dK kvs) from I.hok a _ ea)
  obtain ⟨o,es,ep,h1,h2,_⟩:=p
  exact cR gC I.kIn ⟨o,h1,h2.1⟩ e (fun z=>nomatch z) h
 | @dT a kvs ea=>
  cases (show u=aq.ref a from rx)
  obtain ⟨_,_,xs,_,o,es,ep,h1,h2,_⟩:=(show zV X.prog X.w H s.heap a (.dT kvs) from I.hok a _ ea)
  exact cR gC I.kIn ⟨o,h1,h2.1⟩ e (fun z=>nomatch z) h
 | @ins a C dx fs ea cl ha hn htk hm=>
  cases (show u=aq.ref a from rx)
  obtain ⟨mA,O,_⟩:=v6 I.hok ea
  obtain ⟨od,J,_⟩:=O.look
  exact cR (PySem.W.kitx_own (cl.get _) cl.hd ha hn htk hm) I.kIn J e (fun z=>nomatch z) h
end
structure qm (k:Nat)(A:bt):Prop where
 hd:A.handled=none
 gd:A.guards=some []
 dp:A.depth+3 * k+5<gD
 un:A.units+16 * k+200<mr
variable {j k:Nat}
theorem qm.mono (r:qm k A)(h:j<=k):qm j A:=⟨r.hd,r.gd,by have:=r.dp;omega,by have:=r.un;omega⟩
theorem qm.deeper (r:qm (k+1) A)(env:Env):qm k (A.deeper env):=
 ⟨r.hd,r.gd,by have:=r.dp;show A.depth+1+3 * k+5<_;omega,by have:=r.un;show A.units+3+16 * k+200<_;omega⟩
variable {kw:List (Str × aq)}
theorem ZJ:(A.under (.builtin "type.__call__" ⟨.ref C :: us,kw⟩)).depth=A.depth+1:=by
 first | rfl | simp [bt.under,ng.weight,ng.isCreation,ng.isGuard,ng.isCaller,ng.frames,ng.isFrame,guardIds]
theorem Zr:(A.under (.builtin "type.__call__" ⟨.ref C :: us,kw⟩)).units=A.units+1:=by
 first | rfl | simp [bt.under,ng.cUnits,ng.frames,ng.isFrame]
theorem vR:(A.under (.builtin "type.__call__" ⟨.ref C :: us,kw⟩)).guards=A.guards:=by
 first | rfl | (simp [bt.under,ng.guards,pushGuards,ng.isGuard,guardIds])
theorem qm.make (r:qm (k+1) A)(C:ay)(us:List aq)(kw:List (Str × aq)):qm k (A.under (.builtin "type.__call__" ⟨.ref C :: us,kw⟩)):=
 ⟨r.hd,(vR).trans r.gd,by have:=r.dp;rw [ZJ];omega,by have:=r.un;rw [Zr];omega⟩
theorem qm.depth (r:qm k A):A.depth<gD:=by have:=r.dp;omega
theorem qm.units (r:qm k A):A.units+64<mr:=by have:=r.un;omega
noncomputable def Wu:TA:=fun _ H Q=>Q [] H
noncomputable def KY (ta:TE)(tr:TA):TA:=fun σ H Q=>ta σ H fun x H1=>tr σ H1 fun xs H2=>Q (x :: xs) H2
section
variable {X:Cx}{e:Expr}{es:List Expr}{te:TE}{t:TA}{pos:Pos}
theorem zb:PA X [] Wu:=fun _ _ _ _ H Q I h=>Calls.spliced_nil ⟨[],H,I,.nil,h⟩
theorem za (ha:PE X e te)(hr:PA X es t)(hs:aV (e :: es) X.env=(false,eval e X.env) :: aV es X.env:=by rfl):PA X (e :: es) (KY te t):=by
 intro pos pins s σ H Q I h
 rw [hs]
 show aL _ _ (spliced ((false,eval e X.env) :: cH pos (aV es X.env))) _ _ s
 refine Calls.spliced_cons (thn (ha pins s σ H _ I h) fun u s1 ⟨x,H1,I1,r1,q1⟩=>?_)
 exact thn (hr pos pins s1 σ H1 _ I1 q1) fun us s2 ⟨xs,H2,I2,r2,q2⟩=>⟨x :: xs,H2,I2,.cons r1 r2,q2⟩
noncomputable def Wr (t:TA):TE:=fun σ H Q=>t σ H fun xs H1=>xs.length<=aT/\∀ p,H1 p=none->Q (.ref p) (upd H1 p (.tup xs))
noncomputable def Nn (t:TA):TE:=fun σ H Q=>t σ H fun xs H1=>xs.length<=aT/\∀ p,H1 p=none->Q (.ref p) (upd H1 p (.lst xs))
theorem qd {x1}(h:PA X es t):PE X (.Tuple es x1 pos) (Wr t):=by
 intro pins s σ H Q I hq
 refine wpAny_Tuple_spliced (thn (h pos pins s σ H _ I hq) fun us s1 ⟨xs,H1,I1,r,z,q⟩=>⟨by rw [<- r.length];exact z,?_⟩)
 have hf:H1 s1.heap.objs.size=none:=I1.hok.fresh (aF _)
 refine ⟨.ref s1.heap.objs.size,upd H1 s1.heap.objs.size (.tup xs),I1.laid (t':=s1.toks) (fun b u e=>aD _ e) (aF _) ?_,rfl,q _ hf⟩
 exact ⟨z,us,r,⟨_,aS _ rfl,rfl,⟨_,rfl⟩,rfl⟩⟩
theorem qA (h:PA X es t):PE X (.List es pos) (Nn t):=by
 intro pins s σ H Q I hq
 refine wpAny_List_spliced (thn (h pos pins s σ H _ I hq) fun us s1 ⟨xs,H1,I1,r,z,q⟩=>⟨by rw [<- r.length];exact z,?_⟩)
 have hf:H1 s1.heap.objs.size=none:=I1.hok.fresh (aF _)
 refine ⟨.ref s1.heap.objs.size,upd H1 s1.heap.objs.size (.lst xs),I1.laid (t':=s1.toks) (fun b u e=>aD _ e) (aF _) ?_,rfl,q _ hf⟩
 exact ⟨z,us,0,r,aS _ rfl⟩
end
abbrev Sp:=List V->Hp->VK->XK->Prop
abbrev CXT:=List Env->Hp->ax->XK->aq->ax->Prop
structure QY (P:ba)(w:bE)(K:az)(mg:Str->Option aq)(base:Heap)(A:bt)(outer:List Env)(s:ax)(H:Hp):Prop where
 frames:A.frames=some outer
 mod:Mod K mg base
 bs:∀ b o,base.get? b=some o->s.heap.get? b=some o/\H b=none
 bsz:base.objs.size<=s.heap.objs.size
 funs:s.heap.FunFrames base outer
 frf:∀ b ∈ frs outer,H b=none
 hok:HOk P w H s.heap
 bare:iw s.gens
def CE (outer:List Env)(P:ba)(w:bE)(H:Hp)(s:ax)(Q:VK)(u:aq)(s':ax):Prop:=
 ∃ v H',s'.os=s.os/\iw s'.gens/\Un (frs outer) [] H H' s.heap s'.heap/\HOk P w H' s'.heap/\zE v u/\Q v H'
def CR (CX:CXT)(outer:List Env)(P:ba)(w:bE)(H:Hp)(s:ax)(Q:VK)(E:XK)(r:nD)(s':ax):Prop:=
 match r with
 | .ok (.ret u)=>CE outer P w H s Q u s'
 | .ok _=>False
 | .error e=>CX outer H s E e s'
structure jx (P:ba)(w:bE)(K:az)(mg:Str->Option aq)(base:Heap)(CX:CXT)(k:Nat)(f:ay)(fd:dz)(ps:List Str)(sp:Sp):Prop where
 len:∀ vs H Q E,sp vs H Q E->vs.length=ps.length
 run:∀ (A:bt) (outer:List Env) (s:ax) (H:Hp) (args:Args) (us:List aq) (vs:List V) (Q:VK) (E:XK),qm k A->QY P w K mg base A outer s H->lS s fd args (ps.zip us)->zz vs us->sp vs H Q E ->
  dX (aN P w) A (.call (.ref f) args) (CR CX outer P w H s Q E) s
variable {mg:Str->Option aq} {base:Heap} {CX:CXT} {fd:dz} {ps:List Str} {sp:Sp}
theorem jx.mono {f:ay} (F:jx P w K mg base CX j f fd ps sp)(h:j<=k) :
  jx P w K mg base CX k f fd ps sp:=⟨F.len,fun A outer s H args us vs Q E hr=>F.run A outer s H args us vs Q E (hr.mono h)⟩
theorem jx.imp {f:ay} {sp sp':Sp}(F:jx P w K mg base CX k f fd ps sp)
  (h:∀ vs H Q E,sp' vs H Q E->sp vs H Q E):jx P w K mg base CX k f fd ps sp':=
 ⟨fun vs H Q E q=>F.len vs H Q E (h _ _ _ _ q),fun A outer s H args us vs Q E hr he hb hv hs=>F.run A outer s H args us vs Q E hr he hb hv (h _ _ _ _ hs)⟩
theorem QY.make {outer:List Env} (e:QY P w K mg base A outer s H)(C:ay)(us:List aq)(kw:List (Str × aq)) :
  QY P w K mg base (A.under (.builtin "type.__call__" ⟨.ref C :: us,kw⟩)) outer s H:=⟨by first | exact e.frames | (simpa [bt.under,ng.envs,ng.isFrame,pushEnvs] using e.frames),e.mod,e.bs,e.bsz,e.funs,e.frf,e.hok,e.bare⟩
section
variable {X:Cx}{pins:List (ay × Obj)}{σ:St}{H:Hp}{s s':ax}
theorem Inv.env0 (I:Inv X pins σ H s):QY X.prog X.w X.K X.mg X.base X.A X.stack s H:=
 ⟨I.ok.frames,I.ok.mod,I.bs,bf I.ok.bsz I.sz,I.stack,I.stkFree,I.hok,I.bare⟩
theorem Inv.after {Q:VK}{u:aq}(I:Inv X pins σ H s)(h:CE X.stack X.prog X.w H s Q u s'):EP X pins σ Q u s':=by
 obtain ⟨v,H',os,bare,un,hok,r,q⟩:=h
 obtain ⟨hh,g,d,t,os'⟩:=s'
 obtain rfl:os'=s.os:=os
 exact ⟨v,H',I.call (h':=hh) (g':=g) (d':=d) (t':=t) (ch:=[]) un hok bare (fun b z=>absurd z (by simp)),r,q⟩
end
noncomputable def KR (sp:Sp)(dvs:List V)(E:XK)(t:TA):TE:=fun σ H Q=>t σ H fun vs H1=>sp (vs ++ dvs) H1 Q E
noncomputable def Qe (C:ay)(m:Str)(sp:Sp)(dvs:List V)(E:XK)(ta:TE)(t:TA):TE:=fun σ H Q=>ta σ H fun x H1=>∃ a dx fs,x=.ref a/\H1 a=some (.ins C dx fs)/\fs.lookup m=none /\
 t σ H1 fun vs H2=>sp (x :: (vs ++ dvs)) H2 Q E
noncomputable def VC (C:ay)(sp:Sp)(dvs:List V)(E:XK)(t:TA):TE:=fun σ H Q=>t σ H fun vs H1=>∀ x dx,H1 x=none->H1 dx=none->dx ≠ x ->
 sp (.ref x :: (vs ++ dvs)) (upd (upd H1 dx (.own x)) x (.ins C dx [])) (fun v H2=>v=.non/\Q (.ref x) H2) E
def jv (K:az)(fd:dz)(ps:List Str)(ds:List aq):Prop:=
 ∀ (s:ax) (us:List aq),K.In s.heap->(us ++ ds).length=ps.length->lS s fd ⟨us,[]⟩ (ps.zip (us ++ ds))
theorem jv.all (h:∀ us:List aq,us.length=ps.length->fm fd ⟨us,[]⟩=pure (ps.zip us)):jv K fd ps []:=fun s us _ hl=>by
 rw [bP] at hl ⊢
 exact .of_eq (h us hl)
def xh (CX:CXT)(X:Cx)(E:XK):Prop:=∀ (pins:List (ay × Obj)) (σ:St) (H:Hp) (s:ax) (e:aq) (s':ax),Inv X pins σ H s->CX X.stack H s E e s'->X.xe e s'
section
variable {X:Cx}{CX:CXT}{k:Nat}{f C:ay}{fd:dz}{ps:List Str}{sp:Sp}{dvs:List V}{ds:List aq}{E:XK}{x m:Str}{p pos apos:Pos}{e o:Expr}{es:List Expr}{ta:TE}{t:TA}
theorem Xn {pins:List (ay × Obj)}{σ:St}{H:Hp}{s:ax}{Q:VK}{us:List aq}{vs:List V}(F:jx X.prog X.w X.K X.mg X.base CX k f fd ps sp)(hr:qm k X.A)(hb:jv X.K fd ps ds)(hd:zz dvs ds)(hx:xh CX X E)
  (I:Inv X pins σ H s) (r:zz vs us) (h:sp (vs ++ dvs) H Q E):aL (aN X.prog X.w) X.A (call (.ref f) us) (EP X pins σ Q) X.xe s:=by
 have r2:zz (vs ++ dvs) (us ++ ds):=r.append hd
 have hl:(us ++ ds).length=ps.length:=by rw [<- r2.length];exact F.len _ _ _ _ h
 refine iF (e9 (F.run X.A X.stack s H ⟨us,[]⟩ (us ++ ds) (vs ++ dvs) Q E hr I.env0 (hb s us I.kIn hl) r2 h) fun r s' hq=>?_)
 cases r with
 | error e=>exact hx pins σ H s e s' I hq
 | ok fl=>
  cases fl with
  | ret u=>exact I.after hq
  | next=>exact ca hq
  | brk=>exact ca hq
  | cont=>exact ca hq
theorem GJ (F:jx X.prog X.w X.K X.mg X.base CX k f fd ps sp)(hr:qm k X.A)(hg:Gl X x)(hm:X.mg x=some (.ref f))(hk:dv X.K (.ref f)=true)(hb:jv X.K fd ps ds)(hd:zz dvs ds)(hx:xh CX X E)
  (ha:PA X (e :: es) t) (hdb:(x == ("__debug__":Str))=false:=by decide) (he:aV (e :: es) X.env=(false,eval e X.env) :: aV es X.env:=by rfl) (hpl:(cH pos (aV es X.env)).any (·.1)=false:=by rfl) :
  PE X (.Call (.Name x p) (e :: es) [] pos) (KR sp dvs E t):=by
 intro pins s σ H Q I h
 refine fb (kK I hg hm ?_ hdb)
 refine fc (h₀:=X.base) I.ok.mod.kin hk (thn (ha pos pins s σ H _ I h) fun us s1 ⟨vs,H1,I1,r,q⟩=>⟨I1.kIn,?_⟩) he hpl
 exact Xn F hr hb hd hx I1 r q
variable {pl:Sem Bool}
theorem FJ (he:PE X o ta)(c:Cls X.K C)(hm:XN X.K C m f)(F:jx X.prog X.w X.K X.mg X.base CX k f fd ps sp)(hr:qm k X.A)(hb:jv X.K fd ps ds)(hd:zz dvs ds)(hx:xh CX X E)(ha:PA X (e :: es) t)
  (hst:aV (e :: es) X.env=(false,eval e X.env) :: aV es X.env:=by rfl) (hpl:(cH pos (aV es X.env)).any (·.1)=false:=by rfl)
  (ht:eval (.Call (.Attribute o m apos) (e :: es) [] pos) X.env=(do
   let ov <- eval o X.env
   iZ apos.atName
   let (f,first) <- holding [ov] (getMethod ov m pl)
   h8 pos f first (cH pos (aV (e :: es) X.env)) (fY pos (eE [] X.env))):=by rfl) :
  PE X (.Call (.Attribute o m apos) (e :: es) [] pos) (Qe C m sp dvs E ta t):=by
 intro pins s σ H Q I h
 refine fC (pl:=pl) (thn (he pins s σ H _ I h) fun u s1 ⟨x,H1,I1,rx,a,dx,fs,ex,ea,l,q⟩=>?_) ht
 subst ex
 obtain rfl:u=aq.ref a:=rx
 refine kP I1 ea c hm l ?_
 refine fc (first:=[.ref a]) (h₀:=X.base) I.ok.mod.kin hm.kp (thn (ha pos pins s1 σ H1 _ I1 q) fun us s2 ⟨vs,H2,I2,r,q2⟩=>⟨I2.kIn,?_⟩) hst hpl
 exact Xn (us:=.ref a :: us) (vs:=.ref a :: vs) F hr hb hd hx I2 (.cons rfl r) q2
theorem Fe (he:PE X o ta)(c:Cls X.K C)(hm:XN X.K C m f)(F:jx X.prog X.w X.K X.mg X.base CX k f fd ps sp)(hr:qm k X.A)(hb:jv X.K fd ps ds)(hd:zz dvs ds)(hx:xh CX X E)
  (ht:eval (.Call (.Attribute o m apos) [] [] pos) X.env=(do
   let ov <- eval o X.env
   iZ apos.atName
   let (f,first) <- holding [ov] (getMethod ov m pl)
   h8 pos f first (cH pos (aV [] X.env)) (fY pos (eE [] X.env))):=by rfl) :
  PE X (.Call (.Attribute o m apos) [] [] pos) (Qe C m sp dvs E ta Wu):=by
 intro pins s σ H Q I h
 refine fC (pl:=pl) (thn (he pins s σ H _ I h) fun u s1 ⟨x,H1,I1,rx,a,dx,fs,ex,ea,l,q⟩=>?_) ht
 subst ex
 obtain rfl:u=aq.ref a:=rx
 refine kP I1 ea c hm l ?_
 exact PySem.W.callWith_K0 (first:=[.ref a]) I1.kIn hm.kp (Xn (us:=[.ref a]) (vs:=[.ref a]) F hr hb hd hx I1 (.cons rfl .nil) q)
structure Mk (K:az)(C f:ay):Prop where
 makes:mn K C=true
 init:bC K (.ref C) "__init__"=some (some (.ref f))
 fn:dh K (.ref f)=true
 kp:dv K (.ref C)=true
theorem E8 {pins:List (ay × Obj)}{σ:St}{H:Hp}{s:ax}{Q:VK}{us:List aq}{vs:List V}(M:Mk X.K C f)(F:jx X.prog X.w X.K X.mg X.base CX k f fd ps sp)(hr:qm (k+1) X.A)(hb:jv X.K fd ps ds)(hd:zz dvs ds)
  (hx:xh CX X E) (I:Inv X pins σ H s) (r:zz vs us)
  (h:∀ x dx,H x=none->H dx=none->dx ≠ x->sp (.ref x :: (vs ++ dvs)) (upd (upd H dx (.own x)) x (.ins C dx [])) (fun v H2=>v=.non/\Q (.ref x) H2) E) :
  aL (aN X.prog X.w) X.A (call (.ref C) us) (EP X pins σ Q) X.xe s:=by
 have hq:=h (s.heap.objs.size+1) s.heap.objs.size (I.hok.fresh (h9 _)) (I.hok.fresh (aF _)) (bw (nY _))
 have I2:=Inv.made (C:=C) I
 have r2:zz (V.ref (s.heap.objs.size+1) :: (vs ++ dvs)) (aq.ref (s.heap.objs.size+1) :: (us ++ ds)):=.cons rfl (r.append hd)
 have hl:(aq.ref (s.heap.objs.size+1) :: us ++ ds).length=ps.length:=by
  have e:=r2.length
  rw [F.len _ _ _ _ hq] at e
  exact e.symm
 refine iF (Ft (f:=f) I.kIn M.makes M.init (beq_iff_eq.mp M.fn) (e9 (F.run _ X.stack _ _ ⟨aq.ref (s.heap.objs.size+1) :: us,[]⟩ (aq.ref (s.heap.objs.size+1) :: (us ++ ds)) _ _ E (hr.make C us [])
  (I2.env0.make C us []) (hb _ (aq.ref (s.heap.objs.size+1) :: us) I2.kIn hl) r2 hq) fun r s' hq'=>?_))
 cases r with
 | error e=>exact hx pins σ _ _ e s' I2 hq'
 | ok fl=>
  cases fl with
  | ret u=>
   obtain ⟨v,H',I3,rv,ev,q3⟩:=I2.after hq'
   subst ev
   exact ⟨rv,⟨V.ref (s.heap.objs.size+1),H',I3,rfl,q3⟩⟩
  | next=>exact ca hq'
  | brk=>exact ca hq'
  | cont=>exact ca hq'
theorem F1 (M:Mk X.K C f)(F:jx X.prog X.w X.K X.mg X.base CX k f fd ps sp)(hr:qm (k+1) X.A)(hg:Gl X x)(hm:X.mg x=some (.ref C))(hb:jv X.K fd ps ds)(hd:zz dvs ds)(hx:xh CX X E)
  (ha:PA X (e :: es) t) (hdb:(x == ("__debug__":Str))=false:=by decide) (he:aV (e :: es) X.env=(false,eval e X.env) :: aV es X.env:=by rfl) (hpl:(cH pos (aV es X.env)).any (·.1)=false:=by rfl) :
  PE X (.Call (.Name x p) (e :: es) [] pos) (VC C sp dvs E t):=by
 intro pins s σ H Q I h
 refine fb (kK I hg hm ?_ hdb)
 refine fc (h₀:=X.base) I.ok.mod.kin M.kp (thn (ha pos pins s σ H _ I h) fun us s1 ⟨vs,H1,I1,r,q⟩=>⟨I1.kIn,?_⟩) he hpl
 exact E8 M F hr hb hd hx I1 r q
end
section
variable {X:Cx}{CX:CXT}{k:Nat}{f C:ay}{fd:dz}{ps ks:List Str}{sp:Sp}{E:XK}{x m:Str}{p pos apos kpos:Pos}{e o:Expr}{es:List Expr}{kws:List i9}{te ta:TE}{t tk:TA}{nm:Option Str}
structure O7 (K:az)(fd:dz)(ps ks:List Str)(g:List aq->List aq->List aq)(gV:List V->List V->List V):Prop where
 to:∀ (s:ax) (us ws:List aq),K.In s.heap->(g us ws).length=ps.length->lS s fd ⟨us,ks.zip ws⟩ (ps.zip (g us ws))
 rel:∀ {vs:List V} {us:List aq} {zs:List V} {ws:List aq},zz vs us->zz zs ws->zz (gV vs zs) (g us ws)
variable {g:List aq->List aq->List aq}{gV:List V->List V->List V}
end
structure zn (N P:List Str)(sc:Scope):Prop where
 kind:sc.kind=.function
 co:sc.isCoroutine=false
 gen:sc.isGenerator=false
 nd:N.Nodup
 pre:N.take P.length=P
 par:∀ x ∈ P,sc.names.lookup x=some .local \/ sc.names.lookup x=some .cell
 nofree:∀ y ∈ sc.names,y.2 ≠ .free
theorem Qs {kindOf:Str->Option cr}{x:Str}:∀ {binds:List (Str × aq)} {m:Str->Option aq},(∀ v,(x,v) ∉ binds)->oG kindOf binds m x=m x
 | [],_,_=>rfl
 | (n,v) :: r,m,h=>by
  unfold oG
  rw [Qs fun w hw=>h w (aZ _ hw)]
  split
  ·have:x ≠ n:=by rintro rfl;exact h v bJ
   simp [this]
  ·rfl
theorem QG {kindOf:Str->Option cr}{x:Str}:∀ {binds:List (Str × aq)} {m:Str->Option aq},(∀ v,(x,v) ∉ binds)->oH kindOf binds m x=m x
 | [],_,_=>rfl
 | (n,v) :: r,m,h=>by
  unfold oH
  rw [QG fun w hw=>h w (aZ _ hw)]
  split
  ·rfl
  ·have:x ≠ n:=by rintro rfl;exact h v bJ
   simp [this]
theorem Qh {kindOf:Str->Option cr}{x:Str}{v:aq}:∀ {P:List Str} {vs:List aq} {i:Nat} {m:Str->Option aq},P.Nodup->P[i]?=some x->vs[i]?=some v->kindOf x=some .local ->
  oG kindOf (P.zip vs) m x=some v
 | [],_,_,_,_,h,_,_=>by simp at h
 | _ :: _,[],_,_,_,_,h,_=>by simp at h
 | p :: P,w :: vs,0,m,nd,h1,h2,hk=>by
  simp at h1 h2;subst h1;subst h2
  show oG kindOf ((p,w) :: P.zip vs) m p=_
  unfold oG
  rw [Qs fun v hv=>(bT.mp nd).1 (im hv).1,if_pos hk]
  simp
 | p :: P,w :: vs,i+1,m,nd,h1,h2,hk=>by
  show oG kindOf ((p,w) :: P.zip vs) m x=_
  unfold oG
  exact Qh (i:=i) (bT.mp nd).2 (by simpa using h1) (by simpa using h2) hk
theorem Qt {kindOf:Str->Option cr}{x:Str}{v:aq}:∀ {P:List Str} {vs:List aq} {i:Nat} {m:Str->Option aq},P.Nodup->P[i]?=some x->vs[i]?=some v->kindOf x ≠ some .local ->
  oH kindOf (P.zip vs) m x=some v
 | [],_,_,_,_,h,_,_=>by simp at h
 | _ :: _,[],_,_,_,_,h,_=>by simp at h
 | p :: P,w :: vs,0,m,nd,h1,h2,hk=>by
  simp at h1 h2;subst h1;subst h2
  show oH kindOf ((p,w) :: P.zip vs) m p=_
  unfold oH
  rw [QG fun v hv=>(bT.mp nd).1 (im hv).1,if_neg hk]
  simp
 | p :: P,w :: vs,i+1,m,nd,h1,h2,hk=>by
  show oH kindOf ((p,w) :: P.zip vs) m x=_
  unfold oH
  exact Qt (i:=i) (bT.mp nd).2 (by simpa using h1) (by simpa using h2) hk
noncomputable def qB (N:List Str)(vs:List V):St:=vs.map some ++ aG (N.length - vs.length) none
noncomputable def jF (CX:CXT)(P:ba)(w:bE)(K:az)(mg:Str->Option aq)(base:Heap)(N:List Str)(qual:Str)(scope:Scope)(f:ay)(cd:aq)(A:bt)(outer:List Env)(s:ax)(H:Hp)(E:XK):Cx where
 prog:=P
 w:=w
 K:=K
 mg:=mg
 base:=base
 A:=A.deeper (fK qual scope s.heap.objs.size f cd)
 N:=N
 s₀:=s
 H₀:=H
 env:=fK qual scope s.heap.objs.size f cd
 outer:=outer
 stack:=fK qual scope s.heap.objs.size f cd :: outer
 ex:=[]
 calm:=true
 fn:=fun _=>true
 pn:=[]
 xe:=fun e s'=>aL (aN P w) (A.deeper (fK qual scope s.heap.objs.size f cd)) (leaving (fK qual scope s.heap.objs.size f cd) e) (fun _ s''=>CX outer H s E e s'') (fun e' s''=>CX outer H s E e' s'') s'
theorem JN {sc:Scope} {x:Str}(h:sc.names.lookup x=some .cell):∃ c,(n5 n sc.names []).lookup x=some c:=by
 have q:=gE sc.names n [] (.inl h)
 exact Option.isSome_iff_exists.mp q
theorem Qr {CX : CXT}{P : ba}{w : bE}{K : az}{mg : Str -> Option aq}{base : Heap}{N ps : List Str}{qual : Str}{scope : Scope}{f : ay}{cd : aq}{A : bt}{outer : List Env}{s s1 : ax}{H : Hp}{E : XK}{us : List aq}{vs : List V}
    (S:zn N ps scope) (hd:A.handled=none) (e0:QY P w K mg base A outer s H) (hl:vs.length=ps.length) (r:zz vs us)
    (x:InCallC s s.heap.objs.size (oG (fK qual scope s.heap.objs.size f cd).kindOf (ps.zip us) fun _=>none) (n5 (s.heap.objs.size+1) scope.names []) (oH (fK qual scope s.heap.objs.size f cd).kindOf (ps.zip us) fun _=>none) s1) :
    Inv (jF CX P w K mg base N qual scope f cd A outer s H E) [] (qB N vs) H s1:=by
  have hpl:ps.length<=N.length:=by have:=congrArg ow S.pre;rw [bZ] at this;omega
  obtain ⟨h1,tk,rfl,hk⟩:=x.done
  have noA:∀ b:ay,b ∉ (jF CX P w K mg base N qual scope f cd A outer s H E).ex:=fun b z=>absurd (show b ∈ ([]:List ay) from z) (by simp)
  refine ⟨⟨e0.mod,S.kind,rfl,rfl,aF _,fun y z c h1 h2=>?_,fun y hy=>?_,fun y c _ h=>?_,fun _=>hd,bt.frames_deeper e0.frames,.inr ⟨rfl,rfl⟩,fun b z=>absurd z (noA b),e0.bs,e0.bsz,fun b _ _=>noA b,fun b z=>absurd z (noA b),e0.funs,e0.frf⟩,
    rfl,e0.bare,Un.kept hk,⟨_,x.toInCall.ns,fun i y v h1 h2 h3=>?_⟩,fun y c h=>⟨_,x.cell y c h⟩,e0.hok.fresh (aF _),fun y c h=>?_,fun p hp=>absurd (show p ∈ ([]:List (ay × Obj)) from hp) (by simp),e0.hok.kept hk,?_⟩
  · exact name_of_addr x.apart (eW h1) (eW h2)
  · have hy:scope.names.lookup y=some .cell \/ scope.names.lookup y=some .free:=hy
    rcases hy with hy | hy
    · exact JN hy
    · exact absurd rfl (S.nofree _ (eW hy))
  · exact lO (x.above y c (eW h))
  · have hi : i < vs.length := by
      unfold qB at h2
      by_cases hi:i<vs.length
      · exact hi
      · rw [dC (by simpa using hi)] at h2
        rw [eX] at h2
        split at h2 <;> cases h2
    have ha:vs[i]?=some v:=by
      unfold qB at h2
      rw [cV (by simpa using hi),aE] at h2
      cases e:vs[i]? with
      | none=>rw [e] at h2;cases h2
      | some a=>rw [e] at h2;cases h2;rfl
    obtain ⟨u,hu,rv⟩:=r.get ha
    have hp:ps[i]?=some y:=by
      rw [<- S.pre,List.getElem?_take_of_lt (by omega)];exact h1
    have ndP:ps.Nodup:=by rw [<- S.pre];exact S.nd.sublist (List.take_sublist _ _)
    refine ⟨u,rv,?_⟩
    rcases S.par y (bh hp) with k | k
    · exact .inl ⟨k,Qh ndP hp hu k⟩
    · obtain ⟨c,e⟩:=JN (n:=s.heap.objs.size+1) k
      refine .inr ⟨.inl k,c,e,?_⟩
      have q:=x.cell y c e
      rw [Qt ndP hp hu (by show scope.names.lookup y ≠ _;rw [k];decide)] at q
      exact q
  · exact e0.hok.fresh (lO (x.above y c (eW h)))
  · unfold qB
    show _=N.length
    rw [bg,am,bM]
    omega
theorem Bi {CX:CXT}{P:ba}{w:bE}{K:az}{mg:Str->Option aq}{base:Heap}{k:Nat}{f:ay}{name qual:Str}{params:Arguments}{body:List cJ}{scope:Scope}{dV kV doc pm cdv ct oc:aq}{an od:Option ay}
  {osl:Array (Option aq)} {N ps:List Str} {sp:Sp} (lk:K.lookup f=some ⟨oc,od,.func (b7 name qual params body scope dV kV doc pm an cdv ct),osl⟩) (hcd:fL K cdv qual=true) (S:zn N ps scope)
  (len:∀ vs H Q E,sp vs H Q E->vs.length=ps.length)
  (hbody:∀ (A:bt) (outer:List Env) (s:ax) (H:Hp) (vs:List V) (Q:VK) (E:XK),qm k (A.deeper (fK qual scope s.heap.objs.size f cdv))->sp vs H Q E ->
   ∃ t,PSs (jF CX P w K mg base N qual scope f cdv A outer s H E) body t/\t { nx:=fun _ H'=>Q .non H',rt:=Q } (qB N vs) H) :
  jx P w K mg base CX (k+1) f (b7 name qual params body scope dV kV doc pm an cdv ct) ps sp:=by
 refine ⟨len,fun A outer s H args us vs Q E hr e0 hb r hsp=>?_⟩
 have hl:=len _ _ _ _ hsp
 have KX:K.In s.heap:=e0.mod.kin.keeps fun b o e=>(e0.bs b o e).1
 have lim:s.heap.NoLimit:=e0.mod.nolimit.keeps fun b o e=>(e0.bs b o e).1
 have hkind:∀ y ∈ ps.zip us,scope.names.lookup y.1=some .local \/ (scope.names.lookup y.1=some .cell/\((n5 (s.heap.objs.size+1) scope.names []).lookup y.1).isSome=true):=fun ⟨n,v⟩ hy=>by
  rcases S.par n (im hy).1 with q | q
  ·exact .inl q
  ·exact .inr ⟨q,gE _ _ _ (.inl q)⟩
 refine codeAny_call_function hr.depth (KX _ _ lk) rfl S.co S.gen rfl (nG KX hcd) (hb _ _ _ _ ?_)
 refine wpAny_newFunctionEnv_cells S.kind hkind fun env he s1 x=>?_
 subst he
 refine ⟨lim.keeps x.toInCall.keep,codeAny_func ?_⟩
 obtain ⟨t,ht,hq⟩:=hbody A outer s H vs Q E (hr.deeper _) hsp
 have I:Inv (jF CX P w K mg base N qual scope f cdv A outer s H E) [] (qB N vs) H s1:=Qr S hr.hd e0 hl r x
 refine aR (ht [] s1 (qB N vs) H _ I hq) (fun fl s' hs=>?_) fun e s' hs=>hs
 have fin:∀ {σ':St} {H':Hp} {v:V} {u:aq},Inv (jF CX P w K mg base N qual scope f cdv A outer s H E) [] σ' H' s'->zE v u->Q v H'->CE outer P w H s Q u s':=
  fun {σ' H' v u} J rv q=>⟨v,H',J.os,J.bare,J.base,J.hok,rv,q⟩
 cases fl with
 | ret u=>
  obtain ⟨v,σ',H',J,rv,q⟩:=hs
  exact fin J rv q
 | next=>
  obtain ⟨σ',H',J,q⟩:=hs
  exact fin (v:=V.non) (u:=aq.none) J rfl q
 | brk=>
  obtain ⟨_,_,_,q⟩:=hs
  exact ca q
 | cont=>
  obtain ⟨_,_,_,q⟩:=hs
  exact ca q
section
variable {X:Cx}{x:Str}{p pos:Pos}{e:Expr}{es:List Expr}{t:TA}{id T:String}{r:List V->Hp->VK->Prop}
noncomputable def tCB (r:List V->Hp->VK->Prop)(t:TA):TE:=fun σ H Q=>t σ H fun vs H1=>r vs H1 Q
theorem zu (hc:ju X (.builtin id) r)(hg:Gl X x)(hm:X.mg x=none)(hv:bY x=some (.builtin id))(ha:PA X (e :: es) t)(hn:x ≠ "__name__":=by decide)(hdb:(x == ("__debug__":Str))=false:=by decide)
  (he:aV (e :: es) X.env=(false,eval e X.env) :: aV es X.env:=by rfl) (hpl:(cH pos (aV es X.env)).any (·.1)=false:=by rfl):PE X (.Call (.Name x p) (e :: es) [] pos) (tCB r t):=by
 intro pins s σ H Q I h
 refine fb (vt I hg hm hv ?_ hn hdb)
 exact PyProof.Rows.callWith_builtin1 (thn (ha pos pins s σ H _ I h) fun us s1 ⟨vs,H1,I1,r1,q1⟩=>hc pins s1 σ H1 vs us Q I1 r1 q1) he hpl
theorem zR (hc:ju X (.type T) r)(hg:Gl X x)(hm:X.mg x=none)(hv:bY x=some (.type T))(ha:PA X (e :: es) t)(hn:x ≠ "__name__":=by decide)(hdb:(x == ("__debug__":Str))=false:=by decide)
  (he:aV (e :: es) X.env=(false,eval e X.env) :: aV es X.env:=by rfl) (hpl:(cH pos (aV es X.env)).any (·.1)=false:=by rfl):PE X (.Call (.Name x p) (e :: es) [] pos) (tCB r t):=by
 intro pins s σ H Q I h
 refine fb (vt I hg hm hv ?_ hn hdb)
 exact eh (thn (ha pos pins s σ H _ I h) fun us s1 ⟨vs,H1,I1,r1,q1⟩=>hc pins s1 σ H1 vs us Q I1 r1 q1) he hpl
end
end L2
namespace HT
open PySem PyProof.Rows
section
open PySem.SeqAt
open PySem.AutoSeq1 (wpAny_loadPart')
open PySem.MeetsSeq PySem.MeetsSeq2 PySem.MeetsSeq3
end
section
variable {prog:ba}{w:bE}{A:bt}{E:aq->ax->Prop}{s:ax}
noncomputable def sIx (n d:Nat):Option Int->Nat
 | none=>d
 | some v=>if v<0 then (v+(n:Int)).toNat else min v.toNat n
theorem sIx_none (n d:Nat):sIx n d none=d:=rfl
theorem sIx_nat (n d k:Nat):sIx n d (some (k:Int))=min k n:=by
 show (if (k:Int)<0 then ((k:Int)+(n:Int)).toNat else min (k:Int).toNat n)=min k n
 rw [if_neg (by omega),aY]
theorem Lf (n d:Nat)(hd:d<=n)(o:Option Int):sIx n d o<=n:=by
 cases o with
 | none=>exact hd
 | some v=>
  show (if v<0 then (v+(n:Int)).toNat else min v.toNat n)<=n
  by_cases hv:v<0
  ·rw [if_pos hv];omega
  ·rw [if_neg hv];exact Nat.min_le_right _ _
theorem YC (v:Int)(n d:Nat):(if v<0 then max (v+(n:Int)) 0 else min v (n:Int))=((sIx n d (some v):Nat):Int):=by
 show (if v<0 then max (v+(n:Int)) 0 else min v (n:Int))=(((if v<0 then (v+(n:Int)).toNat else min v.toNat n):Nat):Int)
 by_cases hv:v<0
 ·simp only [if_pos hv];omega
 ·simp only [if_neg hv];omega
theorem X1 (lo hi:Option Int)(n:Nat):fV lo hi 1 (n:Int)=(((sIx n 0 lo:Nat):Int),((sIx n n hi:Nat):Int)):=by
 have h1:¬ ((1:Int)<0):=by omega
 unfold fV
 simp only [h1,if_false]
 refine Prod.ext ?_ ?_
 ·cases lo with
  | none=>rfl
  | some v=>exact YC v n 0
 ·cases hi with
  | none=>rfl
  | some v=>exact YC v n n
theorem XI (i j:Nat):cC (i:Int) (j:Int) 1=j - i:=by
 unfold cC
 have h1:(1:Int) > 0:=by omega
 simp only [h1,if_true,lU]
 split <;> omega
theorem slicePart_ {v:aq}{o:Option Int}{Q:Option Int->ax->Prop}(p:gS v o)(h:Q o s):aL (aN prog w) A (Builtin.Slice.slicePartIndex v) Q E s:=by
 cases p with
 | none=>exact slicePart_none h
 | int i t=>exact slicePart_int h
variable {vl vu:aq} {lo hi:Option Int}
theorem vz {sl:ay} {n:Nat}{Q:Int × Int × Nat->ax->Prop}(hs:s.heap.IsSliceOf sl vl vu .none)(pl:gS vl lo)(pu:gS vu hi)
  (h:Q (((sIx n 0 lo:Nat):Int),1,sIx n n hi - sIx n 0 lo) s):aL (aN prog w) A (eG (.ref sl) (pure (n:Int))) Q E s:=by
 obtain ⟨os,hos,hcs,hds⟩:=id hs
 unfold eG iT
 refine aw (aw (cY hos hds (x:=vl) rfl (aw (cY hos hds (x:=vu) rfl (aw (cY hos hds (x:=.none) rfl (aJ ?_)))))))
 refine aw (slicePart_none ?_)
 show aL _ _ (if ((1:Int) == 0)=true then _ else _) _ _ s
 rw [if_neg (by decide)]
 refine aw (slicePart_ pl (aw (slicePart_ pu (aw (aJ ?_)))))
 show aL _ _ (match fV lo hi 1 (n:Int) with | (lo,hi)=>pure (lo,(1:Int),cC lo hi 1)) _ _ s
 rw [X1 lo hi n]
 show aL _ _ (pure (((sIx n 0 lo:Nat):Int),(1:Int),cC ((sIx n 0 lo:Nat):Int) ((sIx n n hi:Nat):Int) 1)) _ _ s
 rw [XI]
 exact aJ h
theorem EB (xs:Array aq)(i k:Nat):((bI k).filterMap fun (m:Nat)=>xs[((i:Int)+(m:Int) * 1).toNat]?).toArray=((xs.toList.drop i).take k).toArray:=by
 have e:(fun (m:Nat)=>xs[((i:Int)+(m:Int) * 1).toNat]?)=fun m=>xs[i+m]?:=by
  funext m
  have:((i:Int)+(m:Int) * 1).toNat=i+m:=by omega
  rw [this]
 rw [e]
 have:=pick_run xs i k
 rw [iG] at this
 have e2:((fun x=>xs[x]?) ∘ fun x=>i+x)=fun m=>xs[i+m]?:=rfl
 rw [e2] at this
 rw [this]
theorem getItem_tuple_cut {t sl:ay}{items:Array aq} {Q:aq->ax->Prop}(ht:IsTup s.heap t items)(hs:s.heap.IsSliceOf sl vl vu .none)(pl:gS vl lo)(pu:gS vu hi)
  (hw:¬ (sIx items.size 0 lo=0/\sIx items.size items.size hi=items.size))
  (h:Q (.ref s.heap.objs.size) { s with heap:=s.heap.push { cls:=.type "tuple",data:=.seq ((items.toList.drop (sIx items.size 0 lo)).take (sIx items.size items.size hi - sIx items.size 0 lo)).toArray } })
  (hsz:items.size<=aT):aL (aN prog w) A (lQ (.ref t) (.ref sl)) Q E s:=by
 have htake:sizeOk (.seq ((items.toList.drop (sIx items.size 0 lo)).take (sIx items.size items.size hi - sIx items.size 0 lo)).toArray):=by
  show ((items.toList.drop (sIx items.size 0 lo)).take (sIx items.size items.size hi - sIx items.size 0 lo)).toArray.size<=aT
  rw [aH,bZ,b8,io]
  omega
 have hj:sIx items.size items.size hi<=items.size:=Lf _ _ (aF _) hi
 obtain ⟨os,hos,hcs,hds⟩:=id hs
 have hTs:s.TypeIs (.ref sl) "slice":=⟨os,hos,hcs⟩
 unfold lQ
 try with_reducible refine cQ ?_
 first | refine aw (aJ ?_) | skip
 refine aw (wpAny_sequenceKey ht.typeIs (by decide) ?_)
 refine aw (dY (name:=au "__getitem__") ht.typeIs cu
  (eY cu ht.typeIs entry_tuple_getitem ?_ (args_tuple_getitem _ _)))
 show aL _ _ (iH (.ref t) >>= _) _ _ s
 refine aw (tupleItemsOf_ ht ?_)
 refine aw (iz hTs ?_)
 rw [if_pos (by decide)]
 refine aw (vz hs pl pu ?_)
 have hno:¬ ((((sIx items.size 0 lo:Nat):Int) == 0 && (1:Int) == 1 && (sIx items.size items.size hi - sIx items.size 0 lo) == items.size)=true):=by
  intro q
  rw [cS,cS] at q
  have q1:((sIx items.size 0 lo:Nat):Int)=0:=eq_of_beq q.1.1
  have q2:sIx items.size items.size hi - sIx items.size 0 lo=items.size:=eq_of_beq q.2
  exact hw ⟨by omega,by omega⟩
 show aL _ _ (if (((sIx items.size 0 lo:Nat):Int) == 0 && (1:Int) == 1 && (sIx items.size items.size hi - sIx items.size 0 lo) == items.size)=true then _ else _) _ _ s
 rw [if_neg hno,EB]
 first
  | exact aw (m:=bU _) (bO (aJ ⟨_,rfl,aJ h⟩) htake)
  | exact aw (m:=bU _) (bO (aw (aJ (aJ ⟨_,rfl,aJ h⟩))) htake)
  | exact aw (aw (m:=bU _) (bO (aJ (aJ ⟨_,rfl,aJ h⟩)) htake))
  | exact aw (aw (m:=bU _) (bO (aJ ⟨_,rfl,aJ h⟩) htake))
end
end HT
namespace L2
open PySem PySem.Spec PyProof.Rows
abbrev TO:=St->Hp->(Option Int->Hp->Prop)->Prop
def PO (X:Cx)(e:Option Expr)(t:TO):Prop:=
 ∀ (pins:List (ay × Obj)) (s:ax) (σ:St) (H:Hp) (Q:Option Int->Hp->Prop),Inv X pins σ H s->t σ H Q ->
  aL (aN X.prog X.w) X.A (evalPart e X.env) (fun u s'=>∃ o H',Inv X pins σ H' s'/\gS u o/\Q o H') X.xe s
noncomputable def JF:TO:=fun _ H Q=>Q none H
noncomputable def EI (t:TE):TO:=fun σ H Q=>t σ H fun x H1=>∃ i,x=.int i/\Q (some i) H1
theorem Ye {ns:List Int}:∀ {us:List aq},zz (ns.map V.int) us->lV us ns:=by
 induction ns with
 | nil=>intro us r;rw [gF] at r;cases r;exact .nil
 | cons n ns ih=>
  intro us r
  rw [aX] at r
  cases r with
  | cons r1 r2=>
   obtain ⟨t,e⟩:=r1
   subst e
   exact .cons n t (ih r2)
section
variable {X:Cx}{e:Expr}{te:TE}{lo hi:Option Expr}{tl th:TO}{pos p2:Pos}
theorem jh:PO X none JF:=by
 intro pins s σ H Q I h
 rw [evalPart_none]
 exact aJ ⟨none,H,I,.none,h⟩
theorem qP (h:PE X e te):PO X (some e) (EI te):=by
 intro pins s σ H Q I hw
 rw [evalPart_some]
 refine thn (h pins s σ H _ I hw) fun u s1 ⟨x,H1,I1,r1,q1⟩=>?_
 obtain ⟨i,rfl,q⟩:=q1
 obtain ⟨t,rfl⟩:=r1
 exact ⟨some i,H1,I1,.int i t,q⟩
def SlR (X:Cx)(r:V->Option Int->Option Int->Hp->VK->Prop):Prop:=
 ∀ (pins:List (ay × Obj)) (s:ax) (σ:St) (H:Hp) (x:V) (v vl vu:aq) (lo hi:Option Int) (sl:ay) (Q:VK),Inv X pins σ H s->zE x v->s.heap.IsSliceOf sl vl vu .none->gS vl lo->gS vu hi->r x lo hi H Q ->
  ∃ T id,typeLookup (.type T) "__getitem__"=pure (some (.builtin id))/\s.TypeIs v T/\aL (aN X.prog X.w) X.A (lQ v (.ref sl)) (EP X pins σ Q) X.xe s
noncomputable def tSl (r:V->Option Int->Option Int->Hp->VK->Prop)(te:TE)(tl th:TO):TE:=fun σ H Q=>te σ H fun x H1=>tl σ H1 fun l H2=>th σ H2 fun u H3=>r x l u H3 Q
theorem jl {r:V->Option Int->Option Int->Hp->VK->Prop}(hr:SlR X r)(he:PE X e te)(hl:PO X lo tl)(hu:PO X hi th):PE X (.Subscript e (.Slice lo hi none p2) pos) (tSl r te tl th):=by
 intro pins s σ H Q I h
 refine Subscript_ (thn (he pins s σ H _ I h) fun v s1 ⟨x,H1,I1,r1,q1⟩=>?_)
 refine wpAny_Slice (thn (hl pins s1 σ H1 _ I1 q1) fun vl s2 ⟨l,H2,I2,pl,q2⟩=>thn (hu pins s2 σ H2 _ I2 q2) fun vu s3 ⟨u,H3,I3,pu,q3⟩=>?_)
 rw [evalPart_none]
 refine aJ ?_
 have I4:Inv X pins σ H3 { s3 with heap:=s3.heap.push { cls:=.type "slice",data:=.fields #[vl,vu,.none] } }:=I3.kept (t':=s3.toks) fun b ob q=>aD _ q
 obtain ⟨T,id,hT,ht,hg⟩:=hr pins { s3 with heap:=s3.heap.push { cls:=.type "slice",data:=.fields #[vl,vu,.none] } } σ H3 x v vl vu l u s3.heap.objs.size Q I4 r1 (gk ..) pl pu q3
 show aL (aN X.prog X.w) X.A (hV e (.Slice lo hi none p2) v (.ref s3.heap.objs.size)) (EP X pins σ Q) X.xe { s3 with heap:=s3.heap.push { cls:=.type "slice",data:=.fields #[vl,vu,.none] } }
 exact tail_any (ops:=[.ref s3.heap.objs.size,v]) ht hT hg (by with_unfolding_all rfl)
noncomputable def ZP (xs:List V)(lo hi:Option Int):List V:=(xs.drop (HT.sIx xs.length 0 lo)).take (HT.sIx xs.length xs.length hi - HT.sIx xs.length 0 lo)
theorem vT (xs:List V)(lo hi:Option Int):(ZP xs lo hi).length<=xs.length:=by
 unfold ZP
 rw [bZ,b8]
 omega
noncomputable def OC (K:az):V->Option Int->Option Int->Hp->VK->Prop:=fun x lo hi H Q=>∃ a xs,x=.ref a/\SqT K H a xs /\
 ¬ (HT.sIx xs.length 0 lo=0/\HT.sIx xs.length xs.length hi=xs.length)/\∀ p,H p=none->Q (.ref p) (upd H p (.tup (ZP xs lo hi)))
theorem Yo:SlR X (OC X.K):=by
 intro pins s σ H x v vl vu lo hi sl Q I rx hs pl pu h
 obtain ⟨a,xs,rfl,hx,hw,q⟩:=h
 cases rx
 obtain ⟨its,r,ht,hz⟩:=I.tuple hx
 have hlen:its.toArray.size=xs.length:=by rw [aH];exact r.length.symm
 refine ⟨"tuple",_,cu.lookup,ht.typeIs,?_⟩
 refine HT.getItem_tuple_cut ht hs pl pu (by rw [hlen];exact hw) ?_ (by rw [hlen];exact hz)
 rw [hlen]
 refine ⟨.ref s.heap.objs.size,_,I.laid (t':=s.toks) (o:=.tup (ZP xs lo hi)) (fun b ob q=>aD _ q) (aF _) ?_,rfl,q _ (I.hok.fresh (aF _))⟩
 exact ⟨bf (vT xs lo hi) hz,_,(r.drop (HT.sIx xs.length 0 lo)).take (HT.sIx xs.length xs.length hi - HT.sIx xs.length 0 lo),wt.new _ _⟩
end
noncomputable def ixN (n:Nat)(i:Int):Option Nat:=if 0<=i then (if i<n then some i.toNat else none) else if -(n:Int)<=i then some (i+n).toNat else none
noncomputable def atI {α:Type}(xs:List α)(i:Int):Option α:=(ixN xs.length i).bind fun j=>xs[j]?
variable {n j:Nat}
theorem Vb {i:Int} (h:ixN n i=some j):seqIndex? i n=some j/\j<n/\-(n:Int)<=i/\i<n:=by
 unfold ixN at h
 by_cases h0:0<=i
 ·rw [if_pos h0] at h
  by_cases h1:i<n
  ·rw [if_pos h1] at h
   have e:i.toNat=j:=b9 h
   exact ⟨by rw [mL h0 h1,e],by omega,by omega,h1⟩
  ·rw [if_neg h1] at h;cases h
 ·rw [if_neg h0] at h
  by_cases h1:-(n:Int)<=i
  ·rw [if_pos h1] at h
   have e:(i+n).toNat=j:=b9 h
   exact ⟨by rw [lW (by omega) h1,e],by omega,h1,by omega⟩
  ·rw [if_neg h1] at h;cases h
theorem Jx {α:Type}{xs:List α}{i:Int}{v:α}(h:atI xs i=some v):∃ j,seqIndex? i xs.length=some j/\xs[j]?=some v/\j<xs.length/\-(xs.length:Int)<=i/\i<xs.length:=by
 unfold atI at h
 cases e:ixN xs.length i with
 | none=>rw [e] at h;cases h
 | some j=>
  rw [e] at h
  obtain ⟨h1,h2,h3,h4⟩:=Vb e
  exact ⟨j,h1,h,h2,h3,h4⟩
theorem Gk {α:Type}{xs:List α} {v:α}(h:xs[j]?=some v):atI xs (j:Int)=some v:=by
 have hj:j<xs.length:=(aA.mp h).1
 have e:ixN xs.length (j:Int)=some j:=by
  unfold ixN
  rw [if_pos (by omega),if_pos (by omega)];simp
 unfold atI;rw [e];exact h
theorem JM {α:Type}(xs:List α)(v:α):atI (xs ++ [v]) (-1)=some v:=by
 have hl:(xs ++ [v]).length=xs.length+1:=by simp
 have e:ixN (xs ++ [v]).length (-1)=some xs.length:=by
  unfold ixN
  rw [hl,if_neg (by decide),if_pos (by omega)]
  congr 1
  omega
 unfold atI
 rw [e]
 show (xs ++ [v])[xs.length]?=some v
 simp
def Gb (b:Expr):Prop:=∀ o i,subscripted b false o i=operate [o,i] (lQ o i)
def IxR (X:Cx)(r:R2):Prop:=
 ∀ (value slice:Expr) (pins:List (ay × Obj)) (s:ax) (σ:St) (H:Hp) (x y:V) (v u:aq) (Q:VK),Inv X pins σ H s->zE x v->zE y u->r x y H Q ->
  subscripted slice false v u=operate [v,u] (lQ v u)->aL (aN X.prog X.w) X.A (hV value slice v u) (EP X pins σ Q) X.xe s
def MtR (X:Cx)(id:String)(r:V->List V->Hp->VK->Prop):Prop:=
 ∀ (pins:List (ay × Obj)) (s:ax) (σ:St) (H:Hp) (x:V) (xs:List V) (v:aq) (us:List aq) (Q:VK),Inv X pins σ H s->zE x v->zz xs us->r x xs H Q ->
  aL (aN X.prog X.w) X.A (call (.builtin id) (v :: us)) (EP X pins σ Q) X.xe s
section
variable {X:Cx}{a b:Expr}{ta tb:TE}{pos:Pos}
theorem zv {r:R2}(hr:IxR X r)(ha:PE X a ta)(hb:PE X b tb)(hs:Gb b):PE X (.Subscript a b pos) (tOp r ta tb):=by
 intro pins s σ H Q I h
 exact Subscript_ (NC ha hb I h fun v u s2 x y H2 I2 rx ry q=>hr a b pins s2 σ H2 x y v u Q I2 rx ry q (hs _ _))
noncomputable def FX (K:az):R2:=fun x y H Q=>∃ p xs i v,x=.ref p/\y=.int i/\SqL K H p xs/\atI xs i=some v/\Q v H
noncomputable def MG (K:az):R2:=fun x y H Q=>∃ p xs i v,x=.ref p/\y=.int i/\SqT K H p xs/\atI xs i=some v/\Q v H
theorem qC:IxR X (FX X.K):=by
  intro value slice pins s σ H x y v u Q I rx ry h hs
  obtain ⟨p,xs,i,z,rfl,rfl,hq,he,q⟩:=h
  cases rx
  obtain ⟨t,rfl⟩:=ry
  obtain ⟨its,r,pl,hz⟩:=I.list hq
  obtain ⟨j,h1,h2,h3,h4,h5⟩:=Jx he
  obtain ⟨w,ew,rw'⟩:=r.get h2
  have hl:=r.length
  have hn:=wW
  have fin:EP X pins σ Q w s:=⟨z,H,I,rw',q⟩
  by_cases h0:0<=i
  · have hj : i.toNat = j := by
      rw [mL h0 h5] at h1
      exact b9 h1
    exact item_listR pl.isList h0 (by omega) (by rw [hj];simpa using ew) fin hs
  · have hj : (i + (its.toArray.size : Int)).toNat = j := by
      rw [lW (by omega) h4] at h1
      rw [aH,<- hl]
      exact b9 h1
    exact subscriptTail_builtinR (x:=w) pl.isList.typeIs gG.lookup
      (lX (Q:=fun r s'=>r=w/\EP X pins σ Q r s') pl.isList (by omega) (by rw [aH] <;> omega) (by omega) (by rw [hj];simpa using ew) ⟨rfl,fin⟩) hs
theorem Za:IxR X (MG X.K):=by
 intro value slice pins s σ H x y v u Q I rx ry h hs
 obtain ⟨p,xs,i,z,rfl,rfl,hq,he,q⟩:=h
 cases rx
 obtain ⟨t,rfl⟩:=ry
 obtain ⟨its,r,pl,hz⟩:=I.tuple hq
 obtain ⟨j,h1,h2,h3,h4,h5⟩:=Jx he
 obtain ⟨w,ew,rw'⟩:=r.get h2
 have hl:=r.length
 have hn:=wW
 have fin:EP X pins σ Q w s:=⟨z,H,I,rw',q⟩
 exact subscriptTail_builtinR (x:=w) pl.typeIs slot_tuple_getitem.lookup
  (getItem_tuple (j:=j) (Q:=fun r s'=>r=w/\EP X pins σ Q r s') pl (by omega) (by omega) (by rw [aH,<- hl];exact h1) (by simpa using ew) ⟨rfl,fin⟩) hs
theorem Ys (its:List aq)(n j:Nat)(u:aq):ff (·.setIfInBounds j u) { cls:=.type "list",data:=.seq its.toArray n }={ cls:=.type "list",data:=.seq (its.set j u).toArray n }:=by
 simp [ff]
variable {pins:List (ay × Obj)} {σ:St} {H:Hp} {s:ax} {p:ay} {xs:List V}
theorem Inv.lst (I:Inv X pins σ H s)(h:H p=some (.lst xs)) :
  ∃ (its:List aq) (n:Nat),zz xs its/\s.heap.get? p=some { cls:=.type "list",data:=.seq its.toArray n }/\xs.length<=aT:=by
 obtain ⟨z,its,n,r,e⟩:=I.hok p _ h
 exact ⟨its,n,r,e,z⟩
theorem Inv.lstUpd {xs ys:List V}{its its':List aq}{n n':Nat}{f:Obj->Obj}(I:Inv X pins σ H s)(h:H p=some (.lst xs))
  (ho:s.heap.get? p=some { cls:=.type "list",data:=.seq its.toArray n }) (hf:f { cls:=.type "list",data:=.seq its.toArray n }={ cls:=.type "list",data:=.seq its'.toArray n' }) (r:zz ys its') (hz:ys.length<=aT) (t:Nat) :
  Inv X pins σ (upd H p (.lst ys)) { s with heap:=s.heap.update p f,toks:=t }:=by
 have e:(s.heap.update p f).get? p=some { cls:=.type "list",data:=.seq its'.toArray n' }:=by
  rw [dJ f ho (by rw [hf] <;> rfl),hf]
 refine I.write (x:=p) (e:=p) (by rw [h];trivial) (.inl rfl) (fun b u hb q=>(ej _ _ (Ne.symm hb)).trans q) ⟨_,e⟩ ?_
 exact ⟨hz,its',n',r,e⟩
noncomputable def HV:V->V->V->Hp->(Hp->Prop)->Prop:=fun o i v H Q=>∃ p xs k j,o=.ref p/\i=.int k/\H p=some (.lst xs)/\ixN xs.length k=some j/\Q (upd H p (.lst (xs.set j v)))
theorem BX:FZ X HV:=by
  intro pins s σ H o i v ov iv u Q I ro ri rv h
  obtain ⟨p,xs,k,j,rfl,rfl,hp,hj,q⟩:=h
  cases ro
  obtain ⟨t,rfl⟩:=ri
  obtain ⟨its,n,r,ho,hz⟩:=I.lst hp
  obtain ⟨h1,h2,h3,h4⟩:=Vb hj
  have hl:=r.length
  have hn:=wW
  have I':Inv X pins σ (upd H p (.lst (xs.set j v))) { s with heap:=s.heap.update p (ff (·.setIfInBounds j u)) }:=
    I.lstUpd hp ho (Ys its n j u) (r.set rv j) (by rw [bp];exact hz) s.toks
  by_cases h0:0<=k
  · have hk : k.toNat = j := by
      rw [mL h0 h4] at h1
      exact b9 h1
    exact PySem.W.ki_setAt ho h0 (by omega) (by rw [aH,<- hl];exact h4) (by rw [hk];exact ⟨_,I',q⟩)
  · have hk : (k + (its.toArray.size : Int)).toNat = j := by
      rw [lW (by omega) h3] at h1
      rw [aH,<- hl]
      exact b9 h1
    exact PySem.W.ki_setBack ho (by omega) (by rw [aH,<- hl];exact h3) (by omega) (by rw [hk];exact ⟨_,I',q⟩)
theorem Jt (lo hi:Option Int)(n:Nat):(bH lo hi none n).1=((HT.sIx n 0 lo:Nat):Int)/\(bH lo hi none n).2.1=((HT.sIx n n hi:Nat):Int)/\(bH lo hi none n).2.2=1:=by
 refine ⟨?_,?_,rfl⟩
 ·cases lo with
  | none=>simp [bH,HT.sIx]
  | some i=>
   simp only [bH,HT.sIx,n8,show (1:Int) > 0 by decide,if_true]
   by_cases h:i<0
   ·simp only [h,if_true] <;> omega
   ·simp only [h,if_false] <;> omega
 ·cases hi with
  | none=>simp [bH,HT.sIx]
  | some i=>
   simp only [bH,HT.sIx,n8,show (1:Int) > 0 by decide,if_true]
   by_cases h:i<0
   ·simp only [h,if_true] <;> omega
   ·simp only [h,if_false] <;> omega
theorem ZR (its:List aq)(lo hi:Option Int):lG its.toArray lo hi none=((its.drop (HT.sIx its.length 0 lo)).take (HT.sIx its.length its.length hi - HT.sIx its.length 0 lo)).toArray:=by
 obtain ⟨h1,h2,h3⟩:=Jt lo hi its.toArray.size
 unfold lG
 rw [h1,h2,h3]
 simp only [sliceRange_one,pick_run,aH] <;> rfl
noncomputable def G2 (K:az):V->Option Int->Option Int->Hp->VK->Prop:=fun x lo hi H Q=>∃ a xs,x=.ref a/\SqL K H a xs/\∀ p,H p=none->Q (.ref p) (upd H p (.lst (ZP xs lo hi)))
theorem xO:SlR X (G2 X.K):=by
 intro pins s σ H x v vl vu lo hi sl Q I rx hs pl pu h
 obtain ⟨a,xs,rfl,hx,q⟩:=h
 cases rx
 obtain ⟨its,r,ht,hz⟩:=I.list hx
 have hlen:=r.length
 refine ⟨"list",_,gG.lookup,ht.isList.typeIs,?_⟩
 refine fZ ht.isList hs pl pu .none (by simp) ?_ (by rw [aH] <;> omega)
 rw [ZR,<- hlen]
 refine ⟨.ref s.heap.objs.size,_,I.laid (t':=s.toks) (o:=.lst (ZP xs lo hi)) (fun b ob q=>aD _ q) (aF _) ?_,rfl,q _ (I.hok.fresh (aF _))⟩
 exact ⟨bf (vT xs lo hi) hz,_,0,(r.drop (HT.sIx xs.length 0 lo)).take (HT.sIx xs.length xs.length hi - HT.sIx xs.length 0 lo),aS _ rfl⟩
noncomputable def kW:V->Bool
 | .non=>true
 | .bl _=>true
 | .int _=>true
 | .str _=>true
 | _=>false
noncomputable def eqV:V->V->Bool
 | .non,.non=>true
 | .bl a,.bl b=>a == b
 | .bl a,.int b=>(if a then 1 else 0) == b
 | .int a,.bl b=>a == (if b then 1 else 0)
 | .int a,.int b=>a == b
 | .str a,.str b=>a == b
 | _,_=>false
theorem Nu {A:bt}{s:ax}{y x:V}{u v:aq}(ry:zE y u)(rx:zE x v)(fy:kW y=true)(fx:kW x=true):bX A s u v (eqV y x):=by
 cases y with
 | non=>
  cases ry
  cases x with
  | non=>cases rx;exact bX.same _
  | bl b=>cases rx;exact bX.none_bool b
  | int b=>obtain ⟨t,rfl⟩:=rx;exact bX.none_int b t
  | str b=>obtain ⟨t,rfl⟩:=rx;exact bX.none_str b t
  | _=>exact absurd (show false=true from fx) aW
 | bl a=>
  cases ry
  cases x with
  | non=>cases rx;exact bX.bool_none a
  | bl b=>cases rx;exact bX.bool_bool a b
  | int b=>obtain ⟨t,rfl⟩:=rx;exact bX.bool_int a b t
  | str b=>obtain ⟨t,rfl⟩:=rx;exact bX.bool_str a b t
  | _=>exact absurd (show false=true from fx) aW
 | int a=>
  obtain ⟨t',rfl⟩:=ry
  cases x with
  | non=>cases rx;exact bX.int_none a t'
  | bl b=>cases rx;exact bX.int_bool a t' b
  | int b=>obtain ⟨t,rfl⟩:=rx;exact bX.int_int a t' b t
  | str b=>obtain ⟨t,rfl⟩:=rx;exact bX.int_str a t' b t
  | _=>exact absurd (show false=true from fx) aW
 | str a=>
  obtain ⟨t',rfl⟩:=ry
  cases x with
  | non=>cases rx;exact bX.str_none a t'
  | bl b=>cases rx;exact bX.str_bool a t' b
  | int b=>obtain ⟨t,rfl⟩:=rx;exact bX.str_int a t' b t
  | str b=>obtain ⟨t,rfl⟩:=rx;exact bX.str_str a t' b t
  | _=>exact absurd (show false=true from fx) aW
 | _=>exact absurd (show false=true from fy) aW
noncomputable def eqU (x:V)(u:aq):Bool:=match u with
 | .none=>eqV .non x
 | .bool b=>eqV (.bl b) x
 | .int i _=>eqV (.int i) x
 | .str z _=>eqV (.str z) x
 | _=>false
theorem XG {x y:V}{u:aq}(r:zE y u)(f:kW y=true):eqU x u=eqV y x:=by
 cases y with
 | non=>cases r;rfl
 | bl b=>cases r;rfl
 | int i=>obtain ⟨t,rfl⟩:=r;rfl
 | str z=>obtain ⟨t,rfl⟩:=r;rfl
 | _=>exact absurd (show false=true from f) aW
theorem Zs {A:bt}{s:ax}{x:V}{v:aq}(rx:zE x v)(fx:kW x=true):∀ {xs:List V} {us:List aq},zz xs us->xs.all kW=true->∀ u ∈ us,bX A s u v (eqU x u)
 | _,_,.nil,_=>fun u hu=>by cases hu
 | y :: xs,u :: us,.cons r t,f=>fun u' hu=>by
  rw [eS,cS] at f
  rcases aO.mp hu with rfl | hu
  ·rw [XG r f.1];exact Nu r rx f.1 fx
  ·exact Zs rx fx t f.2 u' hu
theorem zp:ju X (.builtin "len") (fun xs H Q=>∃ p ys,xs=[.ref p]/\(SqL X.K H p ys \/ SqT X.K H p ys)/\Q (.int ys.length) H):=by
 intro pins s σ H xs us Q I r h
 obtain ⟨p,ys,rfl,hq,q⟩:=h
 obtain ⟨u,rfl,rx⟩:=ki r
 cases rx
 have hn:=wW
 rcases hq with hq | hq
 ·obtain ⟨its,r',pl,hz⟩:=I.list hq
  have hlen:=r'.length
  exact Calls.call_len_list pl.isList (by simp only [aH] <;> omega) ⟨.int ys.length,H,I.tok _,⟨s.toks+1,by rw [aH,hlen]⟩,q⟩
 ·obtain ⟨its,r',pl,hz⟩:=I.tuple hq
  have hlen:=r'.length
  exact len_tuple pl (by simp only [aH] <;> omega) ⟨.int ys.length,H,I.tok _,⟨s.toks+1,by rw [aH,hlen]⟩,q⟩
theorem jK:ju X (.type "list") (fun xs H Q=>∃ p ys,xs=[.ref p]/\(SqL X.K H p ys \/ SqT X.K H p ys)/\∀ l,H l=none->Q (.ref l) (upd H l (.lst ys))):=by
 intro pins s σ H xs us Q I r h
 obtain ⟨p,ys,rfl,hq,q⟩:=h
 obtain ⟨u,rfl,rx⟩:=ki r
 cases rx
 have fin:∀ (its:List aq),zz ys its->ys.length<=aT->∀ (h':Heap) (c':Nat),(∀ b o',s.heap.get? b=some o'->h'.get? b=some o') ->
   h'.get? s.heap.objs.size=some { cls:=.type "list",dict:=none,data:=.seq its.toArray c',slots:=#[] }->EP X pins σ Q (.ref s.heap.objs.size) { s with heap:=h' }:=fun its r' hz h' c' kp e=>
  ⟨.ref s.heap.objs.size,_,I.laid (t':=s.toks) kp (aF _) (show zV X.prog X.w _ h' _ (.lst ys) from ⟨hz,its,c',r',e⟩),rfl,q _ (I.hok.fresh (aF _))⟩
 rcases hq with hq | hq
 ·obtain ⟨its,r',pl,hz⟩:=I.list hq
  have hlen:=r'.length
  obtain ⟨o,ho,hc,n,hd⟩:=pl.isList
  exact call_list_seq p (.inl rfl) ho hc hd (fun h' c' kp e=>fin its r' hz h' c' kp e) (by simp only [aH] <;> omega)
 ·obtain ⟨its,r',pl,hz⟩:=I.tuple hq
  have hlen:=r'.length
  obtain ⟨o,ho,hc,n,hd⟩:=pl
  exact call_list_seq p (.inr rfl) ho hc hd (fun h' c' kp e=>fin its r' hz h' c' kp e) (by simp only [aH] <;> omega)
theorem jt:ju X (.type "tuple") (fun xs H Q=>∃ p ys,xs=[.ref p]/\((SqL X.K H p ys/\∀ l,H l=none->Q (.ref l) (upd H l (.tup ys))) \/ (SqT X.K H p ys/\Q (.ref p) H))):=by
 intro pins s σ H xs us Q I r h
 obtain ⟨p,ys,rfl,h⟩:=h
 obtain ⟨u,rfl,rx⟩:=ki r
 cases rx
 rcases h with ⟨hq,q⟩ | ⟨hq,q⟩
 ·obtain ⟨its,r',pl,hz⟩:=I.list hq
  have hlen:=r'.length
  refine call_tuple_list pl.isList (fun h' kp=>?_) (by simp only [aH] <;> omega)
  have I1:Inv X pins σ H { s with heap:=h' }:=I.kept (t':=s.toks) kp
  have I2:Inv X pins σ (upd H h'.objs.size (.tup ys)) { s with heap:=h'.push { cls:=.type "tuple",data:=.seq its.toArray } }:=
   I1.laid (t':=s.toks) (fun b o e=>aD _ e) (aF _) (show zV X.prog X.w _ _ _ (.tup ys) from ⟨hz,its,r',wt.new _ _⟩)
  exact ⟨.ref h'.objs.size,_,I2,rfl,q _ (I1.hok.fresh (aF _))⟩
 ·obtain ⟨its,r',pl,hz⟩:=I.tuple hq
  exact call_tuple_same pl ⟨.ref p,H,I,rfl,q⟩
def tyV (K:az)(T:String)(x:V)(H:Hp):Prop:=match x with
  | .str _=>T="str"
  | .int _=>T="int"
  | .ref p => (T = "list" /\ ∃ xs, SqL K H p xs) \/ (T = "tuple" /\ ((∃ xs, Rd H p (.tup xs)) \/ ∃ o, K.lookup p = some o /\ o.cls = .type "tuple" /\ o.dict = none)) \/
      (T="dict"/\((∃ kvs,H p=some (.dK kvs)) \/ ∃ kvs,H p=some (.dT kvs))) \/ (T="set"/\∃ S n,H p=some (.set S n))
  | _=>False
theorem DB {pins : List (ay × Obj)}{σ : St}{H : Hp}{s : ax}{T : String}{x : V}{v : aq}(I : Inv X pins σ H s)(r : zE x v)(ty : tyV X.K T x H) :
    s.TypeIs v T/\∀ a,v=.ref a->∃ ob,s.heap.get? a=some ob/\ob.dict=none:=by
  cases x with
  | str z=>
    obtain ⟨t,rfl⟩:=r
    cases (show T="str" from ty)
    exact ⟨typeIs_str s z t,fun _ e=>nomatch e⟩
  | int i=>
    obtain ⟨t,rfl⟩:=r
    cases (show T="int" from ty)
    exact ⟨typeIs_int s i t,fun _ e=>nomatch e⟩
  | ref p=>
    cases r
    rcases ty with ⟨rfl,xs,hq⟩ | ⟨rfl,⟨xs,hx⟩ | ⟨o,hk,hc,hd⟩⟩ | ⟨rfl,hk⟩ | ⟨rfl,S,n,hk⟩
    · obtain ⟨its,_,pl,_⟩:=I.list hq
      refine ⟨pl.isList.typeIs,fun a e=>?_⟩
      cases e
      obtain ⟨o,n,e,c,hd,_⟩:=pl
      exact ⟨o,e,hd⟩
    · obtain ⟨_,its,_,o,e,c,_,hd⟩:=hx.ok I.hok
      refine ⟨⟨o,e,c⟩,fun a e2=>?_⟩
      cases e2
      exact ⟨o,e,hd⟩
    · refine ⟨⟨o,I.kIn p o hk,hc⟩,fun a e=>?_⟩
      cases e
      exact ⟨o,I.kIn _ o hk,hd⟩
    · have z : ∃ o, s.heap.get? p = some o /\ o.ExactDict := by
        rcases hk with ⟨kvs,hk⟩ | ⟨kvs,hk⟩
        · obtain ⟨_,_,_,_,o,_,_,e,ex,_⟩:=I.hok p _ hk
          exact ⟨o,e,ex⟩
        · obtain ⟨_,_,_,_,o,_,_,e,ex,_⟩:=I.hok p _ hk
          exact ⟨o,e,ex⟩
      obtain ⟨o,e,ex⟩:=z
      refine ⟨⟨o,e,ex.1⟩,fun a e2=>?_⟩
      cases e2
      exact ⟨o,e,ex.2.1⟩
    · obtain ⟨o,_,_,_,e,ex,_⟩:=I.hok p _ hk
      refine ⟨⟨o,e,ex.1⟩,fun a e2=>?_⟩
      cases e2
      exact ⟨o,e,ex.2.1⟩
  | _=>exact ca ty
noncomputable def LQ (K:az)(T:String)(r:V->List V->Hp->VK->Prop)(to:TE):TE:=fun σ H Q=>to σ H fun x H1=>tyV K T x H1/\r x [] H1 Q
noncomputable def tBM (K:az)(T:String)(r:V->List V->Hp->VK->Prop)(to:TE)(t:TA):TE:=fun σ H Q=>to σ H fun x H1=>tyV K T x H1/\t σ H1 fun xs H2=>r x xs H2 Q
variable {o e:Expr}{es:List Expr}{to:TE}{t:TA}{name:Str}{apos cpos:Pos}{T id:String}{r:V->List V->Hp->VK->Prop}
theorem LJ (pa:PlainAttrs T)(slot:Slot T name id)(hty:typeOf (.builtin id)=pure (.type "method_descriptor"))(hm:MtR X id r)(ho:PE X o to)
  (hbase:eD o name X.env (eval o X.env)=eval o X.env:=by rfl) (hline:(apos.endLine == cpos.line)=true:=by rfl):PE X (.Call (.Attribute o name apos) [] [] cpos) (LQ X.K T r to):=by
 intro pins s σ H Q I h
 refine wpAny_Call_method0_late hbase hline (thn (ho pins s σ H _ I h) fun v s1 ⟨x,H1,I1,r1,ty,q1⟩=>?_)
 obtain ⟨h1,h2⟩:=DB I1 r1 ty
 exact ⟨T,id,pa,slot,hty,h1,h2,gH rfl (PySem.evalArgs_none (hm pins s1 σ H1 x [] v [] Q I1 r1 .nil q1))⟩
theorem kl (pa:PlainAttrs T)(slot:Slot T name id)(hty:typeOf (.builtin id)=pure (.type "method_descriptor"))(hm:MtR X id r)(ho:PE X o to)(ha:PA X (e :: es) t)
  (hbase:eD o name X.env (eval o X.env)=eval o X.env:=by rfl)
  (hfew:((cH cpos (aV (e :: es) X.env)).all (fun x=>!x.1) && (fY cpos (eE [] X.env)).all (fun x=>x.1.isSome)
   && decide ((e :: es).length+([]:List i9).length+(if ([]:List i9).isEmpty then 0 else 1)<30))=true:=by rfl)
  (hline:(apos.endLine == cpos.line)=true:=by rfl) (hs:aV (e :: es) X.env=(false,eval e X.env) :: aV es X.env:=by rfl) (hplain:(cH cpos (aV es X.env)).any (·.1)=false:=by rfl) :
  PE X (.Call (.Attribute o name apos) (e :: es) [] cpos) (tBM X.K T r to t):=by
 intro pins s σ H Q I h
 refine wpAny_Call_method_late hbase hfew hline rfl (thn (ho pins s σ H _ I h) fun v s1 ⟨x,H1,I1,r1,ty,q1⟩=>?_)
 obtain ⟨h1,h2⟩:=DB I1 r1 ty
 refine ⟨T,id,pa,slot,hty,h1,h2,?_⟩
 have hA:=ha cpos pins s1 σ H1 _ I1 q1
 rw [hs] at hA ⊢
 refine gH (by show (false || (cH cpos (aV es X.env)).any (·.1))=false;rw [hplain] <;> rfl) (fM ?_)
 exact thn hA fun us s2 ⟨vs,H2,I2,r2,q2⟩=>hm pins s2 σ H2 x vs v us Q I2 r1 r2 q2
end
def MtM (X:Cx)(id:String)(r:V->List V->Hp->VK->Prop):Prop:=
 ∀ (pins:List (ay × Obj)) (s:ax) (σ:St) (H:Hp) (x:V) (xs:List V) (v:aq) (us:List aq) (Q:VK),Inv X pins σ H s->zE x v->zz xs us->r x xs H Q ->
  aL (aN X.prog X.w) X.A (call (.builtin id) (v :: us)) (EP X pins σ Q) X.xe s
theorem zz.one:∀ {x:V} {us:List aq},zz [x] us->∃ u,us=[u]/\zE x u
 | _,_,.cons r .nil=>⟨_,rfl,r⟩
theorem zz.zero:∀ {us:List aq},zz [] us->us=[]
 | _,.nil=>rfl
theorem zz.dropLast {xs:List V}{us:List aq}(h:zz xs us):zz xs.dropLast us.dropLast:=by
 induction h with
 | nil=>exact .nil
 | cons r t ih=>
  cases t with
  | nil=>exact .nil
  | cons q t'=>exact .cons r ih
theorem zz.rep {xs:List V}{us:List aq}(h:zz xs us):∀ k:Nat,zz (aG k xs).flatten (aG k us).flatten
 | 0=>.nil
 | k+1=>by
  rw [dG,dG,dE,dE]
  exact zz.append h (zz.rep h k)
theorem Xl {α:Type}(l:List α):l.eraseIdx (l.length - 1)=l.dropLast:=by
 induction l with
 | nil=>rfl
 | cons a r ih=>
  cases r with
  | nil=>rfl
  | cons b r=>
   have e:(a :: b :: r).length - 1=((b :: r).length - 1)+1:=by
    have h1:(a :: b :: r).length=r.length+2:=rfl
    have h2:(b :: r).length=r.length+1:=rfl
    omega
   rw [e,List.eraseIdx_cons_succ,ih]
   all_goals rfl
theorem Qn (its:List aq):∀ (k:Nat) (acc:List aq),
  oJ (fun x1 x2=>x1 ++ x2) acc.toArray (aG k its.toArray)=(acc ++ (aG k its).flatten).toArray
 | 0,acc=>by simp
 | k+1,acc=>by
  have e:acc.toArray ++ its.toArray=(acc ++ its).toArray:=by simp
  have e2:(acc ++ its) ++ (aG k its).flatten=acc ++ (aG (k+1) its).flatten:=by
   rw [dG,dE,lf]
  rw [<- e2,<- Qn its k (acc ++ its),<- e,dG,eN]
section
variable {X:Cx}{pins:List (ay × Obj)}{σ:St}{H:Hp}{s:ax}{l b:ay}{xs ys zs:List V}
variable {t':Nat}
theorem Inv.lset {its its':List aq} {f:Array aq->Array aq} (I:Inv X pins σ H s)(hH:H l=some (.lst xs))
  (e:s.heap.get? l=some { cls:=.type "list",data:=.seq its.toArray n }) (hf:f its.toArray=its'.toArray) (hv:zz ys its') (hz:ys.length<=aT) :
  Inv X pins σ (upd H l (.lst ys)) { s with heap:=s.heap.update l (ff f),toks:=t' }:=by
 have q:=PySem.IsL.update e f
 rw [hf] at q
 refine I.write (x:=l) (e:=l) (by rw [hH];exact trivial) (.inl rfl) (fun b' u hb hu=>(ej s.heap (ff f) (Ne.symm hb)).trans hu) ⟨_,q⟩ ?_
 exact ⟨hz,its',_,hv,q⟩
theorem Inv.lnew {its:List aq} (I:Inv X pins σ H s)(hv:zz ys its)(hz:ys.length<=aT) :
  Inv X pins σ (upd H s.heap.objs.size (.lst ys)) { s with heap:=s.heap.push { cls:=.type "list",data:=.seq its.toArray },toks:=t' }:=
 I.laid (fun _ _ q=>aD _ q) (aF _) ⟨hz,its,0,hv,aS _ rfl⟩
theorem Inv.fresh (I:Inv X pins σ H s):H s.heap.objs.size=none:=I.hok.fresh (aF _)
theorem Inv.lstM (I:Inv X pins σ H s)(hH:H l=some (.lst xs)):xs.length<=aT/\∃ (its:List aq) (n:Nat),zz xs its/\xs.length=its.length/\s.heap.get? l=some { cls:=.type "list",data:=.seq its.toArray n }:=by
 obtain ⟨z,its,n,r,e⟩:=I.hok l _ hH
 exact ⟨z,its,n,r,r.length,e⟩
theorem KF (h:n<=aT):eT n=false:=by
 unfold eT
 exact decide_eq_false (by omega)
end
section
variable {X:Cx}
noncomputable def wc:V->List V->Hp->VK->Prop:=fun x vs H Q=>∃ l xs y,x=.ref l/\vs=[y]/\H l=some (.lst xs)/\xs.length<aT/\Q .non (upd H l (.lst (xs ++ [y])))
theorem vg:MtM X "list.append" wc:=by
 intro pins s σ H x vs v us Q I rx rv h
 obtain ⟨l,xs,y,rfl,rfl,hH,hz,q⟩:=h
 cases rx
 obtain ⟨u,rfl,ru⟩:=rv.one
 obtain ⟨z,its,n,r,hl,e⟩:=I.lstM hH
 refine gT F.slot_list_append ⟨_,e,rfl⟩ F.entry_list_append (F.args_list_append_2 _ _) (PySem.list_append l its.toArray n u (by rw [aH];omega)) ⟨e,?_⟩
 refine ⟨.non,_,I.lset (its':=its ++ [u]) hH e (by simp) (r.append (.cons ru .nil)) ?_,rfl,q⟩
 rw [bg,List.length_singleton]
 omega
noncomputable def wo:V->List V->Hp->VK->Prop:=fun x vs H Q=>∃ l b xs zs,x=.ref l/\vs=[.ref b]/\H l=some (.lst xs)/\H b=some (.lst zs)/\xs.length+zs.length<=aT/\Q .non (upd H l (.lst (xs ++ zs)))
theorem Af:MtM X "list.extend" wo:=by
 intro pins s σ H x vs v us Q I rx rv h
 obtain ⟨l,b,xs,zs,rfl,rfl,hH,hB,hz,q⟩:=h
 cases rx
 obtain ⟨u,rfl,ru⟩:=rv.one
 cases ru
 obtain ⟨z,its,n,r,hl,e⟩:=I.lstM hH
 obtain ⟨z2,its2,n2,r2,hl2,e2⟩:=I.lstM hB
 have hsz:its.toArray.size+its2.toArray.size<=aT:=by rw [aH,aH];omega
 have hlong:¬ (!its.toArray.isEmpty && eT (its.toArray.size+its2.toArray.size))=true:=by
  rw [KF hsz,gI]
  exact aW
 refine gT F.slot_list_extend ⟨_,e,rfl⟩ F.entry_list_extend (F.args_list_extend_2 _ _)
  (AutoSeq1.list_extend_list_list_0 l its.toArray n b its2.toArray n2 hlong (by rw [aH];omega) (by omega)) ⟨e,e2,?_⟩
 refine ⟨.non,_,I.lset (its':=its ++ its2) hH e (by simp) (r.append r2) ?_,rfl,q⟩
 rw [bg]
 omega
noncomputable def Ly:V->List V->Hp->VK->Prop:=fun x vs H Q=>∃ l xs y,x=.ref l/\vs=[]/\H l=some (.lst xs)/\xs[xs.length - 1]?=some y/\Q y (upd H l (.lst xs.dropLast))
theorem NS:MtM X "list.pop" Ly:=by
 intro pins s σ H x vs v us Q I rx rv h
 obtain ⟨l,xs,y,rfl,rfl,hH,hy,q⟩:=h
 cases rx
 have hus:=rv.zero
 subst hus
 obtain ⟨z,its,n,r,hl,e⟩:=I.lstM hH
 obtain ⟨u,hu,ru⟩:=r.get hy
 have hy':its.toArray[its.toArray.size - 1]?=some u:=by
  show its.toArray[its.length - 1]?=some u
  rw [<- Array.getElem?_toList,<- hl]
  exact hu
 refine gT F.slot_list_pop ⟨_,e,rfl⟩ F.entry_list_pop (F.args_list_pop_1 _) (MeetsSeq.list_pop_last l its.toArray n u hy' (by rw [aH];omega)) ⟨e,?_⟩
 refine ⟨y,_,I.lset (its':=its.dropLast) hH e ?_ r.dropLast ?_,ru,q⟩
 ·show its.toArray.eraseIdxIfInBounds (its.toArray.size - 1)=its.dropLast.toArray
  rw [aH,List.eraseIdxIfInBounds_toArray,Xl]
 ·rw [mM]
  omega
noncomputable def Nw:R2:=fun x y H Q=>∃ l b xs zs,x=.ref l/\y=.ref b/\H l=some (.lst xs)/\H b=some (.lst zs)/\xs.length+zs.length<=aT/\∀ p,H p=none->Q (.ref p) (upd H p (.lst (xs ++ zs)))
theorem BN:OpR X (hZ .Add) Nw:=by
 intro pins s σ H x y v u Q I rx ry h
 obtain ⟨l,b,xs,zs,rfl,rfl,hH,hB,hz,q⟩:=h
 cases rx
 cases ry
 obtain ⟨z,its,n,r,hl,e⟩:=I.lstM hH
 obtain ⟨z2,its2,n2,r2,hl2,e2⟩:=I.lstM hB
 refine PySem.P.add_list e e2 ?_ (by rw [aH,aH];omega)
 have ea:its.toArray ++ its2.toArray=(its ++ its2).toArray:=by simp
 rw [ea]
 exact ⟨.ref _,_,I.lnew (t':=s.toks) (r.append r2) (by rw [bg];omega),rfl,q _ I.fresh⟩
noncomputable def Hj:R2:=fun x y H Q=>∃ l k xs,x=.ref l/\y=.int k/\H l=some (.lst xs)/\-(2 ^ 63)<=k/\k<2 ^ 63/\xs.length * k.toNat<=aT /\
 ∀ p,H p=none->Q (.ref p) (upd H p (.lst (aG k.toNat xs).flatten))
theorem FH {α:Type}(xs:List α)(k:Nat):(aG k xs).flatten.length=k * xs.length:=by
 induction k with
 | zero=>simp
 | succ k ih=>rw [dG,dE,bg,ih,Nat.succ_mul,nR]
theorem Zi:OpR X (hZ .Mult) Hj:=by
 intro pins s σ H x y v u Q I rx ry h
 obtain ⟨l,k,xs,rfl,rfl,hH,h1,h2,hz,q⟩:=h
 cases rx
 obtain ⟨t,rfl⟩:=ry
 obtain ⟨z,its,n,r,hl,e⟩:=I.lstM hH
 have hlen:its.toArray.size * k.toNat<=aT:=by rw [aH,<- hl];exact hz
 have hcap:¬ its.toArray.size * k.toNat > (2 ^ 63 - 1) / 8:=by
  have:(aT:Nat)<=(2 ^ 63 - 1) / 8:=by decide
  omega
 have hfit:¬ (!Builtin.List.listFitsIndex k)=true:=by
  rw [fitsIndex_both h1 h2]
  exact aW
 have hlong:¬ eT (its.toArray.size * k.toNat)=true:=by
  rw [KF hlen]
  exact aW
 have hnew:oJ (fun x1 x2=>x1 ++ x2) #[] (aG (if its.toArray.isEmpty=true then 0 else k.toNat) its.toArray)=(aG k.toNat its).flatten.toArray:=by
  have f0:∀ m:Nat,oJ (fun x1 x2=>x1 ++ x2) #[] (aG m its.toArray)=(aG m its).flatten.toArray:=fun m=>by
   have:=Qn its m []
   rw [List.nil_append] at this
   exact this
  rw [f0]
  cases its with
  | nil=>simp
  | cons a r'=>rw [if_neg (by simp)]
 refine wpAny_binaryOp_repeat_ref (T:="list") (U:="int") (by decide) ⟨_,e,rfl⟩ (fun s'=>typeIs_int s' k t) noFill_list_mul F.fills_int_mul F.slot_int_rmul repeat_list F.slot_int_index.lookup
  (gT F.slot_int_rmul (typeIs_int s k t) F.entry_int_rmul (F.args_int_rmul_2 _ _) (int___rmul___int_list k t l its.toArray n)
   ⟨e,rfl,⟨_,e,rfl⟩,gT F.slot_list_mul ⟨_,e,rfl⟩ F.entry_list_mul (F.args_list_mul_2 _ _) (AutoListH.list___mul___list_int_3 l its.toArray n k t hfit hcap hlong) ⟨e,?_⟩⟩)
 rw [hnew]
 exact ⟨.ref _,_,I.lnew (t':=s.toks) (r.rep k.toNat) (by rw [FH,Nat.mul_comm];exact hz),rfl,q _ I.fresh⟩
end
section
variable {prog:ba}{w:bE}{A:bt}{E:aq->ax->Prop}{s:ax}
end
section
variable {X:Cx}
end
end L2
namespace Att
open PySem PySem.W PySem.Calls PyProof.Rows
theorem vZ {P:Params}{h:Heap}:∀ (ns:List Int) (vs:List aq),WellAll P h vs (ns.map WData.int)->lV vs ns:=by
 intro ns
 induction ns with
 | nil=>
  intro vs w
  rw [gF] at w
  cases w
  exact .nil
 | cons n ns ih=>
  intro vs w
  rw [aX] at w
  cases w with
  | cons a b=>
   cases a
   exact .cons _ _ (ih _ b)
theorem V6 {l:OpenLaw}{n:Nat}(hn:l.most=some n){P:Params}{h:Heap}{args:List WData}{vals:List aq}
  (hpre:l.row.toRowW.claim.pre args=true) (hwl:WellAll P h vals args) :
  ∃ a vs ns,vals=[aq.ref a]/\args=[WData.list (ns.map WData.int)]/\h.get? a=some { cls:=.type "list",data:=.seq vs.toArray }/\lV vs ns/\ns.length<=n:=by
 have hsh:WShape.hasAll [] args [.list .int]=true:=(pre_splitW hpre).1
 have hc:l.pre.holds [] { args:=args }=true:=(pre_splitW hpre).2
 obtain ⟨d,r,rfl,h1,h2⟩:=hasAllW_cons hsh
 obtain rfl:=hasAllW_nil h2
 obtain ⟨xs,rfl,h3⟩:=hasW_list h1
 obtain ⟨ns,rfl⟩:=items_int h3
 have hlen:ns.length<=n:=by
  unfold OpenLaw.pre at hc
  have h4:(WTm.not (.lt (.lit (.int (n:Int))) (.len (.arg 0)))).holds [] { args:=[.list (ns.map .int)] }=true:=by
   have h4:=(holds_andW hc).1
   rw [hn] at h4
   exact h4
  have h5:=condW_of h4 (w_not (w_lt w_lit (w_len_list (w_arg rfl))))
  rw [am] at h5
  refine Nat.le_of_not_lt fun q=>?_
  have q':(n:Int)<((ns.length:Nat):Int):=by omega
  first
   | (rw [decide_eq_true q'] at h5;exact absurd h5 (by decide))
   | (simp at h5;omega)
 cases hwl with
 | cons w1 w2=>
  cases w2
  cases w1 with
  | list ho hall=>exact ⟨_,_,ns,rfl,rfl,ho,vZ ns _ hall,hlen⟩
theorem W4 (l:OpenLaw)(args:List WData):l.row.toRowW.claim.post args (.bool true) args=true:=
 postW_of (r:=l.row.toRowW) (X:=(true == true))
  (show WShape.has [] (.bool true) .bool=true by first | rfl | decide | simp [WShape.has,WShape.arms,WShape.armsAll])
  (show (WTm.eq .res (.lit (.bool true))).value [] { args:=args,res:=some (.bool true),after:=args }=some (.bool (true == true)) from w_eq_bool (w_res rfl) w_lit) rfl
theorem attach_call {l:OpenLaw}{n:Nat}{q:ba}{loose:List Str}{XP:(Str->Option aq)->Heap->Prop}{YP:bE->Heap->Prop}{d:DefRec}
  (hn:l.most=some n) (hdf:d.params.defaults=[])
  (call:∀ (w:bE) (s₀ s₁:ax) (mg mb:Str->Option aq) (fa:ay) (o:Obj) (pm cd doc:aq) (a:ay) (vs:List aq) (ns:List Int),
   Ground q loose [] XP w s₀ mg mb s₁.heap->YP w s₁.heap ->
   s₁.heap.get? fa=some o->o.data=.func (docDef d.name d.params d.body d.scope pm cd doc)->s₁.heap.CodeRec cd d.name->mg d.name=some (.ref fa) ->
   s₁.heap.get? a=some { cls:=.type "list",data:=.seq vs.toArray }->lV vs ns->ns.length<=n->s₁.gens=#[] ->
   dX (aN l.prog w) m7 (.call (.ref fa) ⟨[.ref a],[]⟩) (fun r s'=>r=.ok (.ret (.bool true))/\OldK s₁.heap s'.heap/\s'.os=s₁.os/\iw s'.gens) s₁) :
  WalkO q loose XP YP l.row.toRowW d [] (fun f vs=>oK f vs):=by
 intro w s₀ s₁ mg mb G Y fa o pm cd doc dV kV ho hd hcd hD hmg hg args vals as hpre hlay hrd hwl hlo
 obtain rfl:dV=.none:=Dflts.none hD hdf
 obtain rfl:kV=.none:=Dflts.noKw hD
 obtain ⟨a,vs,ns,rfl,rfl,hobj,hints,hlen⟩:=V6 hn hpre hwl
 refine enter_call (e9 (call w s₀ s₁ mg mb fa o pm cd doc a vs ns G Y ho (fd_plain hd) hcd hmg hobj hints hlen hg) fun r s' hq=>?_)
 obtain ⟨rfl,h2,h3,h4⟩:=hq
 exact ⟨.inl ⟨.bool true,.bool true,[],rfl,fun _=>rfl,.bool true,W4 l _,fun _=>⟨dM.nil,fun _ hm=>(nomatch hm)⟩⟩,h2,h3,h4⟩
section
variable {prog:ba}{w:bE}{A:bt}{E:aq->ax->Prop}{s:ax}{K:Frag}
noncomputable def Pi (h:Heap)(L d:ay):List (ay × Obj):=(bI h.objs.size).filterMap fun a=>if a=L \/ a=d then none else (h.get? a).map fun o=>(a,o)
end
end Att
namespace L2
open PySem PySem.Spec PyProof.Rows
theorem vB:∀ {vs:List aq} {ns:List Int},lV vs ns->zz (ns.map V.int) vs
 | _,_,.nil=>.nil
 | _,_,.cons n t h=>.cons ⟨t,rfl⟩ (vB h)
def LN (H:Hp):Prop:=∀ b,H b=none \/ ∃ o xs,H b=some (.frz o (.lst xs))
theorem Dr {P:ba}{w:bE}{K:az}{mg mb:Str->Option aq}{CX:CXT}{k:Nat}{fa a:ay}{fd:dz}{x:Str}{sp:Sp}{s₁:ax}{vs:List aq}{ns:List Int}
  (KX:K.In s₁.heap) (hns:s₁.heap.Ns bz mg) (hb:s₁.heap.Ns builtinsNs mb) (hbb:∀ x:Str,x ≠ "__name__"->mb x=bY x) (hlim:s₁.heap.NoLimit) (hg:s₁.gens=#[])
  (ha:s₁.heap.get? a=some { cls:=.type "list",data:=.seq vs.toArray }) (hi:lV vs ns) (hl:ns.length<=aT) (hr:qm k m7)
  (F:∀ base:Heap,K.In base->base.Ns bz mg->jx P w K mg base CX k fa fd [x] sp) (hbind:∀ (s:ax) (u:aq),lS s fd ⟨[u],[]⟩ [(x,u)])
  (hsp:∀ H:Hp,LN H->SqL K H a (ns.map V.int)->sp [.ref a] H (fun v _=>v=.bl true) fun _ _ _=>False)
  (hCX:∀ H e s',CX [] H s₁ (fun _ _ _=>False) e s'->False) :
  dX (aN P w) m7 (.call (.ref fa) ⟨[.ref a],[]⟩) (fun r s'=>r=.ok (.ret (.bool true))/\OldK s₁.heap s'.heap/\s'.os=s₁.os/\iw s'.gens) s₁:=by
 have rv:=vB hi
 have lenV:=hi.length
 have core:∀ H:Hp,LN H->SqL K H a (ns.map V.int)->HOk P w H s₁.heap->(∀ b,H b ≠ none->b=a)->(H a ≠ none->K.lookup a=none) ->
   dX (aN P w) m7 (.call (.ref fa) ⟨[.ref a],[]⟩) (fun r s'=>r=.ok (.ret (.bool true))/\OldK s₁.heap s'.heap/\s'.os=s₁.os/\iw s'.gens) s₁:=by
  intro H hO hS hok hA hK
  have base_of:∀ {b:ay} {o:Obj},s₁.heap.get? b=some o->H b=none->(QR s₁.heap H).get? b=some o:=fun e n=>A3 e n
  have noA:∀ {b:ay} {o:Obj} {es:Array DictEntry} {ep:Nat},s₁.heap.get? b=some o->o.data=.dict es ep->H b=none:=fun {b o es ep} e d=>by
   cases q:H b with
   | none=>rfl
   | some u=>
    have e':b=a:=hA b (by rw [q];simp)
    subst e'
    rw [ha] at e;cases e
    have d':Data.seq vs.toArray _=Data.dict es ep:=d
    cases d'
  have nsK:∀ {b:ay} {m:Str->Option aq},s₁.heap.Ns b m->(QR s₁.heap H).Ns b m:=fun {b m} ⟨o,es,ep,e,d,r⟩=>⟨o,es,ep,base_of e (noA e d),d,r⟩
  have hKb:K.In (QR s₁.heap H):=fun b o e=>base_of (KX b o e) (by
   cases q:H b with
   | none=>rfl
   | some u=>
    have e':b=a:=hA b (by rw [q];simp)
    subst e'
    rw [hK (by rw [q];simp)] at e;cases e)
  have hM:Mod K mg (QR s₁.heap H):=⟨hKb,nsK hns,⟨mb,nsK hb,hbb⟩,let ⟨mc,h1,h2⟩:=hlim;⟨mc,nsK h1,h2⟩⟩
  have e0:QY P w K mg (QR s₁.heap H) m7 [] s₁ H:=⟨rfl,hM,fun b o e=>Hi e,nN (Ac _ _),trivial,fun b hb=>absurd (show b ∈ ([]:List ay) from hb) (by simp),hok,.of_eq hg⟩
  refine e9 ((F _ hKb (nsK hns)).run m7 [] s₁ H ⟨[.ref a],[]⟩ [.ref a] [.ref a] _ _ hr e0 (hbind s₁ (.ref a)) (.cons rfl .nil) (hsp H hO hS)) fun r s' h=>?_
  cases r with
  | error e=>exact (hCX H e s' h).elim
  | ok fl=>
   cases fl with
   | next=>exact ca h
   | brk=>exact ca h
   | cont=>exact ca h
   | ret u=>
    obtain ⟨v,H',os,bare,un,hok',r',q⟩:=h
    have q':v=.bl true:=q
    subst q'
    obtain rfl:u=aq.bool true:=r'
    refine ⟨rfl,OldK.of_keep fun b o e=>?_,os,bare⟩
    cases q:H b with
    | none=>exact un.keep b o e q (by intro z;exact absurd (show b ∈ ([]:List ay) from z) (by simp)) (by simp)
    | some u=>
     rcases hO b with z | ⟨ob,xs,z⟩
     ·rw [q] at z;cases z
     ·have z2:=un.frzs b ob _ z
      obtain ⟨e1,_⟩:=hok b _ z
      obtain ⟨e2,_⟩:=hok' b _ z2
      rw [e] at e1;cases e1
      exact e2
 cases hk:K.lookup a with
 | some o=>
  have e:=KX a o hk
  rw [ha] at e
  cases e
  refine core (fun _=>none) (fun _=>.inl rfl) (.inr ⟨_,vs.toArray,_,hk,rfl,rfl,rfl,by rw [aH,lenV];exact hl,by simpa using rv⟩) (fun b u z=>by have z':(none:Option HO)=some u:=z;cases z') (fun b z=>absurd rfl z) fun z=>absurd rfl z
 | none=>
  refine core (fun b=>if b=a then some (.frz { cls:=.type "list",data:=.seq vs.toArray } (.lst (ns.map V.int))) else none) (fun b=>?_) (.inl (.inr ⟨{ cls:=.type "list",data:=.seq vs.toArray },if_pos rfl⟩)) (fun b u z=>?_) (fun b z=>?_) fun _=>hk
  ·by_cases hb:b=a
   ·exact .inr ⟨_,_,if_pos hb⟩
   ·exact .inl (if_neg hb)
  ·by_cases hb:b=a
   ·have z':=(if_pos hb).symm.trans z
    cases z'
    subst hb
    exact ⟨ha,by rw [am];exact hl,vs,_,rv,ha⟩
   ·have z':=(if_neg hb).symm.trans z
    cases z'
  ·by_cases hb:b=a
   ·exact hb
   ·exact absurd (if_neg hb) z
noncomputable abbrev KOf {K:az}{h:Heap}(_:K.In h):az:=K
theorem walk_of {l:PySem.W.OpenLaw}{n k:Nat}{q:ba}{loose:List Str}{XP:(Str->Option aq)->Heap->Prop}{YP:bE->Heap->Prop}{d:DefRec}{K:Params->az}{CX:bE->CXT}{sp:bE->Sp}{x:Str}
  (hn:l.most=some n) (hn2:n<=aT) (hdf:d.params.defaults=[]) (hr:qm k m7)
  (hY:∀ (w:bE) (h:Heap),YP w h->(K w.params).In h)
  (F:∀ (w:bE) (mg:Str->Option aq) (fa:ay) (h:Heap),(K w.params).In h->h.Ns bz mg->mg d.name=some (.ref fa) ->
   ∃ fd:dz,(∀ (s:ax) (u:aq),lS s fd ⟨[u],[]⟩ [(x,u)]) /\
    ∀ base:Heap,(K w.params).In base->base.Ns bz mg->jx l.prog w (K w.params) mg base (CX w) k fa fd [x] (sp w))
  (hsp:∀ (w:bE) (H:Hp) (a:ay) (ns:List Int),ns.length<=n->LN H->SqL (K w.params) H a (ns.map V.int)->sp w [.ref a] H (fun v _=>v=.bl true) fun _ _ _=>False)
  (hCX:∀ (w:bE) (H:Hp) (s:ax) (e:aq) (s':ax),CX w [] H s (fun _ _ _=>False) e s'->False) :
  PySem.W.WalkO q loose XP YP l.row.toRowW d [] (fun f vs=>oK f vs):=by
 refine Att.attach_call hn hdf fun w s₀ s₁ mg mb fa o pm cd doc a vs ns G Y ho hd hcd hmg hobj hints hlen hg=>?_
 have KX:=hY w _ Y
 obtain ⟨fd,hb,hF⟩:=F w mg fa _ KX G.T.g hmg
 exact Dr KX G.T.g G.T.b G.T.builtins G.T.nolimit hg hobj hints (bf hlen hn2) hr hF hb (fun H hO hS=>hsp w H a ns hlen hO hS) fun H e s'=>hCX w H s₁ e s'
end L2
namespace L2
open PySem PySem.Spec PyProof.Rows
noncomputable def qF (s:cJ)(j:Nat):cJ:=match s with
 | .ClassDef _ _ _ body _ _ _ _ _ _ _=>body.getD j (.Pass ⟨0,0,0,0⟩)
 | _=>.Pass ⟨0,0,0,0⟩
noncomputable def qq (s:cJ):Arguments:=match s with
 | .FunctionDef _ a _ _ _ _ _ _ _ _=>a
 | _=>{ posonlyargs:=[],args:=[],vararg:=none,kwonlyargs:=[],kw_defaults:=[],kwarg:=none,defaults:=[] }
noncomputable def zN (s:cJ):List cJ:=match s with
 | .FunctionDef _ _ b _ _ _ _ _ _ _=>b
 | _=>[]
noncomputable def zd (s:cJ):Scope:=match s with
 | .FunctionDef _ _ _ _ _ _ sc _ _ _=>sc
 | _=>{ kind:=.function,names:=[],isGenerator:=false,isCoroutine:=false }
noncomputable abbrev CX0:CXT:=fun _ _ _ _ _ _=>False
noncomputable abbrev E0:XK:=fun _ _ _=>False
theorem Y3 {X:Cx}:xh CX0 X E0:=fun _ _ _ _ _ _ _ h=>h.elim
structure Fun (K:az)(x qual:Str)(st:cJ)(f:ay)(fd:dz):Prop where
 ex:∃ (oc:aq) (od:Option ay) (kV doc pm:aq) (an:Option ay) (cdv ct:aq) (osl:Array (Option aq)),
  fd=b7 x qual (qq st) (zN st) (zd st) .none kV doc pm an cdv ct/\K.lookup f=some ⟨oc,od,.func fd,osl⟩/\fL K cdv qual=true
 kp:dv K (.ref f)=true
section
variable {P:ba}{w:bE}{K:az}{mg:Str->Option aq}{base:Heap}
variable {st:cJ} {f:ay} {fd:dz}
theorem Fun.ok {x qual:Str} {N ps:List Str}{k:Nat}{sp:Sp}(F:Fun K x qual st f fd)(S:zn N ps (zd st))(len:∀ vs H Q E,sp vs H Q E->vs.length=ps.length)
  (hbody:∀ (cdv:aq) (A:bt) (outer:List Env) (s:ax) (H:Hp) (vs:List V) (Q:VK) (E:XK),qm k (A.deeper (fK qual (zd st) s.heap.objs.size f cdv))->sp vs H Q E ->
   ∃ t,PSs (jF CX0 P w K mg base N qual (zd st) f cdv A outer s H E).nox (zN st) t/\t { nx:=fun _ H'=>Q .non H',rt:=Q } (qB N vs) H):jx P w K mg base CX0 (k+1) f fd ps sp:=by
 obtain ⟨oc,od,kV,doc,pm,an,cdv,ct,osl,rfl,lk,hcd⟩:=F.ex
 refine Bi lk hcd S len fun A outer s H vs Q E hr hsp=>?_
 obtain ⟨t,h,q⟩:=hbody cdv A outer s H vs Q E hr hsp
 exact ⟨t,h.nox,q⟩
theorem Fun.binds {x qual:Str} {ps:List Str}(F:Fun K x qual st f fd)
  (h:∀ (kV doc pm:aq) (an:Option ay) (cdv ct:aq) (us:List aq),us.length=ps.length->fm (b7 x qual (qq st) (zN st) (zd st) .none kV doc pm an cdv ct) ⟨us,[]⟩=pure (ps.zip us)):jv K fd ps []:=by
 obtain ⟨oc,od,kV,doc,pm,an,cdv,ct,osl,rfl,lk,hcd⟩:=F.ex
 exact .all (h kV doc pm an cdv ct)
theorem fun_mk {x qual:Str} {oc:aq}{od an:Option ay}{osl:Array (Option aq)}{kV doc pm cdv ct:aq}(l:K.lookup f=some ⟨oc,od,.func (b7 x qual (qq st) (zN st) (zd st) .none kV doc pm an cdv ct),osl⟩)
  (c:fL K cdv qual=true) (k:dv K (.ref f)=true):Fun K x qual st f (b7 x qual (qq st) (zN st) (zd st) .none kV doc pm an cdv ct):=⟨⟨oc,od,kV,doc,pm,an,cdv,ct,osl,rfl,l,c⟩,k⟩
end
theorem Ar {n:Nat}(h:n<=1000):n<aT:=fg h (by decide)
section
variable {X:Cx}
theorem pv (i:Nat){x:Str}{pos:Pos}(hN:X.N[i]?=some x:=by rfl)(hv:Vis X.env.scope x:=by first | exact bq rfl | exact bu (bq rfl) | exact bu (bu rfl))(hd:(x == ("__debug__":Str))=false:=by decide)
  (hcd:(x == ("__classdict__":Str))=false:=by decide):PE X (.Name x pos) (ZC i):=LL hN hv hd hcd
end
theorem EX {c A B:Prop}[Decidable c](h1:c->A)(h2:¬ c->B):if c then A else B:=by
 by_cases h:c
 ·rw [if_pos h]
  exact h1 h
 ·rw [if_neg h]
  exact h2 h
section
variable {κ:Type}[DecidableEq κ]
noncomputable def wZ (kvs:List (κ × V))(k:κ):Option V:=(kvs.find? fun kv=>decide (kv.1=k)).map (·.2)
variable {p:κ × V} {r:List (κ × V)} {k:κ}
theorem BC (e:p.1=k):wZ (p :: r) k=some p.2:=by simp [wZ,gg,e]
theorem A2 (e:¬ p.1=k):wZ (p :: r) k=wZ r k:=by simp [wZ,gg,e]
theorem yu.getD {o:Option V}{u:Option aq}{d:V}{d':aq}(r:yu o u)(rd:zE d d'):zE (o.getD d) (u.getD d'):=by
 cases o with
 | none=>cases u with
  | none=>exact rd
  | some _=>exact (show False from r).elim
 | some _=>cases u with
  | none=>exact (show False from r).elim
  | some _=>exact r
theorem KV.val {kvs:List (κ × V)}{vs:List (κ × aq)}(r:KV kvs vs)(k:κ):yu (wZ kvs k) (nS vs k):=by
 unfold KV at r
 induction r with
 | nil=>exact True.intro
 | @cons p q ps qs h t ih=>
  obtain ⟨h1,h2⟩:=h
  by_cases e:p.1=k
  ·have e':q.1=k:=h1.symm.trans e
   have b:nS (q :: qs) k=some q.2:=by simp [nS,gg,e']
   rw [BC e,b];exact h2
  ·have e':¬ q.1=k:=fun z=>e (h1.trans z)
   have b:nS (q :: qs) k=nS qs k:=by simp [nS,gg,e']
   rw [A2 e,b];exact ih
end
theorem Oj {P:ba}{w:bE}{k:Key}{u:aq}(r:zE (kV k) u):(jL P w).is k u=true:=by
 cases k with
 | inl i=>obtain ⟨t,e⟩:=(show ∃ t,u=aq.int i t from r);subst e;exact K5 P w i t
 | inr x=>obtain ⟨t,e⟩:=(show ∃ t,u=aq.str x t from r);subst e;exact Kv P w x t
section
variable {P:ba}{w:bE}{H:Hp}{h:Heap}{a:ay}
end
section
variable {X:Cx}{pins:List (ay × Obj)}{σ:St}{H:Hp}{s:ax}{a:ay}{y v:V}{u r:aq}{o:Option V}{A:bt}{E:aq->ax->Prop}
end
section
variable {X:Cx}{pins:List (ay × Obj)}{σ:St}{H:Hp}{s:ax}{a:ay}{kvs:List (Key × V)}{k:Key}{u:aq}{A:bt}{E:aq->ax->Prop}
end
section
variable {X:Cx}{o i e value:Expr}{pos pos' tpos:Pos}{td ty tv:TE}
end
section
variable {X:Cx}{pos:Pos}
end
structure M1 (X:Cx)(o:Expr)(m:Str)(apos:Pos)(e:Expr)(cpos:Pos):Prop where
 base:eD o m X.env (eval o X.env)=eval o X.env
 few:((cH cpos (aV [e] X.env)).all (fun x=>!x.1) && (fY cpos (eE [] X.env)).all (fun x=>x.1.isSome)
  && decide (([e]:List Expr).length+([]:List i9).length+(if ([]:List i9).isEmpty then 0 else 1)<30))=true
 line:(apos.endLine == cpos.line)=true
 trees:cH cpos (aV [e] X.env)=[(false,eval e X.env)]
structure M2 (X:Cx)(o:Expr)(m:Str)(apos:Pos)(e f:Expr)(cpos:Pos):Prop where
 base:eD o m X.env (eval o X.env)=eval o X.env
 few:((cH cpos (aV [e,f] X.env)).all (fun x=>!x.1) && (fY cpos (eE [] X.env)).all (fun x=>x.1.isSome)
  && decide (([e,f]:List Expr).length+([]:List i9).length+(if ([]:List i9).isEmpty then 0 else 1)<30))=true
 line:(apos.endLine == cpos.line)=true
 trees:cH cpos (aV [e,f] X.env)=[(false,eval e X.env),(false,eval f X.env)]
section
variable {X:Cx}{pins:List (ay × Obj)}{σ:St}{H:Hp}{s:ax}{a:ay}{y d:V}{u r:aq}{o:Option V}{A:bt}{E:aq->ax->Prop}
end
section
variable {X:Cx}{o e f:Expr}{apos cpos:Pos}{td ty tx:TE}
end
section
variable {X:Cx}{pins:List (ay × Obj)}{σ:St}{H:Hp}{s:ax}{a:ay}{kvs:List (Key × V)}{A:bt}{E:aq->ax->Prop}
end
section
variable {X:Cx}{pins:List (ay × Obj)}{σ:St}{H:Hp}{s:ax}{a:ay}{y:V}{u:aq}{A:bt}{E:aq->ax->Prop}
end
section
variable {κ:Type}[DecidableEq κ]
end
end L2
set_option Elab.async false
set_option linter.all false
set_option maxRecDepth 100000
set_option maxHeartbeats 4000000
namespace L2
open PySem PySem.Spec PyProof.Rows
noncomputable def Yk (N:List Str)(ts:List Nat)(sc:Scope)(kind:Str->Option cr):Bool:=
 sc.kind == .function && sc.names.all (fun y=>y.2 != .cell && (y.2 != .local || sc.names.lookup y.1 == some .local) && (y.2 != .free || kind y.1 == some .cell || kind y.1 == some .free)) &&
  N.zipIdx.all (fun p=>sc.names.lookup p.1 != some .local || ts.contains p.2)
noncomputable def je (cells:List (Str × ay)):List (Str × cr)->List (Str × ay)->List (Str × ay)
 | [],acc=>acc
 | (n,k) :: r,acc=>je cells r (if k=.free then (n,(cells.lookup n).getD 0) :: acc else acc)
theorem Jz {env:Env}:∀ (names:List (Str × cr)) (acc:List (Str × ay)),(∀ y ∈ names,y.2=.free->∃ c,env.cells.lookup y.1=some c) ->
  (forIn names acc fun (x:Str × cr) (cs:List (Str × ay))=>(match x with | (name,kind)=>if (kind == cr.free)=true then (do let c <- cellOf env name;pure (d8 ((name,c) :: cs))) else pure (d8 cs):Sem (ForInStep (List (Str × ay)))))=pure (je env.cells names acc)
 | [],acc,_=>rfl
 | (n,k) :: r,acc,h=>by
  rw [List.forIn_cons]
  by_cases hk:k=.free
  ·subst hk
   obtain ⟨c,hc⟩:=h (n,.free) bJ rfl
   have e1:cellOf env n=pure c:=by unfold cellOf;rw [hc]
   simp only [beq_self_eq_true,if_true,e1,pure_bind]
   rw [Jz r _ fun y hy=>h y (aZ _ hy)]
   show _=pure (je env.cells r (if cr.free=.free then _ else _))
   rw [if_pos rfl,hc];rfl
  ·have hb:(k == cr.free)=false:=by simpa using hk
   simp only [hb,gn,if_false,pure_bind]
   rw [Jz r _ fun y hy=>h y (aZ _ hy)]
   show _=pure (je env.cells r (if k=.free then _ else _))
   rw [if_neg hk]
theorem vk {cells : List (Str × ay)} : ∀ (names : List (Str × cr)) (acc : List (Str × ay)), (∀ y ∈ names, y.2 = .free -> ∃ c, cells.lookup y.1 = some c) -> (∀ x c, acc.lookup x = some c -> cells.lookup x = some c) ->
    (∀ x c,(je cells names acc).lookup x=some c->cells.lookup x=some c)/\(∀ x c,acc.lookup x=some c->∃ c',(je cells names acc).lookup x=some c')/\∀ y ∈ names,y.2=.free->∃ c,(je cells names acc).lookup y.1=some c
  | [],acc,_,h2=>⟨h2,fun x c e=>⟨c,e⟩,fun y hy=>nomatch hy⟩
  | (n,k) :: r,acc,h1,h2=>by
    by_cases hk:k=.free
    · subst hk
      obtain ⟨c,hc⟩:=h1 (n,.free) bJ rfl
      have hc:cells.lookup n=some c:=hc
      have e:je cells ((n,.free) :: r) acc=je cells r ((n,c) :: acc):=by
        show je cells r (if cr.free=.free then _ else _)=_
        rw [if_pos rfl,hc];rfl
      rw [e]
      obtain ⟨q1,q2,q3⟩:=vk (cells:=cells) r ((n,c) :: acc) (fun y hy=>h1 y (aZ _ hy)) (fun x c' e'=>by
        rw [cT] at e'
        cases hx:x == n with
        | true => rw [hx] at e'; have : x = n := by simpa using hx
                  subst this;cases e';exact hc
        | false=>rw [hx] at e';exact h2 x c' e')
      refine ⟨q1,fun x c' e'=>?_,fun y hy hf=>?_⟩
      · cases hx:x == n with
        | true=>exact q2 x c (by rw [cT,hx])
        | false=>exact q2 x c' (by rw [cT,hx];exact e')
      · rcases aO.mp hy with rfl | hy
        · exact q2 n c (by rw [cT,beq_self_eq_true])
        · exact q3 y hy hf
    · have e : je cells ((n, k) :: r) acc = je cells r acc := by
        show je cells r (if k=.free then _ else _)=_
        rw [if_neg hk]
      rw [e]
      obtain ⟨q1,q2,q3⟩:=vk (cells:=cells) r acc (fun y hy=>h1 y (aZ _ hy)) h2
      refine ⟨q1,q2,fun y hy hf=>?_⟩
      rcases aO.mp hy with rfl | hy
      · exact absurd hf hk
      · exact q3 y hy hf
variable {scope:Scope} {env:Env}
theorem wD (h:∀ y ∈ scope.names,y.2=.free->∃ c,env.cells.lookup y.1=some c) :
  ∃ cl,closureFor scope env=pure cl/\(∀ x c,cl.lookup x=some c->env.cells.lookup x=some c)/\∀ y ∈ scope.names,y.2=.free->∃ c,cl.lookup y.1=some c:=by
 obtain ⟨q1,_,q3⟩:=vk (cells:=env.cells) scope.names [] h (fun x c e=>nomatch e)
 refine ⟨je env.cells scope.names [],?_,q1,q3⟩
 unfold closureFor
 have:=Jz (env:=env) scope.names [] h
 first
  | exact this
  | (simp only [bind_pure];exact this)
  | (refine Eq.trans ?_ this;simp)
theorem yQ {env:Env}:∀ {names:List (Str × cr)} {x:Str},(names.map fun (n,k)=>if (k == cr.free && env.scope.kind == .function && env.kindOf n == some .cell) then (n,cr.cell) else (n,k)).lookup x =
  (names.lookup x).map fun k=>if (k == cr.free && env.scope.kind == .function && env.kindOf x == some .cell) then cr.cell else k
 | [],_=>rfl
 | (n,k) :: r,x=>by
  have ih:=@yQ env r x
  rw [aX]
  cases hx:x == n with
  | true=>
   have e:x=n:=by simpa using hx
   subst e
   rw [cT (as:=r),beq_self_eq_true]
   show dH x ((if (k == cr.free && env.scope.kind == .function && env.kindOf x == some .cell)=true then (x,cr.cell) else (x,k)) :: _)=some _
   by_cases hc:(k == cr.free && env.scope.kind == .function && env.kindOf x == some .cell)=true
   ·rw [if_pos hc,cT,beq_self_eq_true];dsimp only;rw [if_pos hc]
   ·rw [if_neg hc,cT,beq_self_eq_true];dsimp only;rw [if_neg hc]
  | false=>
   rw [cT (as:=r),hx]
   show dH x ((if (k == cr.free && env.scope.kind == .function && env.kindOf n == some .cell)=true then (n,cr.cell) else (n,k)) :: _)=_
   by_cases hc:(k == cr.free && env.scope.kind == .function && env.kindOf n == some .cell)=true
   ·rw [if_pos hc,cT,hx];exact ih
   ·rw [if_neg hc,cT,hx];exact ih
noncomputable abbrev cxC (X:Cx)(scope:Scope)(cl:List (Str × ay))(s:ax)(H:Hp)(fp:List ay):Cx:=
 { X with s₀:=s,H₀:=H,env:=compEnvC scope cl s.heap.objs.size X.env,outer:=X.stack,ex:=fp,fn:=fun _=>false,pn:=[],xe:=fun _ _=>False }
noncomputable def clr:List Nat->St->St
 | [],σ=>σ
 | j :: r,σ=>clr r (σ.set j none)
theorem YH:∀ (ts:List Nat) (σ:St),(clr ts σ).length=σ.length
 | [],_=>rfl
 | j :: r,σ=>by show (clr r (σ.set j none)).length=_;rw [YH r];simp
theorem KJ:∀ (ts:List Nat) (σ:St) (i:Nat) (v:V),(clr ts σ)[i]?=some (some v)->i ∉ ts/\σ[i]?=some (some v)
 | [],_,_,_,h=>⟨by simp,h⟩
 | j :: r,σ,i,v,h=>by
  obtain ⟨h1,h2⟩:=KJ r (σ.set j none) i v h
  by_cases e:j=i
  ·subst e
   rw [bj] at h2
   simp at h2
  ·rw [dR e] at h2
   exact ⟨by simp [h1,Ne.symm e],h2⟩
structure ScF (X:Cx)(ts:List Nat)(scope:Scope):Prop where
 kind:scope.kind=.function
 cell:∀ y ∈ scope.names,y.2 ≠ .cell
 loc:∀ y ∈ scope.names,y.2=.local->scope.names.lookup y.1=some .local
 free:∀ y ∈ scope.names,y.2=.free->X.env.kindOf y.1=some .cell \/ X.env.kindOf y.1=some .free
 ts:∀ (i:Nat) x,X.N[i]?=some x->scope.names.lookup x=some .local->i ∈ ts
variable {X:Cx} {ts:List Nat}
theorem E6 (h:Yk X.N ts scope X.env.kindOf=true):ScF X ts scope:=by
  unfold Yk at h
  simp only [cS,fP,bne_iff_ne,ne_eq,Bool.or_eq_true,beq_iff_eq] at h
  obtain ⟨⟨h1,h2⟩,h3⟩:=h
  refine ⟨h1,fun y hy=>(h2 y hy).1.1,fun y hy e=>?_,fun y hy e=>?_,fun i x e1 e2=>?_⟩
  · rcases (h2 y hy).1.2 with z | z
    · exact absurd e z
    · exact z
  · rcases (h2 y hy).2 with (z | z) | z
    · exact absurd e z
    · exact .inl z
    · exact .inr z
  · have hm : (x, i) ∈ X.N.zipIdx := by
      rw [List.mem_zipIdx_iff_getElem?];exact e1
    rcases h3 _ hm with z | z
    · exact absurd e2 z
    · simpa using z
section
variable {X:Cx}{ts:List Nat}{scope:Scope}{pins:List (ay × Obj)}{σ:St}{H:Hp}{s:ax}{fp:List ay}
theorem Zw (I:Inv X pins σ H s)(S:ScF X ts scope)(hf:∀ b ∈ fp,yg X pins H b)(hfl:∀ b ∈ fp,b<s.heap.objs.size){cl:List (Str × ay)}(c1:∀ x c,cl.lookup x=some c->X.env.cells.lookup x=some c)
  (c2:∀ y ∈ scope.names,y.2=.free->∃ c,cl.lookup y.1=some c) {h1:Heap} {t1:Nat} (hns:h1.Ns s.heap.objs.size (fun x=>([]:List (Str × aq)).reverse.lookup x))
  (hk:∀ b o,s.heap.get? b=some o->h1.get? b=some o):Inv (cxC X scope cl s H fp) [] (clr ts σ) H { s with heap:=h1,toks:=t1 }:=by
 have hlk:∀ x,(nT scope X.env).names.lookup x=(scope.names.lookup x).map fun k=>if (k == cr.free && X.env.scope.kind == .function && X.env.kindOf x == some .cell) then cr.cell else k:=fun x=>yQ
 have cfree:∀ x,((nT scope X.env).names.lookup x=some .cell \/ (nT scope X.env).names.lookup x=some .free)->(x,cr.free) ∈ scope.names:=fun x hx=>by
  rw [hlk] at hx
  cases e:scope.names.lookup x with
  | none=>rw [e] at hx;rcases hx with hx | hx <;> cases hx
  | some k=>
   have hm:=mem_of_lookup_some e
   cases k with
   | free=>exact hm
   | cell=>exact absurd rfl (S.cell _ hm)
   | «local»=>rw [e] at hx;rcases hx with hx | hx <;> cases hx
   | globalExplicit=>rw [e] at hx;rcases hx with hx | hx <;> cases hx
   | globalImplicit=>rw [e] at hx;rcases hx with hx | hx <;> cases hx
 have ccell:∀ x c,cl.lookup x=some c->∃ v,s.heap.IsCell c v:=fun x c e=>I.cell x c (c1 x c e)
 have fpne:∀ b ∈ fp,b ∉ frs X.stack:=fun b hb z=>by
  obtain ⟨_,f1,f2,_⟩:=hf b hb
  rcases aO.mp (I.stkSub b z) with e | e
  ·exact f1 e
  ·exact f2 e
 refine ⟨⟨I.ok.mod,S.kind,I.ok.glob,I.ok.blt,aF _,fun x y c e1 e2=>I.ok.inj x y c (c1 x c e1) (c1 y c e2),fun x hx=>c2 (x,.free) (cfree x hx) rfl,(fun x c hx=>nomatch hx),I.ok.hd,I.ok.frames,.inl rfl,fun b hb=>⟨bw (hfl b hb),fun x c e=>(hf b hb).2.2.2.2.1 x c (c1 x c e)⟩,
  I.bs,bf I.ok.bsz I.sz,fun b o e hb=>?_,fpne,I.stack,I.stkFree⟩,rfl,I.bare,Un.kept hk,⟨_,hns,fun i x v e1 e2 e3=>?_⟩,fun x c e=>?_,I.hok.fresh (aF _),fun x c e=>I.freeC x c (c1 x c e),fun p hp=>absurd hp (by simp),I.hok.kept hk,by rw [YH];exact I.len⟩
 ·rcases (hf b hb).2.2.2.1 with z | z
  ·exact I.ok.noex b o e z
  ·exact absurd (bA (aM e) (bf I.ok.bsz z)) (de _)
 ·obtain ⟨nt,e2⟩:=KJ ts σ i v e2
  have e3':(nT scope X.env).names.lookup x=some .local \/ (nT scope X.env).names.lookup x=some .cell \/ (nT scope X.env).names.lookup x=some .free:=e3
  rcases e3' with z | z
  ·rw [hlk] at z
   cases e:scope.names.lookup x with
   | none=>rw [e] at z;cases z
   | some k=>
    rw [e] at z
    have z':(if (k == cr.free && X.env.scope.kind == .function && X.env.kindOf x == some .cell)=true then cr.cell else k)=.local:=b9 z
    split at z'
    ·cases z'
    ·subst z'
     exact absurd (S.ts i x e1 e) nt
  ·have hm:=cfree x z
   obtain ⟨c,hc⟩:=c2 _ hm rfl
   obtain ⟨m,hn,hl⟩:=I.loc
   have vis:Vis X.env.scope x:=by
    rcases S.free _ hm rfl with q | q
    ·exact .inr (.inl q)
    ·exact .inr (.inr q)
   obtain ⟨u,r,l⟩:=hl i x v e1 e2 vis
   refine ⟨u,r,.inr ⟨z,c,hc,?_⟩⟩
   rcases l with ⟨q,_⟩ | ⟨_,c',hc',hcell⟩
   ·rcases S.free _ hm rfl with q' | q'
    ·rw [q'] at q;cases q
    ·rw [q'] at q;cases q
   ·rw [c1 x c hc] at hc'
    cases hc'
    obtain ⟨o,ho,hd⟩:=hcell
    exact ⟨o,hk _ _ ho,hd⟩
 ·obtain ⟨v,o,ho,hd⟩:=ccell x c e
  exact ⟨v,o,hk _ _ ho,hd⟩
end
section
variable {prog:ba}{w:bE}{A:bt}{R:nD->ax->Prop}{s:ax}
theorem yd {elt target iter : Expr}{ifs : List Expr}{scope : Scope}{pos : Pos}{it acc : aq}{env : Env}(I : Nat -> ax -> Prop)
    (turn:∀ n s,I n s->aL (aN prog w) A (oF it) (fun r s₁=>match r with
      | none=>R (.ok .next) s₁
      | some v => aL (aN prog w) A (gc target it v) (fun _ s₀ => aL (aN prog w) A (mE target env v) (fun _ s₂ =>
          aL (aN prog w) A (forIn ifs true fun c r=>if r=true then do let ok <- isTrue c env (eval c env);pure (d8 ok) else pure (d8 r)) (fun ok s₃=>
            if ok=true then aL (aN prog w) A (eval elt env) (fun x s₄=>
              aL (aN prog w) A (call (.builtin "list.append") [acc,x]) (fun _ s₅=>∃ m,m<n/\I m s₅) (fun _ _=>False) s₄) (fun _ _=>False) s₃
            else ∃ m,m<n/\I m s₃) (fun _ _=>False) s₂) (fun _ _=>False) s₀) (fun _ _=>False) s₁) (fun _ _=>False) s)
    (n:Nat) (h:I n s) :
    dX (aN prog w) A (.compLoop (.ListComp elt [⟨target,iter,ifs,0⟩] scope pos) 0 it acc env) R s:=by
  refine codeAny_loop rfl I (fun n s hI=>?_) n h
  show aL _ A ((compTurn (.ListComp elt [⟨target,iter,ifs,0⟩] scope pos) 0 it acc env).onRaise (fun x=>do gU x env;theTreesLotGoes x)) _ _ s
  refine wpAny_noted ?_
  rw [compTurn_list]
  refine aw (cD (aw (aR (turn n s hI) (fun r s₁ h₁=>?_) fun _ _ h'=>h'.elim)))
  cases r with
  | none=>exact aJ h₁
  | some v=>
    refine aw (aR h₁ (fun _ s₀ h₀=>?_) fun _ _ h'=>h'.elim)
    refine aw (aR h₀ (fun _ s₂ h₂=>aw (aR h₂ (fun ok s₃ h₃=>?_) fun _ _ h'=>h'.elim)) fun _ _ h'=>h'.elim)
    cases ok with
    | false=>exact aJ ⟨rfl,h₃⟩
    | true=>
      exact aw (aw (aR h₃ (fun x s₄ h₄=>aw (aR h₄ (fun _ s₅ h₅=>aJ (aJ ⟨rfl,h₅⟩)) fun _ _ h'=>h'.elim)) fun _ _ h'=>h'.elim))
end
noncomputable def BL:TT:=fun _ H Q=>Q true H
def PIf (X:Cx)(ifs:List Expr)(t:TT):Prop:=
 ∀ (pins:List (ay × Obj)) (s:ax) (σ:St) (H:Hp) (Q:Bool->Hp->Prop),Inv X pins σ H s->t σ H Q ->
  aL (aN X.prog X.w) X.A (forIn ifs true fun c r=>if r=true then do let ok <- isTrue c X.env (eval c X.env);pure (d8 ok) else pure (d8 r)) (TP X pins σ Q) X.xe s
theorem kC:PIf X [] BL:=fun _ _ _ H _ I h=>wpAny_tests_nil ⟨H,I,h⟩
variable {c:Expr} {t:TT}
theorem Jp (h:PT X c t):PIf X [c] t:=fun pins s σ H Q I hq=>wpAny_tests_one (h pins s σ H Q I hq)
noncomputable def K0 (ts:List Nat)(wi:TI)(g:TG)(tt:TT)(te:TE):TE:=fun σ H Q=>wi σ H fun J H1=>∀ D,H1 D=none->∃ W:Nat->Nat->St->Hp->Prop,(∃ m,W 0 m (clr ts σ) (upd H1 D (.lst [])))/\∀ i m τ H2,W i m τ H2 ->
 (J.stop i H2/\Q (.ref D) H2) \/ (J.go i H2/\∃ N:St->Hp->Prop,(∀ τ' H',N τ' H'->∃ m',m'<m/\W (i+1) m' τ' H')/\∀ x H',J.yld i H2 x H'->g x τ H' fun τ2 H3=>tt τ2 H3 fun b H4=>
  if b=true then te τ2 H4 fun v H5=>∃ ys,H5 D=some (.lst ys)/\ys.length<aT/\N τ2 (upd H5 D (.lst (ys ++ [v]))) else N τ2 H4)
section
variable {X:Cx}{ts:List Nat}{scope:Scope}{tg iter elt:Expr}{ifs:List Expr}{wi:TI}{g:TG}{tt:TT}{te:TE}{pos:Pos}
theorem JR (hc:X.calm=true)(hsc:Yk X.N ts scope X.env.kindOf=true)(hi:PI X tg iter wi)(hg:∀ cl s H fp,PG (cxC X scope cl s H fp) tg g)(ht:∀ cl s H fp,PIf (cxC X scope cl s H fp) ifs tt)(he:∀ cl s H fp,PE (cxC X scope cl s H fp) elt te)
  {pins:List (ay × Obj)} {s:ax} {σ:St} {H:Hp} {Q:VK} (I:Inv X pins σ H s) (h:K0 ts wi g tt te σ H Q) {use:Option (aq->Sem Unit)} {Q':aq->ax->Prop}
  (fin:∀ (D C:ay) (H':Hp) (s':ax),Inv X pins σ H' s'->(∃ m,s'.heap.Ns C m)->H' C=none->C ≠ X.env.locals->(∀ x c,X.env.cells.lookup x=some c->c ≠ C)->X.s₀.heap.objs.size<=C->(∀ p ∈ X.pn ++ pins,p.1 ≠ C)->C ∉ X.fs->Q (.ref D) H' ->
   compPost (aN X.prog X.w) X.A X.xe use Q' (.ref D) C (.ok .next) s')
  (hs:∀ x,du iter X.env x=pure x) :
  aL (aN X.prog X.w) X.A (nq (.ListComp elt [⟨tg,iter,ifs,0⟩] scope pos) scope X.env (firstIterPos [⟨tg,iter,ifs,0⟩] pos) (oB []) false (eval iter X.env) use) Q' X.xe s:=by
 have S:=E6 hsc
 obtain ⟨cl,hcl,c1,c2⟩:=wD (scope:=scope) (env:=X.env) fun y hy e=>I.ok.has y.1 (S.free y hy e)
 refine lu (use:=use) rfl hs hcl S.kind S.loc ?_
 refine aR (hi pins s σ H _ I h) (fun v s1 h1=>aR h1 (fun itv s2 h2=>?_) fun _ _ e=>e) fun _ _ e=>e
 obtain ⟨it,fp,tn,J,H2,e,I2,T,st2,f2,q2⟩:=h2
 subst e
 have hD:H2 s2.heap.objs.size=none:=I2.hok.fresh (aF _)
 obtain ⟨W,⟨m0,w0⟩,turn⟩:=q2 _ hD
 refine bO (wpAny_newFunctionEnv S.cell (by intro y hy;simp at hy) (fun h₁ hns₁ hsb₁=>?_) S.kind)
 dsimp only at hns₁ hsb₁ ⊢
 generalize hh3:s2.heap.push { cls:=.type "list",dict:=none,data:=.seq ([]:List aq).toArray }=g3 at hns₁ hsb₁ ⊢
 have I3:Inv X pins σ (upd H2 s2.heap.objs.size (.lst [])) { s2 with heap:=g3 }:=by
  rw [<- hh3]
  exact I2.laid (t':=s2.toks) (fun b u e=>aD _ e) (aF _) ⟨cn _,[],_,.nil,aS _ rfl⟩
 have st3:tn 0 g3:=T.keep _ _ _ st2 fun b _ o e=>by rw [<- hh3];exact aD _ e
 have lt2:∀ b ∈ fp,b<s2.heap.objs.size:=fun b hb=>by obtain ⟨o,e,_⟩:=T.obj _ _ st2 b hb;exact aM e
 have hsz3:g3.objs.size=s2.heap.objs.size+1:=by rw [<- hh3,gA]
 have f3:∀ b ∈ fp,yg X pins (upd H2 s2.heap.objs.size (.lst [])) b:=fun b hb=>⟨by rw [zh (bw (lt2 b hb))];exact (f2 b hb).1,(f2 b hb).2⟩
 have lt3:∀ b ∈ fp,b<g3.objs.size:=fun b hb=>by rw [hsz3];exact lh (lt2 b hb)
 have old:∀ b o,g3.get? b=some o->h₁.get? b=some o:=fun b o e=>hsb₁.extBut b o (bw (aM e)) (aD _ e)
 have hns:h₁.Ns g3.objs.size (fun x=>([]:List (Str × aq)).reverse.lookup x):=hns₁
 have I4:∀ t,Inv (cxC X scope cl { s2 with heap:=g3 } (upd H2 s2.heap.objs.size (.lst [])) fp) [] (clr ts σ) (upd H2 s2.heap.objs.size (.lst [])) { s2 with heap:=h₁,toks:=t }:=fun t=>Zw I3 S f3 lt3 c1 c2 hns old
 have fpne:∀ b ∈ fp,b ∉ frs X.stack:=fun b hb z=>by
  obtain ⟨_,f1,f2,_⟩:=f3 b hb
  rcases aO.mp (I3.stkSub b z) with e | e
  ·exact f1 e
  ·exact f2 e
 have stat:∀ {H':Hp},(∀ b ∈ fp,H' b=none)->∀ b ∈ fp,yg (cxC X scope cl { s2 with heap:=g3 } (upd H2 s2.heap.objs.size (.lst [])) fp) [] H' b:=fun hn b hb=>
  ⟨hn b hb,bw (lt3 b hb),fpne b hb,.inl hb,fun x c e=>(f2 b hb).2.2.2.2.1 x c (c1 x c e),fun p hp=>absurd hp (by simp)⟩
 have loop:∀ t,dX (aN X.prog X.w) X.A (.compLoop (.ListComp elt [⟨tg,iter,ifs,0⟩] scope pos) 0 (.ref it) (.ref s2.heap.objs.size) (compEnvC scope cl g3.objs.size X.env))
   (compPost (aN X.prog X.w) X.A X.xe use Q' (.ref s2.heap.objs.size) g3.objs.size) { s2 with heap:=h₁,toks:=t }:=by
  intro t
  refine yd (fun n s'=>∃ i τ H',Inv (cxC X scope cl { s2 with heap:=g3 } (upd H2 s2.heap.objs.size (.lst [])) fp) [] τ H' s'/\tn i s'.heap/\(∀ b ∈ fp,H' b=none)/\W i n τ H') ?_ m0
   ⟨0,clr ts σ,_,I4 t,T.keep _ _ _ st3 fun b _ o e=>old b o e,fun b hb=>(f3 b hb).1,w0⟩
  rintro n s5 ⟨i,τ,H5,I5,st5,fr5,w5⟩
  rcases turn i n τ H5 w5 with ⟨stop,qn⟩ | ⟨go,N,hN,step⟩
  ·refine thn (T.done (cxC X scope cl { s2 with heap:=g3 } (upd H2 s2.heap.objs.size (.lst [])) fp) rfl rfl rfl hc i [] s5 τ H5 _ I5 (stat fr5) st5 stop) fun r s6 ⟨hr,I6⟩=>?_
   subst hr
   have base:Un (frs X.stack) fp (upd H2 s2.heap.objs.size (.lst [])) H5 g3 s6.heap:=I6.base
   have J6:Inv X pins σ H5 s6:=I3.call' (ch:=fp) I6.os base I6.hok I6.bare fun b hb=>⟨(f3 b hb).2.2.2.1,(f3 b hb).2.1,(f3 b hb).2.2.2.2.1,(f3 b hb).2.2.2.2.2⟩
   obtain ⟨m6,n6,_⟩:=I6.loc
   have hC:g3.get? g3.objs.size=none:=fH (aF _)
   refine fin _ g3.objs.size H5 s6 J6 ⟨m6,n6⟩ I6.free (e7 I3.lt) (fun x c e z=>?_) I3.sz (fun p hp z=>?_) (I3.nofs (aF _)) qn
   ·obtain ⟨v,q⟩:=I3.cell x c e
    exact absurd q.lt (by rw [z];exact de _)
   ·exact absurd (aM (I3.pin p hp).1) (by rw [z];exact de _)
  ·refine thn (T.item (cxC X scope cl { s2 with heap:=g3 } (upd H2 s2.heap.objs.size (.lst [])) fp) rfl rfl rfl hc i [] s5 τ H5 _ I5 (stat fr5) st5 go) fun r s6 ⟨u,hr,h6⟩=>?_
   subst hr
   refine thn h6 fun _ s7 ⟨x,H7,I7,r7,y7,st7,fr7⟩=>?_
   have I7':=I7.pinned (stat fr7) (T.obj _ _ st7)
   refine thn (hg cl { s2 with heap:=g3 } _ fp _ s7 τ H7 x u _ I7' r7 (step x H7 y7)) fun _ s8 ⟨τ8,H8,I8,q8⟩=>?_
   refine thn (ht cl { s2 with heap:=g3 } _ fp _ s8 τ8 H8 _ I8 q8) fun b s9 ⟨H9,I9,q9⟩=>?_
   have again:∀ {τ9:St} {H9:Hp} {s9:ax},Inv (cxC X scope cl { s2 with heap:=g3 } (upd H2 s2.heap.objs.size (.lst [])) fp) ([] ++ vH fp s7.heap) τ9 H9 s9->N τ9 H9 ->
     ∃ m,m<n/\∃ i τ H',Inv (cxC X scope cl { s2 with heap:=g3 } (upd H2 s2.heap.objs.size (.lst [])) fp) [] τ H' s9/\tn i s9.heap/\(∀ b ∈ fp,H' b=none)/\W i m τ H':=fun {τ9 H9 s9} I9 n9=>by
    obtain ⟨m',hm,w9⟩:=hN _ _ n9
    refine ⟨m',hm,i+1,τ9,H9,I9.unpinned,T.keep _ _ _ st7 fun b hb o e=>(I9.pin (b,o) (bD _ (bD _ (jq hb e)))).1,fun b hb=>?_,w9⟩
    obtain ⟨o,e,d⟩:=T.obj _ _ st7 b hb
    exact (I9.pin (b,o) (bD _ (bD _ (jq hb e)))).2.1
   cases b with
   | false=>
    rw [if_neg aW] at q9 ⊢
    exact again I9 q9
   | true=>
    rw [if_pos rfl] at q9 ⊢
    refine thn (he cl { s2 with heap:=g3 } _ fp _ s9 τ8 H9 _ I9 q9) fun y s10 ⟨v,H10,I10,r10,ys,hys,hlen,n10⟩=>?_
    exact thn (vg (X:=cxC X scope cl { s2 with heap:=g3 } (upd H2 s2.heap.objs.size (.lst [])) fp) _ s10 τ8 H10 (.ref s2.heap.objs.size) [v] (.ref s2.heap.objs.size) [y] (fun _ H11=>N τ8 H11) I10 rfl (.cons r10 .nil) ⟨_,ys,v,rfl,rfl,hys,hlen,n10⟩) fun _ s11 ⟨_,H11,I11,_,n11⟩=>again I11 n11
 have LW:=loop (s2.toks+([]:List (Str × aq)).length)
 exact lY LW (T.self _ 0 _ _ _ (T.keep _ _ _ st3 fun b _ o e=>old b o e) LW)
end
section
variable {X:Cx}{ts:List Nat}{scope:Scope}{tg iter elt:Expr}{ifs:List Expr}{wi:TI}{g:TG}{tt:TT}{te:TE}{pos:Pos}
theorem vb (hc:X.calm=true)(hsc:Yk X.N ts scope X.env.kindOf=true)(hi:PI X tg iter wi)(hg:∀ cl s H fp,PG (cxC X scope cl s H fp) tg g)(ht:∀ cl s H fp,PIf (cxC X scope cl s H fp) ifs tt)(he:∀ cl s H fp,PE (cxC X scope cl s H fp) elt te)
  (hs:∀ x,du iter X.env x=pure x:=by intro _;rfl):PE X (.ListComp elt [⟨tg,iter,ifs,0⟩] scope pos) (K0 ts wi g tt te):=by
 intro pins s σ H Q I h
 rw [eval_ListComp]
 refine JR hc hsc hi hg ht he I h (use:=none) (fun D C H' s' I' ⟨m,hn⟩ hC hL hce hsz hp hfs q=>⟨m,hn,fun h' hs'=>?_⟩) hs
 exact ⟨.ref D,H',I'.turned (t':=s'.toks) (it:=C) (fun b o hb e=>(hs'.2 b hb).trans e) hC hL (.inr hsz) hce hp,rfl,q⟩
theorem JB {j:Nat}{y:Str}{py spos:Pos}(hc:X.calm=true)(hN:X.N.Nodup)(hj:X.N[j]?=some y)(hy:Loc X.env.scope y)(hsc:Yk X.N ts scope X.env.kindOf=true)(hi:PI X tg iter wi)(hg:∀ cl s H fp,PG (cxC X scope cl s H fp) tg g)(ht:∀ cl s H fp,PIf (cxC X scope cl s H fp) ifs tt)(he:∀ cl s H fp,PE (cxC X scope cl s H fp) elt te)
  (hsw:mY (.ListComp elt [⟨tg,iter,ifs,0⟩] scope pos) (some (.Name y py)) spos.line X.env=pure true:=by rfl)
  (hs:∀ x,du iter X.env x=pure x:=by intro _;rfl) (hf:X.fn y=true \/ X.env.scope.names.lookup y=some .local:=by first | exact .inl rfl | exact .inr rfl | assumption) :
  PS X (.Assign [.Name y py] (.ListComp elt [⟨tg,iter,ifs,0⟩] scope pos) spos) (JK (K0 ts wi g tt te) (Kr j)):=by
 intro pins s σ H D I h
 rw [exec_Assign_Name_used _ _ _ _ hsw]
 refine aw (cD (aw ?_))
 show aL _ _ (do let _ <- nq (.ListComp elt [⟨tg,iter,ifs,0⟩] scope pos) scope X.env _ (oB []) false (eval iter X.env) (some (mE (.Name y py) X.env))) _ _ s
 refine aw (aR (JR hc hsc hi hg ht he I h (use:=some (mE (.Name y py) X.env)) (Q':=fun _ s'=>SP X pins D .next s') (fun D' C H' s' I' ⟨m,hn⟩ hC hL hce hsz hp hfs q=>?_) hs) (fun _ s' hq=>aJ (aJ hq)) fun _ _ e=>e)
 show aL _ _ (mE (.Name y py) X.env (.ref D')) _ _ _
 refine wpAny_assign_Name (Qw (v:=.ref D') I' hN hj hy rfl (fun s2 I2 ⟨a,hsb,ha⟩=>?_) hf)
 have hCa:C ≠ a:=by
  rcases ha with rfl | ha
  ·exact hL
  ·exact Ne.symm (hce y a ha)
 refine ⟨m,hn.sameBut hsb hCa,fun h' hs'=>?_⟩
 exact ⟨_,H',I2.turned (t':=s2.toks) (it:=C) (fun b o hb e=>(hs'.2 b hb).trans e) hC hL (.inr hsz) hce hp,q⟩
end
noncomputable def Ite (K:az)(a:ay):It:=
 ⟨fun i H=>∃ xs x,SqL K H a xs/\xs[i]?=some x,fun i H y H'=>∃ p x,H p=none/\y=.ref p/\(∀ xs,SqL K H a xs->xs[i]?=some x)/\H'=upd H p (.tup [.int i,x]),fun i H=>∃ xs,SqL K H a xs/\xs.length<=i⟩
variable {P:ba} {w:bE} {K:az} {es:List Expr} {kt:Nat} {tp:Pos}
theorem Z5 (a e it:ay)(hei:e ≠ it):Kg P w K (.Tuple es kt tp) (Ite K a) [e,it] e (fun i h=>(∃ old,IsEnum h e it (i:Nat) old)/\h.IsListIter it a i) where
 mem:=by simp
 obj:=fun i h st b hb=>by
  obtain ⟨⟨old,he⟩,⟨o,e1,c,d⟩⟩:=st
  rcases aO.mp hb with rfl | hb
  ·exact ⟨_,he,fun v z=>by have z':mG _=lC v:=z;cases z'⟩
  ·have e2:b=it:=by simpa using hb
   subst e2
   exact ⟨o,e1,fun v z=>by rw [d] at z;cases z⟩
 keep:=fun i h h' st k=>by
  obtain ⟨⟨old,he⟩,st⟩:=st
  exact ⟨⟨old,k e (by simp) _ he⟩,st.at fun o e=>k it (by simp) o e⟩
 item:=by
  intro X hP hw hK hc i pins s σ H E I hf st hg
  subst hP hw hK
  obtain ⟨⟨old,he⟩,st⟩:=st
  obtain ⟨xs,x,hq,hx⟩:=hg
  obtain ⟨its,rv,p,hz⟩:=I.list hq
  obtain ⟨u,hu,ru⟩:=rv.get hx
  have fe:=hf e (by simp)
  have fi:=hf it (by simp)
  refine wpAny_pyNext_enum_item he st p.isList (x:=u) (by simpa using hu) hei fun h1 heo hit1 ht1 hz1 hk1=>?_
  refine ⟨.ref s.heap.objs.size,rfl,iI heo fun h2 he2 hs2=>?_⟩
  replace hs2:eg e h1 h2:=hs2
  have elt:e<s.heap.objs.size:=aM he
  have hfr:H s.heap.objs.size=none:=I.hok.fresh (aF _)
  have ht2:h2.get? s.heap.objs.size=some { cls:=.type "tuple",data:=.seq #[.int i s.toks,u] }:=(hs2.2 _ (e7 elt)).trans ht1
  have kk:∀ b o,b ∉ [e,it]->s.heap.get? b=some o->h2.get? b=some o:=fun b o hc q=>by
   have n1:b ≠ e:=fun z=>hc (by simp [z])
   have n2:b ≠ it:=fun z=>hc (by simp [z])
   exact (hs2.2 b n1).trans (hk1 b o n1 n2 q)
  have nb:∀ c v,H c=some v->c ∉ [e,it]:=fun c v z hm=>by
   rcases aO.mp hm with z' | z'
   ·rw [z',fe.1] at z;cases z
   ·have e2:c=it:=by simpa using z'
    rw [e2,fi.1] at z;cases z
  have I2:Inv X pins σ (upd H s.heap.objs.size (.tup [.int i,x])) { s with heap:=h2,toks:=s.toks+1 }:=by
   refine I.step (g':=s.gens) (d':=s.drawn) (ch:=[e,it]) (fun b hb=>?_) (fun b o _ _ hc q _=>kk b o hc q) (fun b o _ _ hc q _=>⟨o.slots,kk b o hc q⟩) (fun b o _ q n=>by rw [zh (bw (aM q))];exact n) (fun b o hc q=>⟨o,kk b o hc q⟩)
    (fun b xs q=>by rw [zh (zm q hfr)];exact q) (fun b o u q=>by rw [zh (zm q hfr)];exact q) (fun b ps q=>⟨#[],by rw [zh (zm q hfr),q];simp⟩) (fun m hm=>?_) (fun b v q=>?_) I.bare
   ·rcases aO.mp hb with z | hb
    ·rw [z];exact ⟨fe.2.2.2.1,fe.2.1,fe.2.2.2.2.1,fe.2.2.2.2.2⟩
    ·have e2:b=it:=by simpa using hb
     rw [e2];exact ⟨fi.2.2.2.1,fi.2.1,fi.2.2.2.2.1,fi.2.2.2.2.2⟩
   ·obtain ⟨o,es,ep,ho,r⟩:=hm
    exact ⟨o,es,ep,kk _ o (by simp [Ne.symm fe.2.1,Ne.symm fi.2.1]) ho,r⟩
   ·by_cases hb:b=s.heap.objs.size
    ·subst hb
     rw [zi] at q
     cases q
     exact ⟨by show 2<=aT;decide,[.int i s.toks,u],.cons ⟨_,rfl⟩ (.cons ru .nil),_,ht2,rfl,⟨_,rfl⟩,rfl⟩
    ·rw [zh hb] at q
     refine (I.hok b v q).stay (fun c o hc q'=>kk c o ?_ q') (fun c z=>by rw [zh (zm z hfr)];exact z) fun c xs z=>by rw [zh (zm z hfr)];exact z
     rcases hc with z | z
     ·rw [z];exact nb b v q
     ·exact nb c _ z
  refine ⟨.ref s.heap.objs.size,_,I2,rfl,⟨s.heap.objs.size,x,hfr,rfl,fun ys hy=>by rw [I.list_inj hy hq];exact hx,rfl⟩,⟨⟨_,by simpa using he2⟩,hit1.extBut hs2.extBut (Ne.symm hei)⟩,fun b hb=>?_⟩
  have hlt:b<s.heap.objs.size:=by
   rcases aO.mp hb with rfl | hb
   ·exact elt
   ·have e2:b=it:=by simpa using hb
    subst e2
    obtain ⟨o,e1,_⟩:=st
    exact aM e1
  rw [zh (bw hlt)]
  exact (hf b hb).1
 done:=by
  intro X hP hw hK hc i pins s σ H E I hf st hg
  subst hP hw hK
  obtain ⟨⟨old,he⟩,st⟩:=st
  obtain ⟨xs,hq,hx⟩:=hg
  obtain ⟨its,rv,p,hz⟩:=I.list hq
  obtain ⟨f0,f1,f2,f3,f4,f5⟩:=hf it (by simp)
  have hl:=rv.length
  exact wpAny_pyNext_enum_end (I.ok.hd hc) he st p.isList (by simp;omega) fun h' eb=>⟨rfl,I.turned (t':=s.toks) (fun b o hb e=>eb b o hb e) f0 f1 f3 f4 f5⟩
 self:=fun _ _ _ _ _ st h=>by
  obtain ⟨⟨old,he⟩,_⟩:=st
  exact fE he h
section
variable {X:Cx}{pins:List (ay × Obj)}{σ:St}{H:Hp}{s:ax}
variable {ch:List ay} {h2:Heap} {tk:Nat}
theorem Inv.yieldTup {T:ay}{xs:List V}{us:List aq}(I:Inv X pins σ H s)(hf:∀ b ∈ ch,yg X pins H b)(kk:∀ b o,b ∉ ch->s.heap.get? b=some o->h2.get? b=some o)(hT:s.heap.objs.size<=T)
  (ht2:h2.get? T=some { cls:=.type "tuple",data:=.seq us.toArray }) (rv:zz xs us) (hz:xs.length<=aT):Inv X pins σ (upd H T (.tup xs)) { s with heap:=h2,toks:=tk }:=by
 have hfr:H T=none:=I.hok.fresh hT
 have nb:∀ c v,H c=some v->c ∉ ch:=fun c v z hm=>by rw [(hf c hm).1] at z;cases z
 refine I.step (g':=s.gens) (d':=s.drawn) (ch:=ch) (fun b hb=>⟨(hf b hb).2.2.2.1,(hf b hb).2.1,(hf b hb).2.2.2.2.1,(hf b hb).2.2.2.2.2⟩) (fun b o _ _ hc q _=>kk b o hc q) (fun b o _ _ hc q _=>⟨o.slots,kk b o hc q⟩)
  (fun b o _ q n=>by rw [zh (bw (bA (aM q) hT))];exact n) (fun b o hc q=>⟨o,kk b o hc q⟩)
  (fun b xs q=>by rw [zh (zm q hfr)];exact q) (fun b o u q=>by rw [zh (zm q hfr)];exact q) (fun b ps q=>⟨#[],by rw [zh (zm q hfr),q];simp⟩) (fun m hm=>?_) (fun b v q=>?_) I.bare
 ·obtain ⟨o,es,ep,ho,r⟩:=hm
  exact ⟨o,es,ep,kk _ o (fun z=>(hf _ z).2.1 rfl) ho,r⟩
 ·by_cases hb:b=T
  ·subst hb
   rw [zi] at q
   cases q
   exact ⟨hz,us,rv,_,ht2,rfl,⟨_,rfl⟩,rfl⟩
  ·rw [zh hb] at q
   refine (I.hok b v q).stay (fun c o hc q'=>kk c o ?_ q') (fun c z=>by rw [zh (zm z hfr)];exact z) fun c xs z=>by rw [zh (zm z hfr)];exact z
   rcases hc with z | z
   ·rw [z];exact nb b v q
   ·exact nb c _ z
theorem Inv.turnedL (I:Inv X pins σ H s)(hf:∀ b ∈ ch,yg X pins H b)(kk:∀ b o,b ∉ ch->s.heap.get? b=some o->h2.get? b=some o):Inv X pins σ H { s with heap:=h2,toks:=tk }:=by
 have nb:∀ c v,H c=some v->c ∉ ch:=fun c v z hm=>by rw [(hf c hm).1] at z;cases z
 refine I.step (g':=s.gens) (d':=s.drawn) (ch:=ch) (fun b hb=>⟨(hf b hb).2.2.2.1,(hf b hb).2.1,(hf b hb).2.2.2.2.1,(hf b hb).2.2.2.2.2⟩) (fun b o _ _ hc q _=>kk b o hc q) (fun b o _ _ hc q _=>⟨o.slots,kk b o hc q⟩)
  (fun b o _ q n=>n) (fun b o hc q=>⟨o,kk b o hc q⟩) (fun b xs q=>q) (fun b o u q=>q) (fun b ps q=>⟨#[],by rw [q];simp⟩) (fun m hm=>?_) (fun b v q=>?_) I.bare
 ·obtain ⟨o,es,ep,ho,r⟩:=hm
  exact ⟨o,es,ep,kk _ o (fun z=>(hf _ z).2.1 rfl) ho,r⟩
 ·refine (I.hok b v q).stay (fun c o hc q'=>kk c o ?_ q') (fun c z=>z) fun c xs z=>z
  rcases hc with z | z
  ·rw [z];exact nb b v q
  ·exact nb c _ z
end
noncomputable def Itz (K:az)(a b:ay):It:=
 ⟨fun i H=>∃ xs ys x y,SqL K H a xs/\SqL K H b ys/\xs[i]?=some x/\ys[i]?=some y,fun i H z H'=>∃ p x y,H p=none/\z=.ref p/\(∀ xs,SqL K H a xs->xs[i]?=some x)/\(∀ ys,SqL K H b ys->ys[i]?=some y)/\H'=upd H p (.tup [x,y]),
  fun i H=>∃ xs ys,SqL K H a xs/\SqL K H b ys/\(xs.length<=i \/ ys.length<=i)⟩
theorem Om (l1 l2 z TI TO i1 i2:ay)(D:ZipApart z TI TO i1 i2 l1 l2) :
  Kg P w K (.Tuple es kt tp) (Itz K l1 l2) [z,TI,TO,i1,i2] z (fun i h=>IsZip h z TI TO .none/\IsPair h TI (.ref i1) (.ref i2)/\(∃ a b,IsPair h TO a b)/\h.IsListIter i1 l1 i/\h.IsListIter i2 l2 i) where
 mem:=by simp
 obj:=fun i h st b hb=>by
  obtain ⟨hz,hTI,⟨a,c,hTO⟩,⟨o1,e1,c1,d1⟩,⟨o2,e2,c2,d2⟩⟩:=st
  simp only [aO,cm,or_false] at hb
  rcases hb with rfl | rfl | rfl | rfl | rfl
  ·exact ⟨_,hz,fun v q=>by have q':mG _=lC v:=q;cases q'⟩
  ·exact ⟨_,hTI,fun v q=>by have q':Data.seq _ _=lC v:=q;cases q'⟩
  ·exact ⟨_,hTO,fun v q=>by have q':Data.seq _ _=lC v:=q;cases q'⟩
  ·exact ⟨o1,e1,fun v q=>by rw [d1] at q;cases q⟩
  ·exact ⟨o2,e2,fun v q=>by rw [d2] at q;cases q⟩
 keep:=fun i h h' st k=>by
  obtain ⟨hz,hTI,⟨a,c,hTO⟩,h1,h2⟩:=st
  exact ⟨k _ (by simp) _ hz,k _ (by simp) _ hTI,⟨a,c,k _ (by simp) _ hTO⟩,h1.at fun o e=>k _ (by simp) o e,h2.at fun o e=>k _ (by simp) o e⟩
 item:=by
  intro X hP hw hK hc i pins s σ H E I hf st hg
  subst hP hw hK
  obtain ⟨hz,hTI,⟨a,c,hTO⟩,h1,h2⟩:=st
  obtain ⟨xs,ys,x,y,hq1,hq2,hx,hy⟩:=hg
  obtain ⟨its1,rv1,p1,hz1⟩:=I.list hq1
  obtain ⟨its2,rv2,p2,hz2⟩:=I.list hq2
  obtain ⟨u,hu,ru⟩:=rv1.get hx
  obtain ⟨v,hv,rvv⟩:=rv2.get hy
  refine wpAny_pyNext_zip_item D hz hTI hTO h1 h2 p1.isList p2.isList (x:=u) (y:=v) (by simpa using hu) (by simpa using hv) fun g1 b1 b2 b3 b4 b5 b6 hk=>?_
  refine ⟨.ref s.heap.objs.size,rfl,wpAny_letOwnedTupleGo_zip b1 fun g2 hz2' hs2=>?_⟩
  replace hs2:eg z g1 g2:=hs2
  have zlt:z<s.heap.objs.size:=aM hz
  have I2:Inv X pins σ (upd H s.heap.objs.size (.tup [x,y])) { s with heap:=g2,toks:=s.toks }:=by
   refine I.yieldTup (us:=[u,v]) hf (fun b o hb e=>?_) (aF _) ((hs2.2 _ (e7 zlt)).trans b5) (.cons ru (.cons rvv .nil)) (by show 2<=aT;decide)
   simp only [aO,cm,or_false,not_or] at hb
   exact (hs2.2 b hb.1).trans (hk b o hb.1 hb.2.2.1 hb.2.2.2.1 hb.2.2.2.2 e)
  refine ⟨.ref s.heap.objs.size,_,I2,rfl,⟨s.heap.objs.size,x,y,I.hok.fresh (aF _),rfl,fun xs' h'=>by rw [I.list_inj h' hq1];exact hx,fun ys' h'=>by rw [I.list_inj h' hq2];exact hy,rfl⟩,
   ⟨hz2',(hs2.2 _ D.TIz).trans (hk _ _ D.TIz D.TITO D.TIi1 D.TIi2 hTI),⟨_,_,(hs2.2 _ D.TOz).trans b2⟩,b3.extBut hs2.extBut D.i1z,b4.extBut hs2.extBut D.i2z⟩,fun b hb=>?_⟩
  have hlt:b<s.heap.objs.size:=by
   simp only [aO,cm,or_false] at hb
   rcases hb with rfl | rfl | rfl | rfl | rfl
   ·exact zlt
   ·exact aM hTI
   ·exact aM hTO
   ·obtain ⟨o,e,_⟩:=h1;exact aM e
   ·obtain ⟨o,e,_⟩:=h2;exact aM e
  rw [zh (bw hlt)]
  exact (hf b hb).1
 done:=by
  intro X hP hw hK hc i pins s σ H E I hf st hg
  subst hP hw hK
  obtain ⟨hz,hTI,⟨a,c,hTO⟩,h1,h2⟩:=st
  obtain ⟨xs,ys,hq1,hq2,hend⟩:=hg
  obtain ⟨its1,rv1,p1,hz1⟩:=I.list hq1
  obtain ⟨its2,rv2,p2,hz2⟩:=I.list hq2
  have l1:=rv1.length
  have l2:=rv2.length
  refine wpAny_pyNext_zip_end (I.ok.hd hc) D hz hTI hTO h1 h2 p1.isList p2.isList (by simp;omega) fun h' hk=>⟨rfl,I.turnedL (tk:=s.toks) hf fun b o hb e=>?_⟩
  simp only [aO,cm,or_false,not_or] at hb
  exact hk b o hb.1 hb.2.2.1 hb.2.2.2.1 hb.2.2.2.2 e
 self:=fun _ _ _ _ _ st h=>wpAny_pyIter_zip st.1 h
theorem Zh:bY "enumerate"=some (.type "enumerate"):=by decide +kernel
section
variable {X:Cx}{es:List Expr}{kt:Nat}{tp:Pos}
noncomputable def HY (K:az)(ta:TA):TI:=fun σ H R=>ta σ H fun vs H1=>∃ a,vs=[.ref a]/\(∃ xs,SqL K H1 a xs)/\R (Ite K a) H1
theorem GS {e:Expr}{ta:TA}{p pos:Pos}(hg:Gl X "enumerate")(hm:X.mg "enumerate"=none)(ha:PA X [e] ta)(hs:aV [e] X.env=[(false,eval e X.env)]:=by rfl) :
  PI X (.Tuple es kt tp) (.Call (.Name "enumerate" p) [e] [] pos) (HY X.K ta):=by
 intro pins s σ H R I h
 refine Call_ (vt I hg hm (Zh) (eh (thn (ha pos pins s σ H _ I h) fun us s1 ⟨vs,H1,I1,r1,q1⟩=>?_) hs rfl))
 obtain ⟨a,e,⟨xs,hq⟩,q⟩:=q1
 subst e
 obtain ⟨u,rfl,ru⟩:=ki r1
 cases ru
 obtain ⟨its,rv,pl,hz⟩:=I1.list hq
 refine call_enumerate_list pl.isList fun h' he hit hsz hk=>fE he ?_
 have I2:Inv X pins σ H1 { s1 with heap:=h' }:=I1.kept (t':=s1.toks) hk
 refine ⟨s1.heap.objs.size+1,[s1.heap.objs.size+1,s1.heap.objs.size],_,_,H1,rfl,I2,Z5 a _ _ (lH _),⟨⟨_,he⟩,hit⟩,fun b hb=>?_,q⟩
 have hb':s1.heap.objs.size<=b:=by
  simp only [aO,cm,or_false] at hb
  rcases hb with rfl | rfl
  ·exact h9 _
  ·exact aF _
 exact I1.fpOk hb' (I1.hok.fresh hb')
end
variable {a:ay} {xs:List V} {g:TG} {tb:TS} {D:kA} {σ:St} {H:Hp}
theorem Fu (Pv:Nat->St->Hp->Prop)(h0:Pv 0 σ H)(hl:∀ i σ H,i<=xs.length->Pv i σ H->SqL K H a xs)
  (hs:∀ i x p σ H,xs[i]?=some x->H p=none->Pv i σ H->g (.ref p) σ (upd H p (.tup [.int i,x])) fun σ2 H2=>tb { D with nx:=Pv (i+1),ct:=Pv (i+1),bk:=D.nx } σ2 H2) (hd:∀ σ H,Pv xs.length σ H->D.nx σ H) :
  ∃ W:Nat->Nat->St->Hp->Prop,(∃ m,W 0 m σ H)/\∀ i m σ H,W i m σ H ->
   ((Ite K a).stop i H/\D.nx σ H) \/ ((Ite K a).go i H/\∃ N:St->Hp->Prop,(∀ σ' H',N σ' H'->∃ m',m'<m/\W (i+1) m' σ' H')/\∀ x H',(Ite K a).yld i H x H'->g x σ H' fun σ2 H2=>tb { D with nx:=N,ct:=N,bk:=D.nx } σ2 H2):=by
 refine ⟨fun i m σ H=>m=xs.length - i/\i<=xs.length/\Pv i σ H,⟨xs.length,by simp,cn _,h0⟩,?_⟩
 rintro i m σ H ⟨rfl,hi,p⟩
 have q:=hl i σ H hi p
 by_cases hlt:i<xs.length
 ·refine .inr ⟨⟨xs,xs[i],q,by simp [hlt]⟩,Pv (i+1),fun σ' H' p'=>⟨xs.length - (i+1),by omega,rfl,hlt,p'⟩,fun x H' y=>?_⟩
  obtain ⟨pp,x',hp,rfl,y,rfl⟩:=y
  exact hs i x' pp σ _ (y xs q) hp p
 ·have e:i=xs.length:=by omega
  subst e
  exact .inl ⟨⟨xs,q,aF _⟩,hd σ H p⟩
noncomputable def wH (p:ay)(a b c:Int):HO:=.ext fun h=>∃ t u v,h.get? p=some { cls:=.type "range",data:=.fields #[.int a t,.int b u,.int c v] }
variable {p:ay}
theorem Lu {h:Heap} {a b c:Int}{t u v:Tok}(e:h.get? p=some { cls:=.type "range",data:=.fields #[.int a t,.int b u,.int c v] }):zV P w H h p (wH p a b c):=
 ⟨⟨t,u,v,e⟩,⟨_,e⟩,fun h1 h2 ⟨t,u,v,q⟩ k=>⟨t,u,v,k _ q⟩⟩
noncomputable def zA (a c:Int)(n:Nat):List Int:=(bI n).map fun (i:Nat)=>a+(i:Int) * c
theorem zD (a c:Int)(n:Nat):(zA a c n).length=n:=by simp [zA]
theorem wK {a c:Int}:∀ {n:Nat} {acc:Array aq},nU (fun (i:Nat) (v:aq)=>∃ t,v=aq.int (a+(i:Int) * c) t) acc n->zz ((zA a c n).map V.int) acc.toList:=by
 intro n acc ⟨hs,hi⟩
 have key:∀ (k:Nat) (l:List aq),l.length=k->(∀ (j:Nat) v,l[j]?=some v->∃ t,v=aq.int (a+(j:Int) * c) t)->zz ((zA a c k).map V.int) l:=by
  intro k
  induction k with
  | zero=>intro l hl _;cases l with
   | nil=>exact .nil
   | cons=>simp at hl
  | succ k ih=>
   intro l hl hv
   obtain ⟨l',x,rfl⟩:∃ l' x,l=l' ++ [x]:=⟨l.dropLast,l.getLast (by intro e;rw [e] at hl;simp at hl),(fq _).symm⟩
   have hl':l'.length=k:=by simpa using hl
   have e:(zA a c (k+1)).map V.int=(zA a c k).map V.int ++ [.int (a+(k:Int) * c)]:=by simp [zA,mw]
   rw [e]
   refine (ih l' hl' fun j v hj=>hv j v ?_).append (.cons ?_ .nil)
   ·rw [cV (aA.mp hj).1];exact hj
   ·obtain ⟨t,rfl⟩:=hv k x (by rw [dC (by omega),hl'];simp)
    exact ⟨t,rfl⟩
 exact key n acc.toList (by simpa using hs) fun j v hj=>hi j v (by simpa using hj)
section
variable {X:Cx}
theorem jY:ju X (.type "range") (fun xs H Q=>∃ b:Int,xs=[.int b]/\∀ p,H p=none->Q (.ref p) (upd H p (wH p 0 b 1))):=by
 intro pins s σ H xs us Q I r h
 obtain ⟨b,rfl,q⟩:=h
 obtain ⟨u,rfl,t,rfl⟩:=ki r
 refine call_range_1 ⟨.ref s.heap.objs.size,_,I.laid (fun b o e=>aD _ e) (aF _) ?_,rfl,q _ (I.hok.fresh (aF _))⟩
 exact Lu (aS _ rfl)
theorem yj (hc:X.calm=true):ju X (.type "list") (fun xs H Q=>∃ p a b c n,xs=[.ref p]/\H p=some (wH p a b c)/\cy a b c=true/\bR a b c=((n:Nat):Int)/\n<=100000/\∀ l,H l=none->Q (.ref l) (upd H l (.lst ((zA a c n).map V.int)))):=by
 intro pins s σ H xs us Q I r h
 obtain ⟨p,a,b,c,n,rfl,hp,hs,hn,hz,q⟩:=h
 obtain ⟨u,rfl,rx⟩:=ki r
 cases rx
 obtain ⟨⟨t,u,v,e⟩,_⟩:=(show zV X.prog X.w H s.heap p (wH p a b c) from I.hok _ _ hp)
 refine call_list_range (I.ok.hd hc) e hs hn (bf hz (by decide)) fun h' tk acc c' hk he hi=>?_
 refine ⟨.ref s.heap.objs.size,_,I.laid hk (aF _) (show zV X.prog X.w _ h' _ (.lst ((zA a c n).map V.int)) from ⟨?_,acc.toList,c',wK hi,by simpa using he⟩),rfl,q _ (I.hok.fresh (aF _))⟩
 rw [am,zD]
 exact bf hz (by decide)
end
section
variable {X:Cx}
noncomputable def isT (t c:String):Option Bool:=if (aq.type t == aq.type c)=true then some true else if PySem.W.kitMeta c=true then (fastBuiltinMro t).map (·.contains (aq.type c)) else none
theorem VB (K:az)(t c:String):mK K (.type t) (.type c)=isT t c:=rfl
noncomputable def Zg (t:String):List String->Option Bool
 | []=>some false
 | c :: r=>match isT t c with
  | some true=>some true
  | some false=>Zg t r
  | none=>none
theorem JV (K:az)(t:String):∀ cs:List String,mO K (.type t) (cs.map aq.type)=Zg t cs
 | []=>rfl
 | c :: r=>by
  show (match mK K (.type t) (.type c) with | some true=>some true | some false=>mO K (.type t) (r.map aq.type) | none=>none)=_
  rw [VB,JV K t r];rfl
theorem yE:ju X (.builtin "isinstance") (fun xs H Q=>∃ x t c b,xs=[x,.ty c]/\xH X.K H x (.type t)/\isT t c=some b/\Q (.bl b) H):=by
 intro pins s σ H xs us Q I r h
 obtain ⟨x,t,c,b,rfl,ty,e,q⟩:=h
 obtain ⟨u,v,rfl,ru,rv⟩:=Ve r
 cases rv
 exact Wa I ru ty (by rw [VB];exact e) fun tk=>⟨.bl b,H,I.tok _,rfl,q⟩
theorem K6:∀ {cs:List String} {us:List aq},zz (cs.map V.ty) us->us=cs.map aq.type
 | [],_,.nil=>rfl
 | c :: cs,_,.cons r t=>by rw [K6 t];cases r;rfl
theorem Wd:ju X (.builtin "isinstance") (fun xs H Q=>∃ x t p cs b,xs=[x,.ref p]/\H p=some (.tup (bS V.ty cs))/\xH X.K H x (.type t)/\Zg t cs=some b/\Q (.bl b) H):=by
 intro pins s σ H xs us Q I r h
 obtain ⟨x,t,p,cs,b,rfl,hp,ty,e,q⟩:=h
 obtain ⟨u,v,rfl,rx,rv⟩:=Ve r
 cases rv
 obtain ⟨_,its,rt,o,ho,hc,⟨n,hd⟩,_⟩:=(show zV X.prog X.w H s.heap p (.tup (bS V.ty cs)) from I.hok _ _ hp)
 obtain ⟨oc,od,odt,osl⟩:=o
 simp only at hc hd
 subst hc hd
 have e':mO X.K (.type t) its=some b:=by rw [K6 rt,JV];exact e
 have fin:∀ tk,EP X pins σ Q (.bool b) { s with toks:=tk }:=fun tk=>⟨.bl b,H,I.tok _,rfl,q⟩
 cases ty with
 | non=>cases (show u=aq.none from rx);exact dj nO I.kIn True.intro ho e' (fun z=>nomatch z) fin
 | bl y=>cases (show u=aq.bool y from rx);exact dj nQ I.kIn True.intro ho e' (fun z=>nomatch z) fin
 | int i=>obtain ⟨t,q⟩:=(show ∃ t,u=aq.int i t from rx);cases q;exact dj nZ I.kIn True.intro ho e' (fun z=>nomatch z) fin
 | str y=>obtain ⟨t,q⟩:=(show ∃ t,u=aq.str y t from rx);cases q;exact dj n4 I.kIn True.intro ho e' (fun z=>nomatch z) fin
 | flt y=>obtain ⟨t,q⟩:=(show ∃ t,u=aq.float y t from rx);cases q;exact dj nE I.kIn True.intro ho e' (fun z=>nomatch z) fin
 | @lst a xs ea=>
  cases (show u=aq.ref a from rx)
  obtain ⟨_,_,n,_,h1⟩:=(show zV X.prog X.w H s.heap a (.lst xs) from I.hok a _ ea)
  exact dj gB I.kIn ⟨_,h1,rfl⟩ ho e' (fun z=>nomatch z) fin
 | @frz a ob xs ea=>
  cases (show u=aq.ref a from rx)
  obtain ⟨_,_,_,n,_,h1⟩:=(show zV X.prog X.w H s.heap a (.frz ob (.lst xs)) from I.hok a _ ea)
  exact dj gB I.kIn ⟨_,h1,rfl⟩ ho e' (fun z=>nomatch z) fin
 | @tup a xs ea=>
  cases (show u=aq.ref a from rx)
  obtain ⟨_,_,_,p⟩:=(show zV X.prog X.w H s.heap a (.tup xs) from I.hok a _ ea)
  obtain ⟨o,h1,h2,_⟩:=p
  exact dj nF I.kIn ⟨o,h1,h2⟩ ho e' (fun z=>nomatch z) fin
 | @dK a kvs ea=>
  cases (show u=aq.ref a from rx)
  obtain ⟨_,_,vs,_,p⟩:=(show zV X.prog X.w H s.heap a (.dK kvs) from I.hok a _ ea)
  obtain ⟨o,es,ep,h1,h2,_⟩:=p
  exact dj gC I.kIn ⟨o,h1,h2.1⟩ ho e' (fun z=>nomatch z) fin
 | @dT a kvs ea=>
  cases (show u=aq.ref a from rx)
  obtain ⟨_,_,xs,_,o,es,ep,h1,h2,_⟩:=(show zV X.prog X.w H s.heap a (.dT kvs) from I.hok a _ ea)
  exact dj gC I.kIn ⟨o,h1,h2.1⟩ ho e' (fun z=>nomatch z) fin
end
def At (K:az)(mg:Str->Option aq)(x:Str)(st:cJ):Prop:=∃ f fd,Fun K x x st f fd/\mg x=some (.ref f)
def Df (P:ba)(w:bE)(K:az)(mg:Str->Option aq)(base:Heap)(x:Str)(ps:List Str)(k:Nat)(sp:Sp):Prop:=
 ∃ f fd,jx P w K mg base CX0 k f fd ps sp/\jv K fd ps []/\dv K (.ref f)=true/\mg x=some (.ref f)/\∃ oc od osl,K.lookup f=some ⟨oc,od,.func fd,osl⟩
variable {mg:Str->Option aq} {base:Heap} {ps:List Str} {j k:Nat} {sp:Sp}
theorem Df.mono {x:Str} (D:Df P w K mg base x ps j sp)(h:j<=k):Df P w K mg base x ps k sp:=
 let ⟨f,fd,F,r⟩:=D
 ⟨f,fd,F.mono h,r⟩
section
variable {X:Cx}{k:Nat}{x:Str}{ps:List Str}{sp:Sp}{p pos:Pos}{e:Expr}{es:List Expr}{t:TA}
theorem zU (D:Df X.prog X.w X.K X.mg X.base x ps k sp)(hr:qm k X.A)(hg:Gl X x)(ha:PA X (e :: es) t)(hdb:(x == ("__debug__":Str))=false:=by decide)
  (he:aV (e :: es) X.env=(false,eval e X.env) :: aV es X.env:=by rfl) (hpl:(cH pos (aV es X.env)).any (·.1)=false:=by rfl):PE X (.Call (.Name x p) (e :: es) [] pos) (KR sp [] E0 t):=by
 obtain ⟨f,fd,F,b,kp,m,_⟩:=D
 exact GJ F hr hg m kp b .nil Y3 ha hdb he hpl
end
variable {st:cJ} {N:List Str}
theorem vU {x:Str} (a:At K mg x st)(S:zn N ps (zd st))
  (hb:∀ (kV doc pm:aq) (an:Option ay) (cdv ct:aq) (us:List aq),us.length=ps.length->fm (b7 x x (qq st) (zN st) (zd st) .none kV doc pm an cdv ct) ⟨us,[]⟩=pure (ps.zip us))
  (len:∀ vs H Q E,sp vs H Q E->vs.length=ps.length)
  (hbody:∀ (f:ay) (cdv:aq) (A:bt) (outer:List Env) (s:ax) (H:Hp) (vs:List V) (Q:VK) (E:XK),qm k (A.deeper (fK x (zd st) s.heap.objs.size f cdv))->sp vs H Q E ->
   ∃ t,PSs (jF CX0 P w K mg base N x (zd st) f cdv A outer s H E).nox (zN st) t/\t { nx:=fun _ H'=>Q .non H',rt:=Q } (qB N vs) H):Df P w K mg base x ps (k+1) sp:=by
 obtain ⟨f,fd,F,m⟩:=a
 obtain ⟨oc,od,kV,doc,pm,an,cdv,ct,osl,_,lk,_⟩:=id F.ex
 exact ⟨f,fd,F.ok S len fun cdv A outer s H vs Q E=>hbody f cdv A outer s H vs Q E,F.binds hb,F.kp,m,oc,od,osl,lk⟩
variable {f:ay} {oc:aq} {od an:Option ay} {osl:Array (Option aq)}
theorem at_mk {h:Heap}{x:Str} {kV doc pm cdv ct:aq}(X:K.In h)(G:h.Ns bz mg)(a:bK K bz x=some (some (.ref f)))
  (l:K.lookup f=some ⟨oc,od,.func (b7 x x (qq st) (zN st) (zd st) .none kV doc pm an cdv ct),osl⟩) (c:fL K cdv x=true) (k:dv K (.ref f)=true):At K mg x st:=⟨f,_,fun_mk l c k,f7 X G a⟩
theorem Df.fn {x:Str} {fd:dz} (D:Df P w K mg base x ps k sp)(m:mg x=some (.ref f))(l:K.lookup f=some ⟨oc,od,.func fd,osl⟩):jx P w K mg base CX0 k f fd ps sp:=by
 obtain ⟨f',fd',F,_,_,m',oc',od',osl',l'⟩:=D
 rw [m] at m'
 cases m'
 rw [l] at l'
 cases l'
 exact F
structure Blt (mg:Str->Option aq):Prop where
 len:mg "len"=none
 range:mg "range"=none
 list:mg "list"=none
 tuple:mg "tuple"=none
 int:mg "int"=none
 bool:mg "bool"=none
 str:mg "str"=none
 abs:mg "abs"=none
 divmod:mg "divmod"=none
 enumerate:mg "enumerate"=none
 zip:mg "zip"=none
 sorted:mg "sorted"=none
 max:mg "max"=none
 min:mg "min"=none
 isinstance:mg "isinstance"=none
 all:mg "all"=none
theorem blt_mk {h:Heap}(X:K.In h)(G:h.Ns bz mg)(z1:bK K bz "len"=some none)(z2:bK K bz "range"=some none)(z3:bK K bz "list"=some none)(z4:bK K bz "tuple"=some none)(z5:bK K bz "int"=some none)(z6:bK K bz "bool"=some none)(z7:bK K bz "str"=some none)(z8:bK K bz "abs"=some none)
  (z9:bK K bz "divmod"=some none) (z10:bK K bz "enumerate"=some none) (z11:bK K bz "zip"=some none) (z12:bK K bz "sorted"=some none) (z13:bK K bz "max"=some none) (z14:bK K bz "min"=some none) (z15:bK K bz "isinstance"=some none) (z16:bK K bz "all"=some none):Blt mg:=
 ⟨bF X G z1,bF X G z2,bF X G z3,bF X G z4,bF X G z5,bF X G z6,bF X G z7,bF X G z8,bF X G z9,bF X G z10,bF X G z11,bF X G z12,bF X G z13,bF X G z14,bF X G z15,bF X G z16⟩
theorem qS:bY "isinstance"=some (.builtin "isinstance"):=by decide +kernel
theorem Z0:bY "sorted"=some (.builtin "sorted"):=by decide +kernel
theorem DY:bY "abs"=some (.builtin "abs"):=by decide +kernel
theorem Am:bY "divmod"=some (.builtin "divmod"):=by decide +kernel
theorem DP:bY "max"=some (.builtin "max"):=by decide +kernel
theorem qg:bY "len"=some (.builtin "len"):=by decide +kernel
theorem kF:bY "list"=some (.type "list"):=by decide +kernel
theorem jy:bY "tuple"=some (.type "tuple"):=by decide +kernel
theorem XO:bY "int"=some (.type "int"):=by decide +kernel
theorem Gp:bY "bool"=some (.type "bool"):=by decide +kernel
theorem LS:bY "str"=some (.type "str"):=by decide +kernel
theorem yT:bY "range"=some (.type "range"):=by decide +kernel
def Kp (bs:List ay)(H H':Hp):Prop:=∀ c o,c ∉ bs->H c=some o->H' c=some o
theorem Kp.refl {bs:List ay}:Kp bs H H:=fun _ _ _ h=>h
variable {H1 H2:Hp}
theorem Kp.trans {bs:List ay} (a:Kp bs H H1)(b:Kp bs H1 H2):Kp bs H H2:=fun c o n h=>b c o n (a c o n h)
theorem Kp.new {bs:List ay} (o:HO)(h:H p=none):Kp bs H (upd H p o):=fun c u _ q=>by rw [zh (zm q h)];exact q
theorem Kp.set {bs:List ay} (o:HO)(h:p ∈ bs):Kp bs H (upd H p o):=fun c u n q=>by have hne:c ≠ p:=(fun e=>n (by rw [e];exact h));rw [zh hne];exact q
variable {H':Hp}
theorem Kp.mono {bs bs':List ay} (a:Kp bs H H')(h:∀ b ∈ bs,b ∈ bs'):Kp bs' H H':=fun c o n q=>a c o (fun z=>n (h c z)) q
theorem Kp.free {H H':Hp}(e:Kp [] H H'){l:ay}(h:H' l=Option.none):H l=Option.none:=by
 cases q:H l with
 | none=>rfl
 | some o=>rw [e l o (by simp) q] at h;cases h
def Bx (H:Hp)(b:ay)(N:Nat):Prop:=∃ x y z:Int,H b=some (.lst [.int x,.int y,.int z])/\0<=x/\0<=y/\y<2147483648/\0<=z/\z<=N
noncomputable abbrev il (ns:List Int):HO:=.lst (ns.map V.int)
variable {qual:Str} {A:bt} {outer:List Env} {s:ax} {E:XK}
theorem cxK {CX:CXT} {cd:aq}:
  (jF CX P w K mg base N qual scope f cd A outer s H E).K=K:=rfl
def Hr (J:It)(g:TG)(tb:TS)(D:kA)(σ:St)(H:Hp):Prop:=∃ W:Nat->Nat->St->Hp->Prop,(∃ m,W 0 m σ H)/\∀ i m σ H,W i m σ H ->
 (J.stop i H/\D.nx σ H) \/ (J.go i H/\∃ N:St->Hp->Prop,(∀ σ' H',N σ' H'->∃ m',m'<m/\W (i+1) m' σ' H')/\∀ x H',J.yld i H x H'->g x σ H' fun σ2 H2=>tb { D with nx:=N,ct:=N,bk:=D.nx } σ2 H2)
variable {wi:TI}
theorem Jh:GZ wi g tb D σ H=wi σ H (fun J H1=>Hr J g tb D σ H1):=rfl
def OO (J:It)(g:TG)(tt:TT)(te:TE)(D:ay)(Q:VK)(τ:St)(H:Hp):Prop:=∃ W:Nat->Nat->St->Hp->Prop,(∃ m,W 0 m τ H)/\∀ i m τ H2,W i m τ H2 ->
 (J.stop i H2/\Q (.ref D) H2) \/ (J.go i H2/\∃ N:St->Hp->Prop,(∀ τ' H',N τ' H'->∃ m',m'<m/\W (i+1) m' τ' H')/\∀ x H',J.yld i H2 x H'->g x τ H' fun τ2 H3=>tt τ2 H3 fun b H4=>
  if b=true then te τ2 H4 fun v H5=>∃ ys,H5 D=some (.lst ys)/\ys.length<aT/\N τ2 (upd H5 D (.lst (ys ++ [v]))) else N τ2 H4)
variable {tt:TT} {te:TE} {Q:VK}
theorem D5:
  K0 ts wi g tt te σ H Q=wi σ H (fun J H1=>∀ D,H1 D=none->OO J g tt te D Q (clr ts σ) (upd H1 D (.lst []))):=rfl
variable {lo:Int} {n:Nat}
theorem BY (Pv:Nat->St->Hp->Prop)(h0:Pv 0 σ H)
  (hs:∀ i σ H,i<n->Pv i σ H->g (.int (lo+i)) σ H fun σ2 H2=>tb { D with nx:=Pv (i+1),ct:=Pv (i+1),bk:=D.nx } σ2 H2) (hd:∀ σ H,Pv n σ H->D.nx σ H):Hr (Itr lo n) g tb D σ H:=WD Pv h0 hs hd
theorem FE (Pv:Nat->St->Hp->Prop)(h0:Pv 0 σ H)(hl:∀ i σ H,i<=xs.length->Pv i σ H->SqL K H a xs)
  (hs:∀ i x σ H,xs[i]?=some x->Pv i σ H->g x σ H fun σ2 H2=>tb { D with nx:=Pv (i+1),ct:=Pv (i+1),bk:=D.nx } σ2 H2) (hd:∀ σ H,Pv xs.length σ H->D.nx σ H):Hr (Itl K a) g tb D σ H:=EG Pv h0 hl hs hd
theorem GH (Pv:Nat->St->Hp->Prop)(h0:Pv 0 σ H)(hl:∀ i σ H,i<=xs.length->Pv i σ H->SqL K H a xs)
  (hs:∀ i x p σ H,xs[i]?=some x->H p=none->Pv i σ H->g (.ref p) σ (upd H p (.tup [.int i,x])) fun σ2 H2=>tb { D with nx:=Pv (i+1),ct:=Pv (i+1),bk:=D.nx } σ2 H2) (hd:∀ σ H,Pv xs.length σ H->D.nx σ H):Hr (Ite K a) g tb D σ H:=Fu Pv h0 hl hs hd
noncomputable def Eu (i j k:Nat)(ta:TA):TS:=fun D σ H=>ta σ H fun vs H1=>∃ v w x,vs=[v,w,x]/\D.nx (((σ.set i (some v)).set j (some w)).set k (some x)) H1
variable {pos:Pos} {i:Nat} {ta:TA}
theorem Gx {x y z:Str}{a b c:Expr} {px py pz pt:Pos}{kt k2 pt2}(hc:X.calm=true)(hN:X.N.Nodup)(hi:X.N[i]?=some x)(hj:X.N[j]?=some y)(hk:X.N[k]?=some z)(hij:i ≠ j)(hik:i ≠ k)(hjk:j ≠ k)
  (hx:X.env.scope.names.lookup x=some .local) (hy:X.env.scope.names.lookup y=some .local) (hz:X.env.scope.names.lookup z=some .local) (ha:PA X [a,b,c] ta)
  (hw:nk [.Tuple [.Name x px,.Name y py,.Name z pz] kt pt] (.Tuple [a,b,c] k2 pt2) X.env=pure (some [x,y,z]))
  (hs:nj [.Tuple [.Name x px,.Name y py,.Name z pz] kt pt] (.Tuple [a,b,c] k2 pt2) pos.line X.env=pure false:=by rfl) :
  PS X (.Assign [.Tuple [.Name x px,.Name y py,.Name z pz] kt pt] (.Tuple [a,b,c] k2 pt2) pos) (Eu i j k ta):=by
 intro pins s σ H D I h
 rw [exec_Assign_arm]
 refine aw (cD ?_)
 rw [hs]
 refine aw (aJ ?_)
 rw [if_neg (by decide)]
 refine aw (Tuple_ (thn (ha _ pins s σ H _ I h) fun us s1 ⟨vs,H1,I1,r1,q1⟩=>?_))
 obtain ⟨v,w,v3,e1,q1⟩:=q1
 subst e1
 obtain ⟨u1,u2,u3,rfl,rv,rw',r3⟩:∃ u1 u2 u3,us=[u1,u2,u3]/\zE v u1/\zE w u2/\zE v3 u3:=by
  cases r1 with
  | cons p q=>
   cases q with
   | cons p' q'=>
    cases q' with
    | cons p'' q''=>
     cases q''
     exact ⟨_,_,_,rfl,p,p',p''⟩
 refine bO ?_ (by show 3<=aT;decide)
 have I2:Inv X pins σ H1 { s1 with heap:=s1.heap.push { cls:=.type "tuple",data:=.seq [u1,u2,u3].toArray } }:=I1.kept (t':=s1.toks) fun b o e=>aD _ e
 rw [hw]
 refine aw (aJ ?_)
 show aL (aN X.prog X.w) X.A (do rule "assign.swapped-stores";let items <- unpackItems (.ref s1.heap.objs.size) 3 none;hJ [fun v=>gv X.env z v,fun v=>gv X.env y v,fun v=>gv X.env x v] items.reverse;pure Flow.next) _ _ _
 refine aw (nz (aw (unpackItems_tuple (items:=#[u1,u2,u3]) (I.ok.hd hc) (IsTup.new s1.heap _) fun h' hx'=>?_)))
 have I3:=I2.kept (h':=h') (t':=s1.toks) fun b o e=>hx' b o (bw (aM e)) e
 show aL _ _ (hJ [fun v=>gv X.env z v,fun v=>gv X.env y v,fun v=>gv X.env x v] [u3,u2,u1] >>= fun _=>pure Flow.next) _ _ _
 refine aw (eF (gw (jz I3 hN hk (.inl hz) r3 (fun s2 I4=>?_) (.inr hz))))
 refine eF (gw (jz I4 hN hj (.inl hy) rw' (fun s3 I5=>?_) (.inr hy)))
 refine eF (gw (jz I5 hN hi (.inl hx) rv (fun s4 I6=>i5 (aJ ?_)) (.inr hx)))
 rw [eA _ _ (Ne.symm hij),eA _ _ (Ne.symm hik),eA _ _ (Ne.symm hjk)] at I6
 refine ⟨_,H1,?_,q1⟩
 first | exact I6 | (rw [eA _ _ hij] at I6;exact I6) | (have e:∀ τ:St,((τ.set k (some v3)).set j (some w)).set i (some v)=((τ.set i (some v)).set j (some w)).set k (some v3):=fun τ=>by rw [eA _ _ (Ne.symm hij),eA _ _ (Ne.symm hik),eA _ _ (Ne.symm hjk)];exact I6)
theorem Pn1_ {α:Type}{p:List α->Prop}(f:∀ a,p [a]):∀ us:List α,us.length=1->p us
 | [_],_=>f _
theorem Pn2_ {α:Type}{p:List α->Prop}(f:∀ a b,p [a,b]):∀ us:List α,us.length=2->p us
 | [_,_],_=>f _ _
theorem Pn3_ {α:Type}{p:List α->Prop}(f:∀ a b c,p [a,b,c]):∀ us:List α,us.length=3->p us
 | [_,_,_],_=>f _ _ _
theorem Pn4_ {α:Type}{p:List α->Prop}(f:∀ a b c d,p [a,b,c,d]):∀ us:List α,us.length=4->p us
 | [_,_,_,_],_=>f _ _ _ _
noncomputable def Jj_:Expr->Option Int
 | .Constant (.int i) _ _=>some i
 | _=>none
noncomputable def XE:List Expr->Option (List Int)
 | []=>some []
 | e :: r=>match Jj_ e with
  | some i=>(XE r).map (i :: ·)
  | none=>none
noncomputable def HJ (is:List Int):TA:=fun _ H Q=>Q (is.map V.int) H
theorem VX {X:Cx}:∀ {es:List Expr} {is:List Int},XE es=some is->PA X es (HJ is)
 | [],is,h=>by
  cases (show some []=some is from h)
  exact zb
 | e :: r,is,h=>by
  unfold XE at h
  split at h
  ·rename_i i hi
   obtain ⟨js,e',rfl⟩:=fh.mp h
   unfold Jj_ at hi
   split at hi
   ·cases hi;exact za (te:=tC (.int i)) zg (VX e')
   ·cases hi
  ·cases h
theorem Z4:ju X (.type "int") (fun xs H Q=>∃ k,xs=[.bl k]/\Q (.int (if k then 1 else 0)) H):=by
 intro pins s σ H xs us Q I r h
 exact Ah pins s σ H xs us Q I r (.inr h)
variable {b:ay}
theorem Bx.mono {N M:Nat}(h:Bx H b N)(le:N<=M):Bx H b M:=let ⟨x,y,z,h1,h2,h3,h4,h5,h6⟩:=h;⟨x,y,z,h1,h2,h3,h4,h5,by omega⟩
variable {o:HO}
theorem Bx.new {N:Nat} (h:Bx H b N)(hp:H p=none):Bx (upd H p o) b N:=let ⟨x,y,z,h1,r⟩:=h;⟨x,y,z,(zh (zm h1 hp)).trans h1,r⟩
def zF (n:Nat)(ns:List Int):Prop:=ns.length=n/\ns.Nodup/\∀ x ∈ ns,0<=x/\x<(n:Int)
theorem Zx:∀ (n:Nat) (l:List Int),l.Nodup->(∀ x ∈ l,0<=x/\x<(n:Int))->l.length<=n
 | 0,l,_,h=>by
  cases l with
  | nil=>exact aF _
  | cons x r=>have:=h x bJ;omega
 | n+1,l,hn,h=>by
  have ih:=Zx n (l.erase (n:Int)) (hn.erase _) (fun x hx=>by
   have h1:=h x (my hx)
   have h2:x ≠ (n:Int):=fun e=>by
    subst e
    exact (hn.not_mem_erase) hx
   omega)
  by_cases hm:(n:Int) ∈ l
  ·rw [eU hm] at ih;omega
  ·rw [List.erase_of_not_mem hm] at ih;omega
variable {ns:List Int}
theorem zF.surj (h:zF n ns){x:Int}(h0:0<=x)(h1:x<n):x ∈ ns:=by
 obtain ⟨l,d,b⟩:=h
 refine ck fun hm=>?_
 have:=Zx n (x :: ns) (bT.mpr ⟨hm,d⟩) (fun y hy=>by
  rcases aO.mp hy with rfl | hy
  ·exact ⟨h0,h1⟩
  ·exact b y hy)
 rw [aK,l] at this
 omega
theorem zF.getD (h:zF n ns) (hi:i<n):0<=ns.getD i 0/\ns.getD i 0<n:=by
 obtain ⟨l,d,b⟩:=h
 have hi':i<ns.length:=by omega
 have e:ns.getD i 0=ns[i]:=by rw [af,aj hi'];rfl
 rw [e]
 exact b _ (bo hi')
theorem j0 (h:i<ns.length):ns.getD i 0=ns[i]:=by rw [af,aj h];rfl
theorem zF.inj (h:zF n ns) (hi:i<n)(hj:j<n)(e:ns.getD i 0=ns.getD j 0):i=j:=by
 obtain ⟨l,d,b⟩:=h
 rw [j0 (by omega),j0 (by omega)] at e
 exact (fN d).mp e
theorem zF.ex (h:zF n ns) (hj:j<n):∃ i,i<n/\ns.getD i 0=(j:Int):=by
 have hm:=h.surj (x:=(j:Int)) (by omega) (by omega)
 obtain ⟨i,hi,e⟩:=mP.mp hm
 exact ⟨i,by rw [<- h.1];exact hi,by rw [j0 hi];exact e⟩
theorem Wm (n:Nat) (h:i<n):(zA 0 1 n).getD i 0=(i:Int):=by
 rw [j0 (by rw [zD];exact h)]
 simp [zA]
theorem Kp.drop1 {bs:List ay} (hp:H p=none)(k:Kp (p :: bs) (upd H p o) H'):Kp bs H H':=fun c u n h=>by
 have hne:c ≠ p:=zm h hp
 refine k c u ?_ ((zh hne).trans h)
 intro hm
 rcases aO.mp hm with e | e
 ·exact hne e
 ·exact n e
theorem w8 {v:Int}(h:i<ns.length):(ns.set i v).getD j 0=if j=i then v else ns.getD j 0:=by
 rw [af,bj]
 by_cases e:i=j
 ·subst e;simp [h]
 ·rw [if_neg e,if_neg (Ne.symm e),af]
noncomputable def Xo:V->V->V->Hp->(Hp->Prop)->Prop:=fun o i v H Q=>∃ k,i=.int k/\∃ p,o=.ref p/\∃ xs,H p=some (.lst xs)/\∃ j,ixN xs.length k=some j/\Q (upd H p (.lst (xs.set j v)))
section
variable {X:Cx}
theorem qD:MtR X "list.append" wc:=vg
theorem jg {t:TGs} (n:Nat)(h:X.K=K)(hc:X.calm=true)(hs:PGs X es t)(hn:(gi es X.env).length=n:=by rfl)(hst:(gi es X.env).findIdx? (·.1)=none:=by rfl):PG X (.Tuple es k pos) (Aj K n t):=h ▸ Mq hc hs hn hst
theorem zL:FZ X Xo:=by
 intro pins s σ H o i v ov iv u Q I ro ri rv h
 obtain ⟨k,e1,p,e2,xs,h1,j,h2,q⟩:=h
 exact BX pins s σ H o i v ov iv u Q I ro ri rv ⟨p,xs,k,j,e2,e1,h1,h2,q⟩
theorem AL (h:X.K=K):SlR X (G2 K):=h ▸ xO
end
def EL (os bs:List Int):Prop:=bs.length=os.length/\∀ i,i<os.length->bs.getD (os.getD i 0).toNat 0=(i:Int)
noncomputable def Ky (os:List Int)(k:Nat):Nat:=((bI k).filter fun (i:Nat)=>!decide (os.getD i 0=(i:Int))).length
section
variable {X:Cx}
noncomputable def Yy (K:az):R2:=fun x y H Q=>∃ p xs i v,x=.ref p/\y=.int i/\(SqL K H p xs \/ SqT K H p xs)/\atI xs i=some v/\Q v H
theorem zI:IxR X (Yy X.K):=by
 intro value slice pins s σ H x y v u Q I rx ry h hs
 obtain ⟨p,xs,i,z,e1,e2,hq | hq,he,q⟩:=h
 ·exact qC value slice pins s σ H x y v u Q I rx ry ⟨p,xs,i,z,e1,e2,hq,he,q⟩ hs
 ·exact Za value slice pins s σ H x y v u Q I rx ry ⟨p,xs,i,z,e1,e2,hq,he,q⟩ hs
theorem wO (h:X.K=K):IxR X (Yy K):=h ▸ zI
theorem LY:bY "all"=some (.builtin "all"):=by decide +kernel
theorem ZH:∀ {bs:List Bool} {us:List aq},zz (bs.map V.bl) us->us=bs.map aq.bool
 | [],_,h=>by cases h;rfl
 | b :: bs,_,h=>by
  cases h with
  | cons r rs=>cases r;rw [ZH rs];rfl
theorem XS (bs:List Bool):((bI bs.length).all fun i=>(bs[i]?).getD true)=bs.all id:=by
 rw [d7,fP,fP]
 constructor
 ·intro h x hx
  obtain ⟨i,hi,rfl⟩:=List.getElem_of_mem hx
  have:=h i (by simpa using hi)
  simpa [aj hi] using this
 ·intro h i hi
  have hi':i<bs.length:=by simpa using hi
  simpa [aj hi'] using h bs[i] (bo hi')
theorem WZ (hc:X.calm=true):ju X (.builtin "all") (fun xs H Q=>∃ p bs,xs=[.ref p]/\SqL X.K H p (bS V.bl bs)/\Q (.bl (bs.all id)) H):=by
  intro pins s σ H xs us Q I r h
  obtain ⟨p,bs,rfl,hq,q⟩:=h
  obtain ⟨u,rfl,rx⟩:=ki r
  cases rx
  obtain ⟨its,rv,pl,hz⟩:=I.list hq
  have hu:=ZH rv
  subst hu
  have hlt:p<s.heap.objs.size:=by obtain ⟨_,e,_⟩:=pl.isList;exact aM e
  refine call_all_walk (i6 pl.isList ?_)
  refine ⟨s.heap.objs.size,[s.heap.objs.size,p],[s.heap.objs.size],(bs.map aq.bool).toArray.size,_,_,fun i=>(bs[i]?).getD true,rfl,Walks.list (A:=X.A.in1) (I.ok.hd hc) _ p (bw hlt) (bs.map aq.bool).toArray,
    ⟨⟨_,aS _ rfl,rfl,rfl⟩,pl.isList.push _⟩,fun i v s' Q' E' hP hQ=>?_,fun h' tk hk=>?_⟩
  · have hP':(bs.map aq.bool)[i]?=some v:=by simpa using hP
    rw [aE] at hP'
    cases e:bs[i]? with
    | none=>rw [e] at hP';cases hP'
    | some b=>
      rw [e] at hP'
      cases hP'
      simp only [e,og] at hQ
      exact dU hQ
  · have e : ((bI (bs.map aq.bool).toArray.size).all fun i => (bs[i]?).getD true) = bs.all id := by
      rw [aH,am];exact XS bs
    rw [e]
    refine ⟨.bl (bs.all id),H,I.turnedL (ch:=[]) (tk:=tk) (fun b hb=>nomatch hb) (fun b o _ eb=>?_),rfl,q⟩
    exact hk b o (fun hm=>by rw [cK.mp hm] at eb;exact de _ (aM eb)) (aD _ eb)
end
noncomputable def nxt (os:List Int)(p:Int):Int:=os.getD p.toNat 0
noncomputable def itn (os:List Int):Nat->Int->Int
 | 0,p=>p
 | k+1,p=>nxt os (itn os k p)
theorem qQ {n:Nat}{os:List Int}(h:zF n os){p:Int}(p0:0<=p)(p1:p<n):∀ k,0<=itn os k p/\itn os k p<n
 | 0=>⟨p0,p1⟩
 | k+1=>by
  have:=qQ h p0 p1 k
  exact h.getD (by omega)
theorem kM (os:List Int)(p:Int)(b:Nat):∀ a,itn os (a+b) p=itn os a (itn os b p)
 | 0=>by rw [lZ];rfl
 | a+1=>by
  rw [show a+1+b=(a+b)+1 by omega]
  show nxt os (itn os (a+b) p)=nxt os (itn os a (itn os b p))
  rw [kM os p b a]
variable {os:List Int}
theorem GM (h:zF n os){x y:Int}(x0:0<=x)(x1:x<n)(y0:0<=y)(y1:y<n)(e:nxt os x=nxt os y):x=y:=by
 have:=h.inj (i:=x.toNat) (j:=y.toNat) (by omega) (by omega) e
 omega
theorem Q9 {n:Nat}{os:List Int}(h:zF n os){x y:Int}(x0:0<=x)(x1:x<n)(y0:0<=y)(y1:y<n):∀ k,itn os k x=itn os k y->x=y
 | 0,e=>e
 | k+1,e=>by
  have bx:=qQ h x0 x1 k
  have by':=qQ h y0 y1 k
  exact Q9 h x0 x1 y0 y1 k (GM h bx.1 bx.2 by'.1 by'.2 e)
theorem YW (h:zF n os){p:Int}(p0:0<=p)(p1:p<n):∃ M,1<=M/\M<=n/\itn os M p=p:=by
 apply ck
 intro hno
 have hp:((bI (n+1)).map fun i=>itn os i p).Nodup:=by
  rw [oM,dZ]
  refine dM.imp_of_mem (R:=fun a b=>a<b) ?_ List.pairwise_lt_range
  intro a b ha hb hlt e
  have hb':b<n+1:=by simpa using hb
  refine hno ⟨b - a,by omega,by omega,?_⟩
  have bb:=qQ h p0 p1 (b - a)
  refine (Q9 h p0 p1 bb.1 bb.2 a ?_).symm
  rw [<- kM,show a+(b - a)=b by omega]
  exact e
 have:=Zx n _ hp (fun x hx=>by
  obtain ⟨i,_,rfl⟩:=bn.mp hx
  exact qQ h p0 p1 i)
 rw [am,cq] at this
 omega
def Mp (os:List Int)(p:Int)(m:Nat)(e:Int):Prop:=1<=m/\e=itn os m p/\e<=p/\∀ j,1<=j->j<m->p<itn os j p
open Classical in
noncomputable def wkM (os:List Int)(p:Int):Nat:=if h:∃ m,∃ e,Mp os p m e then gW h else 0
open Classical in
noncomputable def wkE (os:List Int)(p:Int):Int:=itn os (wkM os p) p
section
variable {P:ba}{w:bE}{A:bt}{E:aq->ax->Prop}{s:ax}{j t:ay}{i:Nat}{its:Array aq}{Q:aq->ax->Prop}
theorem Q1 {x:aq}(hj:s.heap.IsTupleIter j t i)(ht:s.heap.IsTuple t its)(hx:its[i]?=some x)(hQ:∀ h',h'.IsTupleIter j t (i+1)->eg j s.heap h'->Q x { s with heap:=h' }):aL (aN P w) A (eK (.ref j)) Q E s:=by
 obtain ⟨o,ho,hc,hd⟩:=id hj
 obtain ⟨ot,hot,_,nt,hdt⟩:=ht
 unfold eK
 refine aw (dY (name:=au "__next__") hj.typeIs F.slot_tuple_iterator_next (eY F.slot_tuple_iterator_next hj.typeIs F.entry_tuple_iterator_next ?_ (F.args_tuple_iterator_next_1 _)))
 refine aw (m:=field (.ref j) 0) (cY ho hd (x:=.ref t) rfl ?_);show aL _ _ (if (aq.ref t == aq.none)=true then _ else _) _ _ s;rw [if_neg (show ¬ ((aq.ref t == aq.none)=true) from aW)]
 refine aw (m:=field (.ref j) 1) (cY ho hd (x:=.int i 0) rfl ?_);refine aw (m:=seqItems? (.ref t)) (wpAny_seqItems hot hdt ?_);simp only [aY,hx]
 refine aw (mQ ho hd (by simp) (aJ ⟨x,rfl,aJ (hQ _ ⟨_,dJ _ ho (Obj.isFreed_of_fields (gq hd _)),(Obj.cls_mapFields ..).trans hc,by rw [gq hd];simp [mF]⟩ (eg.update ..))⟩))
theorem vL (hh:A.handled=none)(hj:s.heap.IsTupleIter j t i)(ht:s.heap.IsTuple t its)(hx:its[i]?=none)(hE:∀ h' e,Heap.ExtBut j s.heap h'->(∃ o,h'.get? e=some o/\o.cls=.type "StopIteration")->E (.ref e) { s with heap:=h' }):aL (aN P w) A (eK (.ref j)) Q E s:=by
 obtain ⟨o,ho,hc,hd⟩:=id hj
 obtain ⟨ot,hot,_,nt,hdt⟩:=ht
 unfold eK
 refine aw (dY (name:=au "__next__") hj.typeIs F.slot_tuple_iterator_next (eY F.slot_tuple_iterator_next hj.typeIs F.entry_tuple_iterator_next ?_ (F.args_tuple_iterator_next_1 _)))
 refine aw (m:=field (.ref j) 0) (cY ho hd (x:=.ref t) rfl ?_);show aL _ _ (if (aq.ref t == aq.none)=true then _ else _) _ _ s;rw [if_neg (show ¬ ((aq.ref t == aq.none)=true) from aW)]
 refine aw (m:=field (.ref j) 1) (cY ho hd (x:=.int i 0) rfl ?_);refine aw (m:=seqItems? (.ref t)) (wpAny_seqItems hot hdt ?_);simp only [aY,hx]
 refine aw (nz (aw (mQ ho hd (by simp) ?_)));refine aw (m:=newExc (.type "StopIteration") []) ?_;simp only [newExc,newTuple];refine aw (bO ?_ (by size_fits));refine aw (m:=firstArgMember _ _) (wpAny_of_eq (a:=aq.none) (by first | rfl | (simp only [firstArgMember];rfl)) ?_);refine bO ?_ (by size_fits);simp only [raiseNew];refine aw (wpAny_handled ?_)
 (first | rw [show A.in1.handled=none from hh] | rw [hh]);refine aw (aJ (wpAny_throw ?_));exact hE _ _ (((eg.update ..).extBut.push _).push _) ⟨_,aS _ rfl,rfl⟩
end
theorem Ae (hh:A.handled=none)(j t:ay)(hne:t ≠ j)(its:Array aq) :
  Draws P w A j [j,t] its.size (fun i v=>its[i]?=some v) (fun i h=>h.IsTupleIter j t i/\h.IsTuple t its) where
 live:=fun _ _ st=>let ⟨o,ho,_⟩:=st.1;⟨o,ho⟩
 frame:=fun _ _ _ st hk=>⟨st.1.at fun o e=>hk j (by simp) o e,let ⟨o,ho,r⟩:=st.2;⟨o,hk t (by simp) o ho,r⟩⟩
 item:=fun i s Q E hi st hQ=>by
  refine Q1 st.1 st.2 (x:=its[i]) (by simp [hi]) fun h' hit' hs'=>?_
  exact hQ _ h' s.toks (by simp [hi]) ⟨hit',let ⟨o,ho,r⟩:=st.2;⟨o,(hs'.2 t hne).trans ho,r⟩⟩ hs'
 done:=fun s Q E st hE=>vL hh st.1 st.2 (by simp) hE
open AutoSeq1 (wpAny_loadPart') in
theorem Wg (l:ay)(its:Array aq)(n:Nat)(dct:Option ay)(sl:Array (Option aq)) :
  Meets (Builtin.«enumerate.__new__» ⟨[.type "enumerate",.ref l],[]⟩) (fun _ R s=>s.heap.get? l=some { cls:=.type "tuple",dict:=dct,data:=.seq its n,slots:=sl }/\R (.ok (.ret (.ref (s.heap.push { cls:=.type "tuple_iterator",data:=.fields #[.ref l,.int 0 0] }).objs.size))) { s with heap:=(s.heap.push { cls:=.type "tuple_iterator",data:=.fields #[.ref l,.int 0 0] }).push { cls:=.type "enumerate",data:=.fields #[.none,.bool false,.ref s.heap.objs.size,mF 0,.none,.none] } }):=
 .of_wp fun prog w A R s h=>by
  obtain ⟨hp,g,d,tk,os⟩:=s
  obtain ⟨hl,h⟩:=h
  have hsub:=sub_enumerate
  have hT:Heap.IsTuple (ax.heap ⟨hp,g,d,tk,os⟩) l its:=⟨_,hl,rfl,n,rfl⟩
  wp_walk using dI hl
  refine wpAny_stack_any fun st=>aJ ?_
  split
  ·rename_i c _ _ _ _ _
   cases (c == aq.type "enumerate")
   ·wp_walk using dI hl,gr hT;exact ⟨_,rfl,h⟩
   ·wp_walk using dI hl,gr hT;exact ⟨_,rfl,h⟩
  ·wp_walk using dI hl,gr hT;exact ⟨_,rfl,h⟩
variable {l:ay} {its:Array aq}
theorem X0 {E:aq->ax->Prop} {Q:aq->ax->Prop}(hT:s.heap.IsTuple l its)
  (h:∀ h',IsEnum h' (s.heap.objs.size+1) s.heap.objs.size 0 .none->h'.IsTupleIter s.heap.objs.size l 0->(∀ b o,s.heap.get? b=some o->h'.get? b=some o)->Q (.ref (s.heap.objs.size+1)) { s with heap:=h' }) :
  aL (aN P w) A (call (.type "enumerate") [.ref l]) Q E s:=by
 obtain ⟨⟨c,dct,dt,sl⟩,hl,hc,n,hd⟩:=hT
 replace hc:c=.type "tuple":=hc
 replace hd:dt=.seq its n:=hd
 subst hc hd
 refine callType_new F.called_enumerate (by decide) (F.typeCall_enumerate_1 _) (F.newCall_enumerate_1 _) (fun obj=>F.args_object_init_2 obj _) F.entry_enumerate_new (Wg l its n dct sl) ⟨hl,?_⟩
 have hz:(s.heap.push { cls:=.type "tuple_iterator",data:=.fields #[.ref l,.int 0 0] }).objs.size=s.heap.objs.size+1:=gA ..
 show _/\_
 rw [hz]
 have he:IsEnum ((s.heap.push { cls:=.type "tuple_iterator",data:=.fields #[.ref l,.int 0 0] }).push { cls:=.type "enumerate",data:=.fields #[.none,.bool false,.ref s.heap.objs.size,mF 0,.none,.none] }) (s.heap.objs.size+1) s.heap.objs.size 0 .none:=by
  have hg:=aS (s.heap.push { cls:=.type "tuple_iterator",data:=.fields #[.ref l,.int 0 0] }) (o:={ cls:=.type "enumerate",data:=.fields #[.none,.bool false,.ref s.heap.objs.size,mF 0,.none,.none] }) rfl
  rw [hz] at hg;exact hg
 exact ⟨⟨_,he,rfl⟩,h _ he ⟨_,aD _ (aS _ rfl),rfl,rfl⟩ fun b o x=>aD _ (aD _ x)⟩
theorem Aq {E:aq->ax->Prop} {e j t:ay} {old:aq}{Q:Option aq->ax->Prop}(hh:A.handled=none)
  (he:IsEnum s.heap e j i old) (hj:s.heap.IsTupleIter j t i) (ht:s.heap.IsTuple t its) (hx:its[i]?=none) (hQ:∀ h',Heap.ExtBut j s.heap h'->Q none { s with heap:=h' }):aL (aN P w) A (oF (.ref e)) Q E s:=by
 have hT:s.TypeIs (.ref e) "enumerate":=⟨_,he,rfl⟩
 unfold oF
 refine aw (wpAny_attempt (dY (name:=au "__next__") hT F.slot_enumerate_next (eY F.slot_enumerate_next hT F.entry_enumerate_next ?_ (F.args_enumerate_next_1 _))))
 refine aw (m:=field (.ref e) 2) (cY he rfl (x:=.ref j) rfl ?_);refine aw (vL hh hj ht hx fun h' x he' hx'=>?_)
 obtain ⟨o,ho,hc⟩:=hx'
 refine aw (wpAny_isInstance (T:="StopIteration") (b:=true) ⟨o,ho,hc⟩ isSubtype_stop ?_);exact aJ (hQ _ he')
noncomputable def NJ (K:az)(a:ay):It:=
 ⟨fun i H=>∃ xs x,SqT K H a xs/\xs[i]?=some x,fun i H y H'=>∃ p x,H p=none/\y=.ref p/\(∀ xs,SqT K H a xs->xs[i]?=some x)/\H'=upd H p (.tup [.int i,x]),fun i H=>∃ xs,SqT K H a xs/\xs.length<=i⟩
theorem Xx (a e it:ay)(hei:e ≠ it)(hea:e ≠ a)(hai:a ≠ it):Kg P w K (.Tuple es kt tp) (NJ K a) [e,it] e (fun i h=>(∃ old,IsEnum h e it (i:Nat) old)/\h.IsTupleIter it a i) where
 mem:=by simp
 obj:=fun i h st b hb=>by
  obtain ⟨⟨old,he⟩,⟨o,e1,c,d⟩⟩:=st
  rcases aO.mp hb with rfl | hb
  ·exact ⟨_,he,fun v z=>by have z':mG _=lC v:=z;cases z'⟩
  ·have e2:b=it:=by simpa using hb
   subst e2
   exact ⟨o,e1,fun v z=>by rw [d] at z;cases z⟩
 keep:=fun i h h' st k=>by
  obtain ⟨⟨old,he⟩,st⟩:=st
  exact ⟨⟨old,k e (by simp) _ he⟩,st.at fun o e=>k it (by simp) o e⟩
 item:=by
  intro X hP hw hK hc i pins s σ H E I hf st hg
  subst hP hw hK
  obtain ⟨⟨old,he⟩,st⟩:=st
  obtain ⟨xs,x,hq,hx⟩:=hg
  obtain ⟨its,rv,p,hz⟩:=I.tuple hq
  obtain ⟨u,hu,ru⟩:=rv.get hx
  have hlt:i<its.toArray.size:=by
   have:=(aA.mp hu).1
   simpa using this
  refine wpAny_pyNext_enum_itemD (Ae (A:=X.A.in1) (I.ok.hd hc) it a hai its.toArray) he ⟨st,p⟩ hlt hei (by simp [hei,hea]) fun x' h1 tk hP heo hit1 ht1 hz1 hk1=>?_
  have hxu:x'=u:=by
   have h1':its[i]?=some x':=by simpa using hP
   rw [hu] at h1';cases h1';rfl
  subst hxu
  refine ⟨.ref s.heap.objs.size,rfl,iI heo fun h2 he2 hs2=>?_⟩
  replace hs2:eg e h1 h2:=hs2
  have elt:e<s.heap.objs.size:=aM he
  have ht2:=(hs2.2 _ (e7 elt)).trans ht1
  have I2:Inv X pins σ (upd H s.heap.objs.size (.tup [.int i,x])) { s with heap:=h2,toks:=tk+1 }:=by
   refine I.yieldTup (us:=[.int i tk,x']) hf (fun b o hb q=>?_) (aF _) ht2 (.cons ⟨_,rfl⟩ (.cons ru .nil)) (by show 2<=aT;decide)
   have n1:b ≠ e:=fun z=>hb (by simp [z])
   have n2:b ≠ it:=fun z=>hb (by simp [z])
   exact (hs2.2 b n1).trans (hk1 b o n1 n2 q)
  refine ⟨.ref s.heap.objs.size,_,I2,rfl,⟨s.heap.objs.size,x,I.hok.fresh (aF _),rfl,fun ys hy=>by rw [I.tuple_inj hy hq];exact hx,rfl⟩,⟨⟨_,by simpa using he2⟩,hit1.1.extBut hs2.extBut (Ne.symm hei)⟩,fun b hb=>?_⟩
  have hlt:b<s.heap.objs.size:=by
   rcases aO.mp hb with rfl | hb
   ·exact elt
   ·have e2:b=it:=by simpa using hb
    subst e2
    obtain ⟨o,e1,_⟩:=st
    exact aM e1
  rw [zh (bw hlt)]
  exact (hf b hb).1
 done:=by
  intro X hP hw hK hc i pins s σ H E I hf st hg
  subst hP hw hK
  obtain ⟨⟨old,he⟩,st⟩:=st
  obtain ⟨xs,hq,hx⟩:=hg
  obtain ⟨its,rv,p,hz⟩:=I.tuple hq
  obtain ⟨f0,f1,f2,f3,f4,f5⟩:=hf it (by simp)
  have hl:=rv.length
  exact Aq (I.ok.hd hc) he st p (by simp;omega) fun h' eb=>⟨rfl,I.turned (t':=s.toks) (fun b o hb e=>eb b o hb e) f0 f1 f3 f4 f5⟩
 self:=fun _ _ _ _ _ st h=>by
  obtain ⟨⟨old,he⟩,_⟩:=st
  exact fE he h
section
variable {X:Cx}{es:List Expr}{kt:Nat}{tp:Pos}
noncomputable def Q4 (K:az)(ta:TA):TI:=fun σ H R=>ta σ H fun vs H1=>∃ a,vs=[.ref a]/\(((∃ xs,SqL K H1 a xs)/\R (Ite K a) H1) \/ ((∃ xs,SqT K H1 a xs)/\R (NJ K a) H1))
theorem Qj {e:Expr} {p pos:Pos}(hg:Gl X "enumerate")(hm:X.mg "enumerate"=none)(ha:PA X [e] ta)(hs:aV [e] X.env=[(false,eval e X.env)]:=by rfl) :
  PI X (.Tuple es kt tp) (.Call (.Name "enumerate" p) [e] [] pos) (Q4 X.K ta):=by
 intro pins s σ H R I h
 refine Call_ (vt I hg hm (Zh) (eh (thn (ha pos pins s σ H _ I h) fun us s1 ⟨vs,H1,I1,r1,q1⟩=>?_) hs rfl))
 obtain ⟨a,e,q⟩:=q1
 subst e
 obtain ⟨u,rfl,ru⟩:=ki r1
 cases ru
 have hb':∀ b ∈ [s1.heap.objs.size+1,s1.heap.objs.size],s1.heap.objs.size<=b:=by
  intro b hb
  simp only [aO,cm,or_false] at hb
  omega
 rcases q with ⟨⟨xs,hq⟩,q⟩ | ⟨⟨xs,hq⟩,q⟩
 ·obtain ⟨its,rv,pl,hz⟩:=I1.list hq
  refine call_enumerate_list pl.isList fun h' he hit hsz hk=>fE he ?_
  have I2:Inv X pins σ H1 { s1 with heap:=h' }:=I1.kept (t':=s1.toks) hk
  exact ⟨s1.heap.objs.size+1,[s1.heap.objs.size+1,s1.heap.objs.size],_,_,H1,rfl,I2,Z5 a _ _ (lH _),⟨⟨_,he⟩,hit⟩,fun b hb=>I1.fpOk (hb' b hb) (I1.hok.fresh (hb' b hb)),q⟩
 ·obtain ⟨its,rv,pl,hz⟩:=I1.tuple hq
  have alt:a<s1.heap.objs.size:=by obtain ⟨o,e,_⟩:=pl;exact aM e
  refine X0 pl fun h' he hit hk=>fE he ?_
  have I2:Inv X pins σ H1 { s1 with heap:=h' }:=I1.kept (t':=s1.toks) hk
  exact ⟨s1.heap.objs.size+1,[s1.heap.objs.size+1,s1.heap.objs.size],_,_,H1,rfl,I2,Xx a (s1.heap.objs.size+1) s1.heap.objs.size (lH _) (e7 (lh alt)) (bw alt),⟨⟨_,he⟩,hit⟩,fun b hb=>I1.fpOk (hb' b hb) (I1.hok.fresh (hb' b hb)),q⟩
end
theorem MW (h:SqT K H a xs)(e:Kp [] H H'):SqT K H' a xs:=by
 rcases h with (h | ⟨o,h⟩) | h
 ·exact .inl (.inl (e _ _ (by simp) h))
 ·exact .inl (.inr ⟨o,e _ _ (by simp) h⟩)
 ·exact .inr h
theorem IY (h:SqL K H a xs)(e:Kp [] H H'):SqL K H' a xs:=by
 rcases h with (h | ⟨o,h⟩) | h
 ·exact .inl (.inl (e _ _ (by simp) h))
 ·exact .inl (.inr ⟨o,e _ _ (by simp) h⟩)
 ·exact .inr h
def ME (t:TE):Prop:=∀ σ H Q Q',(∀ v H1,Q v H1->Q' v H1)->t σ H Q->t σ H Q'
def MT (t:TT):Prop:=∀ σ H Q Q',(∀ v H1,Q v H1->Q' v H1)->t σ H Q->t σ H Q'
def MR (r:R2):Prop:=∀ x y H Q Q',(∀ z H1,Q z H1->Q' z H1)->r x y H Q->r x y H Q'
theorem DL:ME (ZC i):=fun _ _ _ _ hq ⟨v,e,h⟩=>⟨v,e,hq _ _ h⟩
variable {r:R2}
theorem Od {ta tb:TE}(hr:MR r)(ha:ME ta)(hb:ME tb):ME (tOp r ta tb):=fun _ _ _ _ hq h=>ha _ _ _ _ (fun _ _ h1=>hb _ _ _ _ (fun _ _ h2=>hr _ _ _ _ _ hq h2) h1) h
theorem FO {t:TE}(h:ME t):MT (YI t):=fun _ _ _ _ hq q=>h _ _ _ _ (fun _ _ ⟨k,e,z⟩=>⟨k,e,hq _ _ z⟩) q
theorem KH {p:Nat->Prop}:∀ n,p n->∃ m,p m/\∀ j,j<m->¬ p j:=by
 intro n
 induction n using Nat.strongRecOn with
 | _ n ih=>
  intro h
  by_cases hx:∃ j,j<n/\p j
  ·obtain ⟨j,hj,pj⟩:=hx
   exact ih j hj pj
  ·exact ⟨n,h,fun j hj pj=>hx ⟨j,hj,pj⟩⟩
def kS (os:List Int)(p:Int)(m:Nat):Prop:=1<=m/\itn os m p=p/\∀ j,1<=j->j<m->itn os j p ≠ p
theorem kS.uniq {p:Int}{m m':Nat}(h:kS os p m)(h':kS os p m'):m=m':=by
 obtain ⟨a1,a3,a4⟩:=h
 obtain ⟨b1,b3,b4⟩:=h'
 rcases Nat.lt_trichotomy m m' with z | z | z
 ·exact absurd a3 (b4 m a1 z)
 ·exact z
 ·exact absurd b3 (a4 m' b1 z)
theorem jC (h:zF n os){p:Int}(p0:0<=p)(p1:p<n):∃ m,kS os p m/\m<=n:=by
 obtain ⟨M,h1,h2,h3⟩:=YW h p0 p1
 obtain ⟨m,⟨m1,m2⟩,m3⟩:=KH (p:=fun k=>1<=k/\itn os k p=p) M ⟨h1,h3⟩
 refine ⟨m,⟨m1,m2,fun j j1 jm e=>m3 j jm ⟨j1,e⟩⟩,?_⟩
 rcases nV M m with z | z
 ·exact absurd ⟨h1,h3⟩ (m3 M z)
 ·omega
open Classical in
noncomputable def per (os:List Int)(p:Int):Nat:=if h:∃ m,kS os p m then gW h else 0
theorem kS.per {os:List Int}{p:Int}{m:Nat}(h:kS os p m):per os p=m:=by
 have hx:∃ m,kS os p m:=⟨m,h⟩
 unfold L2.per
 rw [dif_pos hx]
 exact (gO hx).uniq h
noncomputable def itl (os:List Int)(p:Int)(k:Nat):List Int:=(bI k).map fun i=>itn os i p
theorem DV (os:List Int)(p:Int)(k:Nat):itl os p (k+1)=itl os p k ++ [itn os k p]:=by
 unfold itl;rw [mw,aQ];rfl
theorem qT (os:List Int)(p:Int)(k:Nat):(itl os p k).length=k:=by simp [itl]
theorem qx {p:Int} {x:Int}:x ∈ itl os p k ↔ ∃ i,i<k/\itn os i p=x:=by
 unfold itl
 rw [bn]
 constructor
 ·rintro ⟨i,hi,e⟩
  exact ⟨i,by simpa using hi,e⟩
 ·rintro ⟨i,hi,e⟩
  exact ⟨i,by simpa using hi,e⟩
noncomputable def zG (os:List Int)(p:Int):List Int:=itl os p (per os p)
def Rch (os:List Int)(q x:Int):Prop:=∃ k,itn os k q=x
theorem Rch.refl {p:Int}:Rch os p p:=⟨0,rfl⟩
theorem Rch.trans {p q r:Int}(a:Rch os p q)(b:Rch os q r):Rch os p r:=by
 obtain ⟨i,rfl⟩:=a
 obtain ⟨j,rfl⟩:=b
 exact ⟨j+i,kM os p i j⟩
theorem QP {os:List Int}{p:Int}{m:Nat}(h:itn os m p=p):∀ k,itn os (k * m) p=p
 | 0=>by rw [Nat.zero_mul];rfl
 | k+1=>by rw [Nat.succ_mul,nR,kM,QP h k,h]
variable {m:Nat}
theorem FY {p:Int} (h:itn os m p=p)(k:Nat):itn os k p=itn os (k % m) p:=by
 have e:k=k % m+(k / m) * m:=by rw [Nat.mul_comm];exact (Nat.mod_add_div k m).symm
 conv=>lhs;rw [e]
 rw [kM,QP h]
theorem Rch.symm (h:zF n os){p q:Int}(p0:0<=p)(p1:p<n)(a:Rch os p q):Rch os q p:=by
 obtain ⟨k,rfl⟩:=a
 obtain ⟨M,h1,_,h3⟩:=YW h p0 p1
 refine ⟨(k+1) * M - k,?_⟩
 have hle:k<=(k+1) * M:=bf (h9 k) (Nat.le_mul_of_pos_right _ h1)
 rw [<- kM,Nat.sub_add_cancel hle,QP h3]
theorem Rch.mem_ring {p x:Int} (h:kS os p m):Rch os p x ↔ x ∈ itl os p m:=by
 rw [qx]
 constructor
 ·rintro ⟨k,rfl⟩
  exact ⟨k % m,oN _ h.1,(FY h.2.1 k).symm⟩
 ·rintro ⟨i,_,e⟩
  exact ⟨i,e⟩
def kZ (os:List Int)(p:Nat):Prop:=∀ q:Nat,q<p->¬ Rch os (q:Int) (p:Int)
open Classical in
noncomputable def zr (os:List Int):Nat->List (List Int)
 | 0=>[]
 | i+1=>zr os i ++ if kZ os i/\1<per os (i:Int) then [zG os (i:Int)] else []
def ql (os:List Int)(i:Nat)(x:Int):Prop:=∃ q:Nat,q<i/\Rch os (q:Int) x
theorem ql.succ {x:Int}:ql os (i+1) x ↔ ql os i x \/ Rch os (i:Int) x:=by
 constructor
 ·rintro ⟨q,hq,r⟩
  by_cases e:q=i
  ·subst e;exact .inr r
  ·exact .inl ⟨q,by omega,r⟩
 ·rintro (⟨q,hq,r⟩ | r)
  ·exact ⟨q,by omega,r⟩
  ·exact ⟨i,by omega,r⟩
theorem jV:kZ os i ↔ ¬ ql os i (i:Int):=by
 constructor
 ·rintro h ⟨q,hq,r⟩;exact h q hq r
 ·intro h q hq r;exact h ⟨q,hq,r⟩
theorem ql.step (h:zF n os) (hi:i<n)(hs:ql os i (i:Int)){x:Int}:ql os (i+1) x ↔ ql os i x:=by
 rw [ql.succ]
 constructor
 ·rintro (z | z)
  ·exact z
  ·obtain ⟨q,hq,r⟩:=hs
   exact ⟨q,hq,r.trans z⟩
 ·exact .inl
theorem ql.apart (h:zF n os) (hi:i<n)(hs:¬ ql os i (i:Int)){x:Int}(r:Rch os (i:Int) x):¬ ql os i x:=by
 rintro ⟨q,hq,rq⟩
 exact hs ⟨q,hq,rq.trans (r.symm h (by omega) (by omega))⟩
theorem yA (os:List Int):∀ i,(zr os i).length<=i
 | 0=>aF _
 | i+1=>by
  unfold zr
  rw [bg]
  have:=yA os i
  split <;> simp <;> omega
theorem qY {n:Nat}{os:List Int}(h:zF n os){r:List Int}:∀ {i:Nat},i<=n->r ∈ zr os i->1<r.length/\r.length<=n
 | 0,_,hr=>by simp [zr] at hr
 | i+1,hi,hr=>by
  unfold zr at hr
  rcases cO.mp hr with z | z
  ·exact qY h (by omega) z
  ·by_cases c:kZ os i/\1<per os (i:Int)
   ·rw [if_pos c] at z
    rw [cK.mp z]
    obtain ⟨m,hm,hle⟩:=jC h (p:=(i:Int)) (by omega) (by omega)
    unfold zG
    rw [qT]
    have:=hm.per
    omega
   ·rw [if_neg c] at z;cases z
noncomputable def Mkd (os:List Int)(mk:Nat):Nat->Int->Prop
 | 0,_=>False
 | i+1,x=>Mkd os mk i x \/ (¬ Mkd os mk i (i:Int)/\wkE os (i:Int)=(i:Int)/\Rch os (i:Int) x/\x<(mk:Int))
open Classical in
noncomputable def cnt (os:List Int)(mk:Nat)(i:Nat):Int:=if Mkd os mk i (i:Int) then 0 else ((wkM os (i:Int):Nat):Int)
noncomputable def iLT (K:az)(tl:TE):TI:=fun σ H R=>tl σ H fun x H1=>∃ a,x=.ref a/\(((∃ xs,SqL K H1 a xs)/\R (Itl K a) H1) \/ ((∃ xs,SqT K H1 a xs)/\R (Itt K a) H1))
variable {tg:Expr} {tl:TE}
theorem jJ {l:Expr} (hl:PE X l tl):PI X tg l (iLT X.K tl):=by
 intro pins s σ H R I h
 refine thn (hl pins s σ H _ I h) fun v s1 ⟨x,H1,I1,r1,q1⟩=>?_
 obtain ⟨a,e,q⟩:=q1
 subst e
 cases r1
 have fo:∀ b ∈ [s1.heap.objs.size],yg X pins H1 b:=fun b hb=>by
  have e:b=s1.heap.objs.size:=by simpa using hb
  subst e
  exact I1.fpOk (aF _) (I1.hok.fresh (aF _))
 rcases q with ⟨⟨xs,hq⟩,q⟩ | ⟨⟨xs,hq⟩,q⟩
 ·obtain ⟨its,rv,p,hz⟩:=I1.list hq
  refine i6 p.isList ?_
  exact ⟨s1.heap.objs.size,[s1.heap.objs.size],_,_,H1,rfl,I1.kept (t':=s1.toks) fun b o e=>aD _ e,Qf a _,⟨_,aS _ rfl,rfl,rfl⟩,fo,q⟩
 ·obtain ⟨its,rv,p,hz⟩:=I1.tuple hq
  refine gr (show s1.heap.IsTuple a its.toArray from p) ?_
  exact ⟨s1.heap.objs.size,[s1.heap.objs.size],_,_,H1,rfl,I1.kept (t':=s1.toks) fun b o e=>aD _ e,Yb a _,⟨_,aS _ rfl,rfl,rfl⟩,fo,q⟩
theorem wX {os:List Int}{q:Nat}(hq:kZ os q)(hp:1<per os (q:Int)):∀ {i:Nat},q<i->zG os (q:Int) ∈ zr os i
 | 0,h=>by omega
 | i+1,h=>by
  unfold zr
  by_cases e:q=i
  ·subst e
   rw [if_pos ⟨hq,hp⟩]
   simp
  ·exact eO _ (wX hq hp (by omega))
theorem Q7 (h:zF n os){x:Nat}(hx:x<n):(∃ r ∈ zr os n,(x:Int) ∈ r) \/ kS os (x:Int) 1:=by
 obtain ⟨q,⟨q1,q2⟩,q3⟩:=KH (p:=fun q=>q<n/\Rch os (q:Int) (x:Int)) x ⟨hx,Rch.refl⟩
 have hL:kZ os q:=fun q' hq' r=>q3 q' hq' ⟨by omega,r.trans q2⟩
 obtain ⟨m,hm,_⟩:=jC h (p:=(q:Int)) (by omega) (by omega)
 by_cases c:1<m
 ·refine .inl ⟨_,wX hL (by rw [hm.per];exact c) q1,?_⟩
  unfold zG
  rw [hm.per]
  exact (Rch.mem_ring hm).mp q2
 ·have hm1:m=1:=by have:=hm.1;omega
  subst hm1
  obtain ⟨i,hi,e⟩:=qx.mp ((Rch.mem_ring hm).mp q2)
  have:i=0:=by omega
  subst this
  have e':(q:Int)=(x:Int):=e
  rw [<- e']
  exact .inr hm
section
variable {X:Cx}
end
section
variable {X:Cx}
end
theorem WY:MtR X "list.extend" wo:=Af
def xv (prog:ba)(w:bE)(A:bt)(elt:Expr)(gens:List dN)(scope:Scope)(pos:Pos)(d:Nat)(acc:aq)(env:Env)(Q:ax->Prop)(s:ax):Prop:=
  match gens[d+1]? with
  | some g' => aL (aN prog w) A (eval g'.iter env) (fun x s1 => aL (aN prog w) A (du g'.iter env x) (fun x s2 => aL (aN prog w) A (pyIter x) (fun it s3 =>
      aL (aN prog w) A (runOwn (ng.compStart (.ListComp elt gens scope pos) (d+1) it acc env) env) (fun _ s4=>Q s4) (fun _ _=>False) s3) (fun _ _=>False) s2) (fun _ _=>False) s1) (fun _ _=>False) s
  | none=>aL (aN prog w) A (eval elt env) (fun v s1=>aL (aN prog w) A (call (.builtin "list.append") [acc,v]) (fun _ s2=>Q s2) (fun _ _=>False) s1) (fun _ _=>False) s
section
variable {prog:ba}{w:bE}{A:bt}{R:nD->ax->Prop}{s:ax}
theorem Xi {elt:Expr}{gens:List dN}{d:Nat}{scope:Scope}{pos:Pos}{acc:aq}{env:Env}{Q Q':ax->Prop}(h:xv prog w A elt gens scope pos d acc env Q s)(hq:∀ s,Q s->Q' s):xv prog w A elt gens scope pos d acc env Q' s:=by
 unfold xv at h ⊢
 cases e:gens[d+1]? with
 | none=>
  simp only [e] at h ⊢
  exact aR h (fun x s₄ h₄=>aR h₄ (fun _ s₅ h₅=>hq _ h₅) fun _ _ h'=>h') fun _ _ h'=>h'
 | some g'=>
  simp only [e] at h ⊢
  exact aR h (fun x s₄ h₄=>aR h₄ (fun x s₅ h₅=>aR h₅ (fun it s₆ h₆=>aR h₆ (fun _ s₇ h₇=>hq _ h₇) fun _ _ h'=>h') fun _ _ h'=>h') fun _ _ h'=>h') fun _ _ h'=>h'
theorem xF {elt target iter : Expr}{ifs : List Expr}{gens : List dN}{d : Nat}{scope : Scope}{pos : Pos}{it acc : aq}{env : Env}(hg : gens[d]? = some ⟨target, iter, ifs, 0⟩)(hn : ∀ g', gens[d + 1]? = some g' -> g'.is_async = 0)(I : Nat -> ax -> Prop)
    (turn:∀ n s,I n s->aL (aN prog w) A (oF it) (fun r s₁=>match r with
      | none=>R (.ok .next) s₁
      | some v => aL (aN prog w) A (gc target it v) (fun _ s₀ => aL (aN prog w) A (mE target env v) (fun _ s₂ =>
          aL (aN prog w) A (forIn ifs true fun c r=>if r=true then do let ok <- isTrue c env (eval c env);pure (d8 ok) else pure (d8 r)) (fun ok s₃=>
            if ok=true then xv prog w A elt gens scope pos d acc env (fun s₅=>∃ m,m<n/\I m s₅) s₃
            else ∃ m,m<n/\I m s₃) (fun _ _=>False) s₂) (fun _ _=>False) s₀) (fun _ _=>False) s₁) (fun _ _=>False) s)
    (n:Nat) (h:I n s) :
    dX (aN prog w) A (.compLoop (.ListComp elt gens scope pos) d it acc env) R s:=by
  refine codeAny_loop rfl I (fun n s hI=>?_) n h
  show aL _ A ((compTurn (.ListComp elt gens scope pos) d it acc env).onRaise (fun x=>do gU x env;theTreesLotGoes x)) _ _ s
  refine wpAny_noted ?_
  unfold compTurn
  simp only [hg]
  refine aw (cD ?_)
  rw [if_neg (by decide)]
  refine aw (aR (turn n s hI) (fun r s₁ h₁=>?_) fun _ _ h'=>h'.elim)
  cases r with
  | none=>exact aJ h₁
  | some v=>
    refine aw (aR h₁ (fun _ s₀ h₀=>?_) fun _ _ h'=>h'.elim)
    refine aw (aR h₀ (fun _ s₂ h₂=>aw (aR h₂ (fun ok s₃ h₃=>?_) fun _ _ h'=>h'.elim)) fun _ _ h'=>h'.elim)
    cases ok with
    | false=>exact aJ ⟨rfl,h₃⟩
    | true=>
      rw [if_pos rfl] at h₃ ⊢
      unfold xv at h₃
      cases e:gens[d+1]? with
      | none=>
        simp only [e] at h₃ ⊢
        exact aw (aw (aR h₃ (fun x s₄ h₄=>aw (aR h₄ (fun _ s₅ h₅=>aJ (aJ ⟨rfl,h₅⟩)) fun _ _ h'=>h'.elim)) fun _ _ h'=>h'.elim))
      | some g'=>
        simp only [e] at h₃ ⊢
        have ha:=hn g' e
        refine aw (aR h₃ (fun x s₄ h₄=>?_) fun _ _ h'=>h'.elim)
        refine aw (cD ?_)
        rw [if_neg (by rw [ha];decide)]
        refine aw (aR h₄ (fun x s₅ h₅=>?_) fun _ _ h'=>h'.elim)
        refine aw (cQ ?_)
        rw [if_neg (by rw [ha];decide)]
        refine aR h₅ (fun it s₆ h₆=>?_) fun _ _ h'=>h'.elim
        exact aw (aR h₆ (fun _ s₇ h₇=>aJ ⟨rfl,h₇⟩) fun _ _ h'=>h'.elim)
theorem xb {elt target iter:Expr}{ifs:List Expr}{gens:List dN}{d:Nat} {it acc:aq} (hg:gens[d]?=some ⟨target,iter,ifs,0⟩)
  (h1:dX (aN prog w) A (.compLoop (.ListComp elt gens scope pos) d it acc env) R s)
  (h2:aL (aN prog w) A (pyIter it) (fun it' s'=>dX (aN prog w) A (.compLoop (.ListComp elt gens scope pos) d it' acc env) R s') (fun _ _=>False) s) :
  dX (aN prog w) A (.compStart (.ListComp elt gens scope pos) d it acc env) R s:=by
 refine codeAny_loop' rfl (fun _ s'=>s'=s) (fun n s' hI=>?_) 0 rfl
 subst hI
 show aL _ A ((compStart (.ListComp elt gens scope pos) d it acc env).onRaise (fun x=>do gU x env;iZ theWindowsPlace)) _ _ _
 refine wpAny_onRaise ?_
 unfold compStart
 have hc:(clausesOf (.ListComp elt gens scope pos))[d]?=some ⟨target,iter,ifs,0⟩:=hg
 simp only [hc]
 rw [if_neg (by show ¬ ((0:Nat) != 0)=true;decide)]
 refine aw (wpAny_askSetting ?_)
 split
 ·exact aJ (.inr ⟨rfl,h1⟩)
 ·refine aw (nz ?_)
  refine aw (cD ?_)
  exact aw (aR h2 (fun it' s' h'=>aJ (.inr ⟨rfl,h'⟩)) fun _ _ h'=>h'.elim)
end
def CL (J:It)(g:TG)(tt:TT)(tr:St->Hp->(St->Hp->Prop)->Prop)(N:St->Hp->Prop)(σ:St)(H:Hp):Prop:=∃ W:Nat->Nat->St->Hp->Prop,(∃ m,W 0 m σ H)/\∀ i m τ H2,W i m τ H2 ->
 (J.stop i H2/\N τ H2) \/ (J.go i H2/\∃ N1:St->Hp->Prop,(∀ τ' H',N1 τ' H'->∃ m',m'<m/\W (i+1) m' τ' H')/\∀ x H',J.yld i H2 x H'->g x τ H' fun τ2 H3=>tt τ2 H3 fun b H4=>
  if b=true then tr τ2 H4 N1 else N1 τ2 H4)
abbrev TR:=St->Hp->(St->Hp->Prop)->Prop
noncomputable def ww (te:TE)(D:ay):TR:=fun σ H N=>te σ H fun v H5=>∃ ys,H5 D=some (.lst ys)/\ys.length<aT/\N σ (upd H5 D (.lst (ys ++ [v])))
noncomputable def QW (wi:TI)(g:TG)(tt:TT)(tr:ay->TR)(D:ay):TR:=fun σ H N=>wi σ H fun J H1=>CL J g tt (tr D) N σ H1
def PR (C:Cx)(elt:Expr)(gens:List dN)(scope:Scope)(pos:Pos)(d:Nat)(D:ay)(tr:TR):Prop:=
 ∀ (pins:List (ay × Obj)) (s:ax) (σ:St) (H:Hp) (N:St->Hp->Prop),Inv C pins σ H s->tr σ H N->xv C.prog C.w C.A elt gens scope pos d (.ref D) C.env (fun s'=>∃ σ' H',Inv C pins σ' H' s'/\N σ' H') s
section
variable {C:Cx}{elt tg iter:Expr}{ifs:List Expr}{gens:List dN}{scope:Scope}{pos:Pos}{d:Nat}{D:ay}{g:TG}{tt:TT}{te:TE}{tr:TR}
theorem YA (hc:C.calm=true)(hgd:gens[d]?=some ⟨tg,iter,ifs,0⟩)(hn:∀ g',gens[d+1]?=some g'->g'.is_async=0)(hg:PG C tg g)(ht:PIf C ifs tt)(hr:PR C elt gens scope pos d D tr)(hxe:∀ e s,¬ C.xe e s)
  {it:ay} {fp:List ay} {tn:Nat->Heap->Prop} {J:It} (T:Kg C.prog C.w C.K tg J fp it tn) {pins:List (ay × Obj)} (I:Inv C pins σ H s) (st:tn 0 s.heap) (hf:∀ b ∈ fp,yg C pins H b) {N:St->Hp->Prop} (h:CL J g tt tr N σ H)
  {R:nD->ax->Prop} (fin:∀ s' σ' H',Inv C pins σ' H' s'->N σ' H'->R (.ok .next) s') :
  dX (aN C.prog C.w) C.A (.compLoop (.ListComp elt gens scope pos) d (.ref it) (.ref D) C.env) R s:=by
 obtain ⟨W,⟨m0,w0⟩,turn⟩:=h
 have no:∀ {α:Type} {m:Sem α} {Q:α->ax->Prop} {s:ax},aL (aN C.prog C.w) C.A m Q C.xe s->aL (aN C.prog C.w) C.A m Q (fun _ _=>False) s:=fun h=>aR h (fun _ _ q=>q) fun e s q=>hxe e s q
 have stat:∀ {H':Hp},(∀ b ∈ fp,H' b=none)->∀ b ∈ fp,yg C pins H' b:=fun hn b hb=>⟨hn b hb,(hf b hb).2⟩
 refine xF hgd hn (fun n s'=>∃ i τ H',Inv C pins τ H' s'/\tn i s'.heap/\(∀ b ∈ fp,H' b=none)/\W i n τ H') ?_ m0 ⟨0,σ,H,I,st,fun b hb=>(hf b hb).1,w0⟩
 rintro n s5 ⟨i,τ,H5,I5,st5,fr5,w5⟩
 rcases turn i n τ H5 w5 with ⟨stop,qn⟩ | ⟨go,N1,hN,step⟩
 ·refine thn (T.done C rfl rfl rfl hc i pins s5 τ H5 _ I5 (stat fr5) st5 stop) fun r s6 ⟨hr,I6⟩=>?_
  subst hr
  exact fin s6 τ H5 I6 qn
 ·refine thn (T.item C rfl rfl rfl hc i pins s5 τ H5 _ I5 (stat fr5) st5 go) fun r s6 ⟨u,hr',h6⟩=>?_
  subst hr'
  refine thn h6 fun _ s7 ⟨x,H7,I7,r7,y7,st7,fr7⟩=>?_
  have I7':=I7.pinned (stat fr7) (T.obj _ _ st7)
  refine thn (no (hg _ s7 τ H7 x u _ I7' r7 (step x H7 y7))) fun _ s8 ⟨τ8,H8,I8,q8⟩=>?_
  refine thn (no (ht _ s8 τ8 H8 _ I8 q8)) fun b s9 ⟨H9,I9,q9⟩=>?_
  have again:∀ {τ9:St} {H9:Hp} {s9:ax},Inv C (pins ++ vH fp s7.heap) τ9 H9 s9->N1 τ9 H9 ->
    ∃ m,m<n/\∃ i τ H',Inv C pins τ H' s9/\tn i s9.heap/\(∀ b ∈ fp,H' b=none)/\W i m τ H':=fun {τ9 H9 s9} I9 n9=>by
   obtain ⟨m',hm,w9⟩:=hN _ _ n9
   refine ⟨m',hm,i+1,τ9,H9,I9.unpinned,T.keep _ _ _ st7 fun b hb o e=>(I9.pin (b,o) (bD _ (bD _ (jq hb e)))).1,fun b hb=>?_,w9⟩
   obtain ⟨o,e,d⟩:=T.obj _ _ st7 b hb
   exact (I9.pin (b,o) (bD _ (bD _ (jq hb e)))).2.1
  cases b with
  | false=>
   rw [if_neg aW] at q9 ⊢
   exact again I9 q9
  | true=>
   rw [if_pos rfl] at q9 ⊢
   exact Xi (hr _ s9 τ8 H9 _ I9 q9) fun s11 ⟨τ9,H11,I11,n11⟩=>again I11 n11
theorem FD (hg2:gens[d+1]?=none)(he:PE C elt te)(hxe:∀ e s,¬ C.xe e s):PR C elt gens scope pos d D (ww te D):=by
 intro pins s σ H N I h
 have no:∀ {α:Type} {m:Sem α} {Q:α->ax->Prop} {s:ax},aL (aN C.prog C.w) C.A m Q C.xe s->aL (aN C.prog C.w) C.A m Q (fun _ _=>False) s:=fun h=>aR h (fun _ _ q=>q) fun e s q=>hxe e s q
 unfold xv
 simp only [hg2]
 refine thn (no (he pins s σ H _ I h)) fun y s10 ⟨v,H10,I10,r10,ys,hys,hlen,n10⟩=>?_
 exact thn (no (vg (X:=C) _ s10 σ H10 (.ref D) [v] (.ref D) [y] (fun _ H11=>N σ H11) I10 rfl (.cons r10 .nil) ⟨_,ys,v,rfl,rfl,hys,hlen,n10⟩)) fun _ s11 ⟨_,H11,I11,_,n11⟩=>⟨σ,H11,I11,n11⟩
theorem Hx {tr:ay->TR} (hc:C.calm=true)(hgd:gens[d+1]?=some ⟨tg,iter,ifs,0⟩)(hn:∀ g',gens[d+2]?=some g'->g'.is_async=0)(hi:PI C tg iter wi)(hs:∀ x,du iter C.env x=pure x)(hg:PG C tg g)(ht:PIf C ifs tt)
  (hr:PR C elt gens scope pos (d+1) D (tr D)) (hxe:∀ e s,¬ C.xe e s):PR C elt gens scope pos d D (QW wi g tt tr D):=by
 intro pins s σ H N I h
 have no:∀ {α:Type} {m:Sem α} {Q:α->ax->Prop} {s:ax},aL (aN C.prog C.w) C.A m Q C.xe s->aL (aN C.prog C.w) C.A m Q (fun _ _=>False) s:=fun h=>aR h (fun _ _ q=>q) fun e s q=>hxe e s q
 unfold xv
 simp only [hgd]
 refine thn (no (hi pins s σ H _ I h)) fun v s1 h1=>?_
 rw [hs v]
 refine aJ (thn (no h1) fun itv s2 h2=>?_)
 obtain ⟨it,fp,tn,J,H2,e,I2,T,st2,f2,q2⟩:=h2
 subst e
 refine wpAny_runOwn ?_
 show dX _ C.A _ _ _
 have loop:=YA (R:=fun r s'=>match r with | .ok f=>(∃ σ' H',Inv C pins σ' H' s'/\N σ' H') | .error e=>cameBackBy (aN C.prog C.w) C.A C.env (fun _ _=>False) e s') hc hgd hn hg ht hr hxe T I2 st2 f2 q2 fun s' σ' H' I' n'=>⟨σ',H',I',n'⟩
 exact xb hgd loop (T.self _ 0 _ _ _ st2 loop)
end
noncomputable def ZK (ts:List Nat)(wi:TI)(g:TG)(tt:TT)(tr:ay->TR):TE:=fun σ H Q=>wi σ H fun J H1=>∀ D,H1 D=none->CL J g tt (tr D) (fun _ H2=>Q (.ref D) H2) (clr ts σ) (upd H1 D (.lst []))
section
variable {X:Cx}{ts:List Nat}{scope:Scope}{tg iter elt:Expr}{ifs:List Expr}{qk:List dN}{wi:TI}{g:TG}{tt:TT}{tr:ay->TR}{pos:Pos}
theorem Wl (hc:X.calm=true)(hsc:Yk X.N ts scope X.env.kindOf=true)(hi:PI X tg iter wi)(hn:∀ g',qk[0]?=some g'->g'.is_async=0)(hg:∀ cl s H fp,PG (cxC X scope cl s H fp) tg g)(ht:∀ cl s H fp,PIf (cxC X scope cl s H fp) ifs tt)
  (hr:∀ cl s H fp D,PR (cxC X scope cl s H fp) elt (⟨tg,iter,ifs,0⟩ :: qk) scope pos 0 D (tr D))
  {pins:List (ay × Obj)} (I:Inv X pins σ H s) (h:ZK ts wi g tt tr σ H Q) {use:Option (aq->Sem Unit)} {Q':aq->ax->Prop}
  (fin:∀ (D C:ay) (H':Hp) (s':ax),Inv X pins σ H' s'->(∃ m,s'.heap.Ns C m)->H' C=none->C ≠ X.env.locals->(∀ x c,X.env.cells.lookup x=some c->c ≠ C)->X.s₀.heap.objs.size<=C->(∀ p ∈ X.pn ++ pins,p.1 ≠ C)->C ∉ X.fs->Q (.ref D) H' ->
   compPost (aN X.prog X.w) X.A X.xe use Q' (.ref D) C (.ok .next) s')
  (hs:∀ x,du iter X.env x=pure x) :
  aL (aN X.prog X.w) X.A (nq (.ListComp elt (⟨tg,iter,ifs,0⟩ :: qk) scope pos) scope X.env (firstIterPos (⟨tg,iter,ifs,0⟩ :: qk) pos) (oB []) false (eval iter X.env) use) Q' X.xe s:=by
 have S:=E6 hsc
 obtain ⟨cl,hcl,c1,c2⟩:=wD (scope:=scope) (env:=X.env) fun y hy e=>I.ok.has y.1 (S.free y hy e)
 refine lu (use:=use) rfl hs hcl S.kind S.loc ?_
 refine aR (hi pins s σ H _ I h) (fun v s1 h1=>aR h1 (fun itv s2 h2=>?_) fun _ _ e=>e) fun _ _ e=>e
 obtain ⟨it,fp,tn,J,H2,e,I2,T,st2,f2,q2⟩:=h2
 subst e
 have hD:H2 s2.heap.objs.size=none:=I2.hok.fresh (aF _)
 have q3:=q2 _ hD
 refine bO (wpAny_newFunctionEnv S.cell (by intro y hy;simp at hy) (fun h₁ hns₁ hsb₁=>?_) S.kind)
 dsimp only at hns₁ hsb₁ ⊢
 generalize hh3:s2.heap.push { cls:=.type "list",dict:=none,data:=.seq ([]:List aq).toArray }=g3 at hns₁ hsb₁ ⊢
 have I3:Inv X pins σ (upd H2 s2.heap.objs.size (.lst [])) { s2 with heap:=g3 }:=by
  rw [<- hh3]
  exact I2.laid (t':=s2.toks) (fun b u e=>aD _ e) (aF _) ⟨cn _,[],_,.nil,aS _ rfl⟩
 have st3:tn 0 g3:=T.keep _ _ _ st2 fun b _ o e=>by rw [<- hh3];exact aD _ e
 have lt2:∀ b ∈ fp,b<s2.heap.objs.size:=fun b hb=>by obtain ⟨o,e,_⟩:=T.obj _ _ st2 b hb;exact aM e
 have hsz3:g3.objs.size=s2.heap.objs.size+1:=by rw [<- hh3,gA]
 have f3:∀ b ∈ fp,yg X pins (upd H2 s2.heap.objs.size (.lst [])) b:=fun b hb=>⟨by rw [zh (bw (lt2 b hb))];exact (f2 b hb).1,(f2 b hb).2⟩
 have lt3:∀ b ∈ fp,b<g3.objs.size:=fun b hb=>by rw [hsz3];exact lh (lt2 b hb)
 have old:∀ b o,g3.get? b=some o->h₁.get? b=some o:=fun b o e=>hsb₁.extBut b o (bw (aM e)) (aD _ e)
 have hns:h₁.Ns g3.objs.size (fun x=>([]:List (Str × aq)).reverse.lookup x):=hns₁
 have I4:∀ t,Inv (cxC X scope cl { s2 with heap:=g3 } (upd H2 s2.heap.objs.size (.lst [])) fp) [] (clr ts σ) (upd H2 s2.heap.objs.size (.lst [])) { s2 with heap:=h₁,toks:=t }:=fun t=>Zw I3 S f3 lt3 c1 c2 hns old
 have fpne:∀ b ∈ fp,b ∉ frs X.stack:=fun b hb z=>by
  obtain ⟨_,f1,f2,_⟩:=f3 b hb
  rcases aO.mp (I3.stkSub b z) with e | e
  ·exact f1 e
  ·exact f2 e
 have stat:∀ {H':Hp},(∀ b ∈ fp,H' b=none)->∀ b ∈ fp,yg (cxC X scope cl { s2 with heap:=g3 } (upd H2 s2.heap.objs.size (.lst [])) fp) [] H' b:=fun hn b hb=>
  ⟨hn b hb,bw (lt3 b hb),fpne b hb,.inl hb,fun x c e=>(f2 b hb).2.2.2.2.1 x c (c1 x c e),fun p hp=>absurd hp (by simp)⟩
 have loop:∀ t,dX (aN X.prog X.w) X.A (.compLoop (.ListComp elt (⟨tg,iter,ifs,0⟩ :: qk) scope pos) 0 (.ref it) (.ref s2.heap.objs.size) (compEnvC scope cl g3.objs.size X.env))
   (compPost (aN X.prog X.w) X.A X.xe use Q' (.ref s2.heap.objs.size) g3.objs.size) { s2 with heap:=h₁,toks:=t }:=by
  intro t
  refine YA (C:=cxC X scope cl { s2 with heap:=g3 } (upd H2 s2.heap.objs.size (.lst [])) fp) hc rfl (fun g' e=>hn g' (by simpa using e)) (hg _ _ _ _) (ht _ _ _ _) (hr _ _ _ _ _) (fun _ _ z=>z) T (I4 t) (T.keep _ _ _ st3 fun b _ o e=>old b o e) (stat fun b hb=>(f3 b hb).1) q3 fun s6 σ6 H5 I6 qn=>?_
  have base:Un (frs X.stack) fp (upd H2 s2.heap.objs.size (.lst [])) H5 g3 s6.heap:=I6.base
  have J6:Inv X pins σ H5 s6:=I3.call' (ch:=fp) I6.os base I6.hok I6.bare fun b hb=>⟨(f3 b hb).2.2.2.1,(f3 b hb).2.1,(f3 b hb).2.2.2.2.1,(f3 b hb).2.2.2.2.2⟩
  obtain ⟨m6,n6,_⟩:=I6.loc
  refine fin _ g3.objs.size H5 s6 J6 ⟨m6,n6⟩ I6.free (e7 I3.lt) (fun x c e z=>?_) I3.sz (fun p hp z=>?_) (I3.nofs (aF _)) qn
  ·obtain ⟨v,q⟩:=I3.cell x c e
   exact absurd q.lt (by rw [z];exact de _)
  ·exact absurd (aM (I3.pin p hp).1) (by rw [z];exact de _)
 have LW:=loop (s2.toks+([]:List (Str × aq)).length)
 exact lY LW (T.self _ 0 _ _ _ (T.keep _ _ _ st3 fun b _ o e=>old b o e) LW)
theorem D3 (hc:X.calm=true)(hsc:Yk X.N ts scope X.env.kindOf=true)(hi:PI X tg iter wi)(hg:∀ cl s H fp,PG (cxC X scope cl s H fp) tg g)(ht:∀ cl s H fp,PIf (cxC X scope cl s H fp) ifs tt)
  (hr:∀ cl s H fp D,PR (cxC X scope cl s H fp) elt (⟨tg,iter,ifs,0⟩ :: qk) scope pos 0 D (tr D)) (hn:∀ g',qk[0]?=some g'->g'.is_async=0:=by intro _ e;cases e;rfl)
  (hs:∀ x,du iter X.env x=pure x:=by intro _;rfl):PE X (.ListComp elt (⟨tg,iter,ifs,0⟩ :: qk) scope pos) (ZK ts wi g tt tr):=by
 intro pins s σ H Q I h
 rw [eval_ListComp]
 refine Wl hc hsc hi hn hg ht hr I h (use:=none) (fun D C H' s' I' ⟨m,hn⟩ hC hL hce hsz hp hfs q=>⟨m,hn,fun h' hs'=>?_⟩) hs
 exact ⟨.ref D,H',I'.turned (t':=s'.toks) (it:=C) (fun b o hb e=>(hs'.2 b hb).trans e) hC hL (.inr hsz) hce hp,rfl,q⟩
end
theorem Ws {tr:ay->TR}:
  ZK ts wi g tt tr σ H Q=wi σ H (fun J H1=>∀ D,H1 D=none->CL J g tt (tr D) (fun _ H2=>Q (.ref D) H2) (clr ts σ) (upd H1 D (.lst []))):=rfl
theorem V1 {tr:ay->TR}{D:ay} {N:St->Hp->Prop}:QW wi g tt tr D σ H N=wi σ H (fun J H1=>CL J g tt (tr D) N σ H1):=rfl
theorem We {D:ay} {N:St->Hp->Prop}:ww te D σ H N=te σ H (fun v H5=>∃ ys,H5 D=some (.lst ys)/\ys.length<aT/\N σ (upd H5 D (.lst (ys ++ [v])))):=rfl
section
variable {P:ba}{w:bE}{A:bt}{E:aq->ax->Prop}{it l:ay}{items:Array aq}
end
section
variable {X:Cx}{pos:Pos}
end
noncomputable def rep (o:Nat)(G:List Int):List Int:=(bI (o * G.length)).map fun (i:Nat)=>((i / G.length * G.length:Nat):Int)+G.getD (i % G.length) 0
section
variable {P:ba}{w:bE}{A:bt}{E:aq->ax->Prop}{s:ax}{z TI TO i1 i2 l1 l2:ay}{k:Nat}{xs ys:Array aq}{x y a b:aq}{Q:Option aq->ax->Prop}
end
open AutoSeq1 (wpAny_loadPart') in
section
variable {X:Cx}{es:List Expr}{kt:Nat}{tp:Pos}
end
noncomputable def slV (xs:List V)(lo hi st:Option Int):List V:=(dL (bH lo hi st xs.length).1 (bH lo hi st xs.length).2.1 (bH lo hi st xs.length).2.2).filterMap fun k=>xs[k]?
theorem vy {xs:List V}{us:List aq}(r:zz xs us):∀ ks:List Nat,zz (ks.filterMap fun k=>xs[k]?) (ks.filterMap fun k=>us[k]?)
 | []=>.nil
 | k :: ks=>by
  have ih:=vy r ks
  have hl:=r.length
  by_cases h:k<xs.length
  ·have e1:xs[k]?=some xs[k]:=aj h
   obtain ⟨u,hu,ru⟩:=r.get e1
   rw [dP e1,dP hu]
   exact .cons ru ih
  ·have e1:xs[k]?=none:=bN (by omega)
   have e2:us[k]?=none:=bN (by omega)
   rw [lv e1,lv e2]
   exact ih
noncomputable def N4 (K:az):V->Option Int->Option Int->Option Int->Hp->VK->Prop:=fun x lo hi st H Q=>∃ a xs,x=.ref a/\SqL K H a xs/\st ≠ some 0/\∀ p,H p=none->Q (.ref p) (upd H p (.lst (slV xs lo hi st)))
noncomputable def NA (K:az)(te:TE)(tl th ts:TO):TE:=fun σ H Q=>te σ H fun x H1=>tl σ H1 fun l H2=>th σ H2 fun u H3=>ts σ H3 fun z H4=>N4 K x l u z H4 Q
section
variable {X:Cx}{e st:Expr}{te:TE}{lo hi:Option Expr}{tl th ts:TO}{p2 pos:Pos}
theorem WG (he:PE X e te)(hl:PO X lo tl)(hu:PO X hi th)(hst:PO X (some st) ts):PE X (.Subscript e (.Slice lo hi (some st) p2) pos) (NA X.K te tl th ts):=by
 intro pins s σ H Q I h
 refine Subscript_ (thn (he pins s σ H _ I h) fun v s1 ⟨x,H1,I1,r1,q1⟩=>?_)
 refine wpAny_Slice (thn (hl pins s1 σ H1 _ I1 q1) fun vl s2 ⟨l,H2,I2,pl,q2⟩=>thn (hu pins s2 σ H2 _ I2 q2) fun vu s3 ⟨u,H3,I3,pu,q3⟩=>thn (hst pins s3 σ H3 _ I3 q3) fun vs s4 ⟨z,H4,I4,pz,q4⟩=>?_)
 have I5:Inv X pins σ H4 { s4 with heap:=s4.heap.push { cls:=.type "slice",data:=.fields #[vl,vu,vs] } }:=I4.kept (t':=s4.toks) fun b ob q=>aD _ q
 obtain ⟨a,xs,rfl,hx,hz0,q⟩:=q4
 cases r1
 obtain ⟨its,r,ht,hz⟩:=I5.list hx
 have hlen:=r.length
 show aL (aN X.prog X.w) X.A (hV e (.Slice lo hi (some st) p2) (.ref a) (.ref s4.heap.objs.size)) (EP X pins σ Q) X.xe { s4 with heap:=s4.heap.push { cls:=.type "slice",data:=.fields #[vl,vu,vs] } }
 refine tail_any (ops:=[.ref a,.ref s4.heap.objs.size]) ht.isList.typeIs gG.lookup ?_ rfl
 refine fZ ht.isList (gk ..) pl pu pz hz0 ?_ (by rw [aH];omega)
 have e1:lG its.toArray l u z=(ci (fun x=>its[x]?) (dL (bH l u z xs.length).1 (bH l u z xs.length).2.1 (bH l u z xs.length).2.2)).toArray:=by
  unfold lG
  rw [aH,<- hlen]
  simp only [gP]
 have hsz:=slicePick_size_le its.toArray l u z
 rw [e1] at hsz ⊢
 have rr:=vy r (dL (bH l u z xs.length).1 (bH l u z xs.length).2.1 (bH l u z xs.length).2.2)
 have hl2:=rr.length
 refine ⟨.ref _,_,I5.laid (t':=s4.toks) (o:=.lst (slV xs l u z)) (fun b ob q=>aD _ q) (aF _) ?_,rfl,q _ (I5.hok.fresh (aF _))⟩
 refine ⟨?_,_,0,rr,aS _ rfl⟩
 rw [aH,aH] at hsz
 show (slV xs l u z).length<=_
 unfold slV
 omega
end
theorem BV (xs:List V):slV xs none (some 0) (some (-1))=(xs.drop 1).reverse:=by
 have hb:bH none (some 0) (some (-1)) xs.length=((xs.length:Int) - 1,max (-1) (min 0 ((xs.length:Int) - 1)),-1):=rfl
 unfold slV
 rw [hb]
 have key:∀ n,n=xs.length->dL ((n:Int) - 1) (max (-1) (min 0 ((n:Int) - 1))) (-1)=(bI (n - 1)).map fun k=>n - 1 - k:=by
  intro n _
  unfold dL
  dsimp only
  rw [if_neg (by decide)]
  have hc:((if (n:Int) - 1 > max (-1) (min 0 ((n:Int) - 1)) then ((n:Int) - 1 - max (-1) (min 0 ((n:Int) - 1)) - -1 - 1) / - -1 else 0).toNat)=n - 1:=by
   rcases Nat.eq_zero_or_pos n with z | z
   ·subst z;decide
   ·have e:max (-1) (min 0 ((n:Int) - 1))=0:=by omega
    rw [e]
    split
    ·rw [show - -(1:Int)=1 from rfl,lU];omega
    ·omega
  rw [hc]
  refine ef fun k hk=>?_
  have:k<n - 1:=by simpa using hk
  omega
 show ci (fun k=>xs[k]?) (dL ((xs.length:Int) - 1) (max (-1) (min 0 ((xs.length:Int) - 1))) (-1))=_
 rw [key xs.length rfl,iG]
 refine dF fun i=>?_
 have hall:∀ k,k<xs.length - 1->((fun k=>xs[k]?) ∘ fun k=>xs.length - 1 - k) k=some (xs.getD (xs.length - 1 - k) .non):=fun k hk=>by
  show xs[xs.length - 1 - k]?=_
  rw [af,aj (by omega)];rfl
 have hfm:ci ((fun k=>xs[k]?) ∘ fun k=>xs.length - 1 - k) (bI (xs.length - 1))=(bI (xs.length - 1)).map fun k=>xs.getD (xs.length - 1 - k) .non:=by
  have go:∀ (ks:List Nat),(∀ k ∈ ks,k<xs.length - 1)->ci ((fun k=>xs[k]?) ∘ fun k=>xs.length - 1 - k) ks=ks.map fun k=>xs.getD (xs.length - 1 - k) .non:=by
   intro ks
   induction ks with
   | nil=>intro _;rfl
   | cons k ks ih=>
    intro hk
    rw [dP (hall k (hk k (by simp))),ih fun j hj=>hk j (by simp [hj])];rfl
  exact go _ fun k hk=>by simpa using hk
 rw [hfm,aE]
 by_cases h:i<xs.length - 1
 ·rw [cF h,cI (by rw [b8];omega),iJ,b8]
  show some (xs.getD (xs.length - 1 - i) .non)=xs[1+(xs.length - 1 - 1 - i)]?
  rw [af,show 1+(xs.length - 1 - 1 - i)=xs.length - 1 - i by omega,aj (by omega)];rfl
 ·rw [bN (by rw [cq];omega),bN (by rw [bG,b8];omega)];rfl
theorem xo {α:Type}(p q:α->Bool):∀ (l:List α),(∀ x ∈ l,¬ (p x=true/\q x=true))->l.countP (fun x=>p x || q x)=l.countP p+l.countP q
 | [],_=>rfl
 | x :: l,h=>by
  have ih:=xo p q l fun y hy=>h y (by simp [hy])
  have hx:=h x (by simp)
  rw [fQ,fQ,fQ,ih]
  cases hp:p x <;> cases hq:q x
  ·simp
  ·simp;omega
  ·simp;omega
  ·exact absurd ⟨hp,hq⟩ hx
theorem X5 (n y:Nat)(h:y<n):(bI n).countP (fun x=>decide (x=y))=1:=by
 induction n with
 | zero=>omega
 | succ n ih=>
  rw [mw,List.countP_append]
  by_cases e:y=n
  ·subst e
   have:(bI y).countP (fun x=>decide (x=y))=0:=by
    rw [ni]
    intro x hx
    have:x<y:=by simpa using hx
    simp;omega
   rw [this];simp
  ·rw [ih (by omega)]
   have:¬ n=y:=fun z=>e z.symm
   simp [this]
theorem wv (n:Nat):∀ (R:List Nat),R.Nodup->(∀ x ∈ R,x<n)->(bI n).countP (fun x=>decide (x ∈ R))=R.length
 | [],_,_=>by simp
 | y :: R,nd,hb=>by
  have hy:=bT.mp nd
  have e:(fun x=>decide (x ∈ y :: R))=fun x=>decide (x=y) || decide (x ∈ R):=by
   funext x
   rw [d7]
   simp
  rw [e,xo,X5 n y (hb y (by simp)),wv n R hy.2 fun x hx=>hb x (by simp [hx]),aK,nR]
  intro x _ ⟨h1,h2⟩
  have h1':x=y:=by simpa using h1
  subst h1'
  exact hy.1 (by simpa using h2)
theorem Ja (h:zF n os) (hi:i<n):1<per os (i:Int) ↔ ¬ os.getD i 0=(i:Int):=by
 obtain ⟨M,hM,hMn⟩:=jC h (p:=(i:Int)) (by omega) (by omega)
 rw [hM.per]
 have e1:itn os 1 (i:Int)=os.getD i 0:=by
  show os.getD ((i:Int)).toNat 0=_
  rw [aY]
 constructor
 ·intro z e
  exact hM.2.2 1 (aF _) z (by rw [e1,e])
 ·intro z
  rcases nV 1 M with y | y
  ·exact y
  ·have:M=1:=by have:=hM.1;omega
   rw [this] at hM
   exact absurd (by rw [<- e1,hM.2.1]) z
theorem ky (h:zF n os){p:Int}(p0:0<=p)(p1:p<n){M:Nat}(hM:kS os p M):(itl os p M).Nodup:=by
 rw [cj,List.pairwise_iff_getElem]
 intro i j hi hj hij e
 rw [qT] at hi hj
 have e':itn os i p=itn os j p:=by
  have e1:(itl os p M)[i]'(by rw [qT];exact hi)=itn os i p:=by simp [itl]
  have e2:(itl os p M)[j]'(by rw [qT];exact hj)=itn os j p:=by simp [itl]
  rw [<- e1,<- e2];exact e
 have b:=qQ h p0 p1 (j - i)
 have e2:itn os (j - i) p=p:=by
  refine (Q9 h p0 p1 b.1 b.2 i ?_).symm
  rw [<- kM,show i+(j - i)=j by omega]
  exact e'
 exact hM.2.2 (j - i) (by omega) (by omega) e2
theorem Xj (h:zF n os){i x:Nat}(hi:i<n)(hx:x<n)(hp:1<per os (i:Int))(r:Rch os (i:Int) (x:Int)):¬ os.getD x 0=(x:Int):=by
 intro e
 have r2:=r.symm h (by omega) (by omega)
 obtain ⟨k,hk⟩:=r2
 have hfix:∀ k,itn os k (x:Int)=(x:Int):=by
  intro k
  induction k with
  | zero=>rfl
  | succ k ih=>
   show nxt os (itn os k (x:Int))=_
   rw [ih]
   show os.getD ((x:Int)).toNat 0=_
   rw [aY,e]
 rw [hfix k] at hk
 have:x=i:=by omega
 subst this
 exact (Ja h hi).mp hp e
open Classical in
noncomputable def ZO (os:List Int)(n i:Nat):Nat:=(bI n).countP fun (x:Nat)=>decide (ql os i (x:Int)/\¬ os.getD x 0=(x:Int))
noncomputable def yZ (rs:List (List Int)):Nat:=(rs.map ow).sum
theorem AX (a b:List (List Int)):yZ (a ++ b)=yZ a+yZ b:=by unfold yZ;rw [aQ,List.sum_append]
open Classical in
theorem Zb {n:Nat}{os:List Int}(h:zF n os):∀ i,i<=n->yZ (zr os i)=ZO os n i
 | 0,_=>by
  unfold ZO
  have:(bI n).countP (fun (x:Nat)=>decide (ql os 0 (x:Int)/\¬ os.getD x 0=(x:Int)))=0:=by
   rw [ni]
   intro x _ hx
   have:=(of_decide_eq_true hx).1
   obtain ⟨q,hq,_⟩:=this
   omega
  rw [this];rfl
 | i+1,hi=>by
  have ih:=Zb h i (by omega)
  show yZ (zr os i ++ _)=_
  rw [AX,ih]
  obtain ⟨M,hM,hMn⟩:=jC h (p:=(i:Int)) (by omega) (by omega)
  by_cases hL:kZ os i
  ·have hns:=jV.mp hL
   by_cases hp:1<per os (i:Int)
   ·rw [if_pos ⟨hL,hp⟩]
    have e:(fun x:Nat=>decide (ql os (i+1) (x:Int)/\¬ os.getD x 0=(x:Int)))=fun x:Nat=>decide (ql os i (x:Int)/\¬ os.getD x 0=(x:Int)) || decide (Rch os (i:Int) (x:Int)/\¬ os.getD x 0=(x:Int)):=by
     funext x
     rw [d7,Bool.or_eq_true,decide_eq_true_eq,decide_eq_true_eq,decide_eq_true_eq,ql.succ]
     constructor
     ·rintro ⟨a | a,b⟩
      ·exact .inl ⟨a,b⟩
      ·exact .inr ⟨a,b⟩
     ·rintro (⟨a,b⟩ | ⟨a,b⟩)
      ·exact ⟨.inl a,b⟩
      ·exact ⟨.inr a,b⟩
    unfold ZO
    rw [e,xo]
    ·congr 1
     have e2:(bI n).countP (fun x:Nat=>decide (Rch os (i:Int) (x:Int)/\¬ os.getD x 0=(x:Int)))=(bI n).countP (fun x:Nat=>decide (x ∈ (itl os (i:Int) M).map bc)):=by
      refine gJ fun x hx=>?_
      have hx':x<n:=by simpa using hx
      rw [decide_eq_true_eq,decide_eq_true_eq,bn]
      constructor
      ·rintro ⟨r,_⟩
       exact ⟨(x:Int),(Rch.mem_ring hM).mp r,by simp⟩
      ·rintro ⟨y,hy,e⟩
       obtain ⟨k,hk,ek⟩:=qx.mp hy
       have b:=qQ h (p:=(i:Int)) (by omega) (by omega) k
       have hyx:y=(x:Int):=by omega
       rw [hyx] at hy
       have r:=(Rch.mem_ring hM).mpr hy
       exact ⟨r,Xj h (by omega) hx' hp r⟩
     have hnd:=ky h (p:=(i:Int)) (by omega) (by omega) hM
     rw [e2,wv]
     ·rw [am,qT]
      unfold yZ zG
      rw [hM.per]
      simp [qT]
     ·rw [cj,dZ]
      refine dM.imp_of_mem (fun {a b} ha hb hab e=>?_) (cj.mp hnd)
      obtain ⟨k1,_,e1⟩:=qx.mp ha
      obtain ⟨k2,_,e2⟩:=qx.mp hb
      have b1:=qQ h (p:=(i:Int)) (by omega) (by omega) k1
      have b2:=qQ h (p:=(i:Int)) (by omega) (by omega) k2
      exact hab (by omega)
     ·intro x hx
      obtain ⟨y,hy,e⟩:=bn.mp hx
      obtain ⟨k,hk,ek⟩:=qx.mp hy
      have b:=qQ h (p:=(i:Int)) (by omega) (by omega) k
      omega
    ·intro x _ ⟨h1,h2⟩
     exact ql.apart h (by omega) hns (of_decide_eq_true h2).1 (of_decide_eq_true h1).1
   ·rw [if_neg (fun z=>hp z.2)]
    have e:ZO os n (i+1)=ZO os n i:=by
     unfold ZO
     refine gJ fun x hx=>?_
     have hx':x<n:=by simpa using hx
     rw [decide_eq_true_eq,decide_eq_true_eq,ql.succ]
     have hfix:os.getD i 0=(i:Int):=ck fun z=>hp ((Ja h (by omega)).mpr z)
     constructor
     ·rintro ⟨a | a,b⟩
      ·exact ⟨a,b⟩
      ·exfalso
       obtain ⟨k,hk⟩:=a
       have hstay:∀ k,itn os k (i:Int)=(i:Int):=by
        intro k
        induction k with
        | zero=>rfl
        | succ k ih=>
         show nxt os (itn os k (i:Int))=_
         rw [ih]
         show os.getD ((i:Int)).toNat 0=_
         rw [aY,hfix]
       rw [hstay k] at hk
       have:i=x:=by omega
       subst this
       exact b hfix
     ·rintro ⟨a,b⟩
      exact ⟨.inl a,b⟩
    rw [e]
    rfl
  ·rw [if_neg (fun z=>hL z.1)]
   have hs:ql os i (i:Int):=ck fun z=>hL (jV.mpr z)
   have e:ZO os n (i+1)=ZO os n i:=by
    unfold ZO
    refine gJ fun x hx=>?_
    rw [decide_eq_true_eq,decide_eq_true_eq,ql.step h (by omega) hs]
   rw [e]
   rfl
open Classical in
theorem ZI (h:zF n os):yZ (zr os n)=Ky os n:=by
 rw [Zb h n (aF n)]
 unfold ZO Ky
 rw [List.countP_eq_length_filter]
 congr 1
 refine List.filter_congr fun x hx=>?_
 have hx':x<n:=by simpa using hx
 rw [d7]
 constructor
 ·intro z
  have:=(of_decide_eq_true z).2
  simpa using this
 ·intro z
  have z':¬ os.getD x 0=(x:Int):=by simpa using z
  exact decide_eq_true ⟨⟨x,hx',Rch.refl⟩,z'⟩
noncomputable def sw1 (row:List Int)(s:Nat × Nat):List Int:=(row.set s.1 (row.getD s.2 0)).set s.2 (row.getD s.1 0)
noncomputable def swR (row:List Int)(l:List (Nat × Nat)):List Int:=l.foldl sw1 row
theorem Jr (row:List Int)(s:Nat × Nat):(sw1 row s).length=row.length:=by unfold sw1;rw [bp,bp]
theorem kB:∀ (l:List (Nat × Nat)) (row:List Int),(swR row l).length=row.length
 | [],_=>rfl
 | s :: l,row=>by show (swR (sw1 row s) l).length=_;rw [kB l,Jr]
theorem Je (row:List Int)(a b:List (Nat × Nat)):swR row (a ++ b)=swR (swR row a) b:=by unfold swR;rw [eQ]
theorem v8 {row:List Int}{a b x:Nat}(ha:a<row.length)(hb:b<row.length):(sw1 row (a,b)).getD x 0=if x=b then row.getD a 0 else if x=a then row.getD b 0 else row.getD x 0:=by
 unfold sw1
 rw [w8 (by rw [bp];exact hb),w8 ha]
noncomputable def zP (c:List Nat):List (Nat × Nat):=(c.drop 1).map fun p=>(c.getD 0 0,p)
theorem vh {row:List Int}{c:List Nat}(nd:c.Nodup)(hb:∀ x ∈ c,x<row.length)(h0:∀ x ∈ c,row.getD x 0=(x:Int))(hc:1<=c.length):∀ k,k<c.length ->
  (swR row ((zP c).take k)).getD (c.getD 0 0) 0=((c.getD k 0:Nat):Int)/\(∀ i,1<=i->i<=k->(swR row ((zP c).take k)).getD (c.getD i 0) 0=((c.getD (i - 1) 0:Nat):Int)) /\
   (∀ i,k<i->i<c.length->(swR row ((zP c).take k)).getD (c.getD i 0) 0=((c.getD i 0:Nat):Int))/\∀ x,x ∉ c->(swR row ((zP c).take k)).getD x 0=row.getD x 0
 | 0,h=>by
  have gm:∀ i,i<c.length->c.getD i 0 ∈ c:=fun i hi=>by
   rw [af,aj hi];exact bo hi
  refine ⟨h0 _ (gm 0 h),fun i h1 h2=>by omega,fun i h1 h2=>h0 _ (gm i h2),fun x hx=>rfl⟩
 | k+1,h=>by
  obtain ⟨i1,i2,i3,i4⟩:=vh nd hb h0 hc k (by omega)
  have gm:∀ i,i<c.length->c.getD i 0 ∈ c:=fun i hi=>by
   rw [af,aj hi];exact bo hi
  have inj:∀ i j,i<c.length->j<c.length->c.getD i 0=c.getD j 0->i=j:=fun i j hi hj e=>by
   rw [af,aj hi,af,aj hj] at e
   exact (fN nd).mp e
  have hsl:(zP c).length=c.length - 1:=by unfold zP;rw [am,b8]
  have est:(zP c)[k]?=some (c.getD 0 0,c.getD (k+1) 0):=by
   unfold zP
   rw [aE,iJ,af (i:=k+1),show 1+k=k+1 by omega,aj h];rfl
  have htk:(zP c).take (k+1)=(zP c).take k ++ [(c.getD 0 0,c.getD (k+1) 0)]:=by rw [cZ,est];rfl
  rw [htk,Je]
  show (sw1 (swR row ((zP c).take k)) (c.getD 0 0,c.getD (k+1) 0)).getD _ _=_/\_
  have b0:c.getD 0 0<(swR row ((zP c).take k)).length:=by rw [kB];exact hb _ (gm 0 (by omega))
  have b1:c.getD (k+1) 0<(swR row ((zP c).take k)).length:=by rw [kB];exact hb _ (gm (k+1) h)
  have ne:c.getD 0 0 ≠ c.getD (k+1) 0:=fun e=>by have:=inj 0 (k+1) (by omega) h e;omega
  refine ⟨?_,fun i h1 h2=>?_,fun i h1 h2=>?_,fun x hx=>?_⟩
  ·rw [v8 b0 b1,if_neg ne,if_pos rfl]
   exact i3 (k+1) (by omega) h
  ·show (sw1 _ _).getD _ _=_
   rw [v8 b0 b1]
   by_cases e:i=k+1
   ·subst e
    rw [if_pos rfl,i1,show k+1 - 1=k by omega]
   ·rw [if_neg (fun z=>e (inj i (k+1) (by omega) h z)),if_neg (fun z=>by have:=inj i 0 (by omega) (by omega) z;omega)]
    exact i2 i h1 (by omega)
  ·show (sw1 _ _).getD _ _=_
   rw [v8 b0 b1,if_neg (fun z=>by have:=inj i (k+1) h2 h z;omega),if_neg (fun z=>by have:=inj i 0 h2 (by omega) z;omega)]
   exact i3 i (by omega) h2
  ·show (sw1 _ _).getD _ _=_
   rw [v8 b0 b1,if_neg (fun z=>hx (by rw [z];exact gm (k+1) h)),if_neg (fun z=>hx (by rw [z];exact gm 0 (by omega)))]
   exact i4 x hx
noncomputable def qJ (os:List Int)(i:Nat):List (Nat × Nat):=((zr os i).map fun r=>zP (r.map bc)).flatten
open Classical in
theorem yC {n:Nat}{os:List Int}(h:zF n os):∀ i,i<=n->(swR (zA 0 1 n) (qJ os i)).length=n/\(∀ t:Nat,t<n->ql os i (t:Int)->(swR (zA 0 1 n) (qJ os i)).getD (os.getD t 0).toNat 0=(t:Int))/\∀ t:Nat,t<n->¬ ql os i (t:Int)->(swR (zA 0 1 n) (qJ os i)).getD t 0=(t:Int)
  | 0,_=>by
    refine ⟨zD 0 1 n,fun t _ ⟨q,hq,_⟩=>by omega,fun t ht _=>?_⟩
    show (zA 0 1 n).getD t 0=_
    exact Wm n ht
  | i+1,hi=>by
    obtain ⟨l,ih1,ih2⟩:=yC h i (by omega)
    obtain ⟨M,hM,hMn⟩:=jC h (p:=(i:Int)) (by omega) (by omega)
    have hst:qJ os (i+1)=qJ os i ++ (((if kZ os i/\1<per os (i:Int) then [zG os (i:Int)] else []).map fun r=>zP (r.map bc)).flatten):=by
      unfold qJ
      show ((zr os i ++ _).map _).flatten=_
      rw [aQ,cG]
    rw [hst,Je]
    generalize swR (zA 0 1 n) (qJ os i)=row at *
    by_cases hL:kZ os i
    · have hns:=jV.mp hL
      by_cases hp:1<per os (i:Int)
      · rw [if_pos ⟨hL,hp⟩]
        have e1:([zG os (i:Int)].map fun r=>zP (r.map bc)).flatten=zP ((itl os (i:Int) M).map bc):=by
          unfold zG
          rw [hM.per]
          simp
        rw [e1]
        have hcl:((itl os (i:Int) M).map bc).length=M:=by rw [am,qT]
        have cg:∀ k,k<M->((itl os (i:Int) M).map bc).getD k 0=(itn os k (i:Int)).toNat:=fun k hk=>by
          rw [af,aE]
          unfold itl
          rw [aE,cF hk];rfl
        have bd:∀ k,0<=itn os k (i:Int)/\itn os k (i:Int)<n:=fun k=>qQ h (by omega) (by omega) k
        have hnd:((itl os (i:Int) M).map bc).Nodup:=by
          rw [cj,dZ]
          refine dM.imp_of_mem (fun {a b} ha hb hab e=>?_) (cj.mp (ky h (p:=(i:Int)) (by omega) (by omega) hM))
          obtain ⟨k1,_,e1⟩:=qx.mp ha
          obtain ⟨k2,_,e2⟩:=qx.mp hb
          have b1:=bd k1
          have b2:=bd k2
          exact hab (by omega)
        have hmem:∀ x:Nat,x ∈ (itl os (i:Int) M).map bc ↔ Rch os (i:Int) (x:Int):=fun x=>by
          rw [bn,Rch.mem_ring hM]
          constructor
          · rintro ⟨y,hy,e⟩
            obtain ⟨k,hk,ek⟩:=qx.mp hy
            have:=bd k
            rw [show (x:Int)=y by omega];exact hy
          · intro hx
            exact ⟨_,hx,by simp⟩
        have hfree:∀ x ∈ (itl os (i:Int) M).map bc,x<n/\row.getD x 0=(x:Int):=fun x hx=>by
          have r:=(hmem x).mp hx
          obtain ⟨k,hk⟩:=r
          have:=bd k
          have hxn:x<n:=by omega
          exact ⟨hxn,ih2 x hxn (ql.apart h (by omega) hns ⟨k,hk⟩)⟩
        have hM1:=hM.1
        obtain ⟨s1,s2,s3,s4⟩:=vh hnd (fun x hx=>by rw [l];exact (hfree x hx).1) (fun x hx=>(hfree x hx).2) (by omega) (M - 1) (by omega)
        have htake:(zP ((itl os (i:Int) M).map bc)).take (M - 1)=zP ((itl os (i:Int) M).map bc):=by
          rw [eu]
          unfold zP
          rw [am,b8,hcl]
          exact aF _
        rw [htake] at s1 s2 s3 s4
        refine ⟨by rw [kB];exact l,fun t ht hs=>?_,fun t ht hs=>?_⟩
        · have nx:Rch os (t:Int) (os.getD t 0):=⟨1,by show os.getD ((t:Int)).toNat 0=_;rw [aY]⟩
          have gb:=h.getD ht
          rcases ql.succ.mp hs with z | z
          · have hnot : (os.getD t 0).toNat ∉ (itl os (i : Int) M).map bc := fun hm => by
              have r:=(hmem _).mp hm
              rw [cb gb.1] at r
              obtain ⟨q,hq,rq⟩:=z
              exact ql.apart h (by omega) hns r ⟨q,hq,rq.trans nx⟩
            rw [s4 _ hnot]
            exact ih1 t ht z
          · obtain ⟨k,hk,ek⟩:=qx.mp ((Rch.mem_ring hM).mp z)
            have enx:os.getD t 0=itn os (k+1) (i:Int):=by
              show _=nxt os (itn os k (i:Int))
              rw [ek]
              show _=os.getD ((t:Int)).toNat 0
              rw [aY]
            rw [enx]
            by_cases hlast:k+1=M
            · rw [hlast,hM.2.1]
              have:((i:Int)).toNat=((itl os (i:Int) M).map bc).getD 0 0:=by rw [cg 0 (by omega)];rfl
              rw [this,s1,cg (M - 1) (by omega),show M - 1=k by omega,ek]
              simp
            · have:=s2 (k+1) (by omega) (by omega)
              rw [cg (k+1) (by omega),show k+1 - 1=k by omega,cg k hk,ek] at this
              rw [this]
              simp
        · have hnot:t ∉ (itl os (i:Int) M).map bc:=fun hm=>hs (ql.succ.mpr (.inr ((hmem t).mp hm)))
          rw [s4 t hnot]
          exact ih2 t ht fun z=>hs (ql.succ.mpr (.inl z))
      · rw [if_neg (fun z=>hp z.2)]
        have hfix:os.getD i 0=(i:Int):=ck fun z=>hp ((Ja h (by omega)).mpr z)
        have hstay:∀ k,itn os k (i:Int)=(i:Int):=by
          intro k
          induction k with
          | zero=>rfl
          | succ k ih=>
            show nxt os (itn os k (i:Int))=_
            rw [ih]
            show os.getD ((i:Int)).toNat 0=_
            rw [aY,hfix]
        refine ⟨l,fun t ht hs=>?_,fun t ht hs=>ih2 t ht fun z=>hs (ql.succ.mpr (.inl z))⟩
        rcases ql.succ.mp hs with z | ⟨k,z⟩
        · exact ih1 t ht z
        · rw [hstay k] at z
          have:i=t:=by omega
          subst this
          rw [hfix,aY]
          exact ih2 i ht hns
    · rw [if_neg (fun z=>hL z.1)]
      have hs0:ql os i (i:Int):=ck fun z=>hL (jV.mpr z)
      exact ⟨l,fun t ht hs=>ih1 t ht ((ql.step h (by omega) hs0).mp hs),fun t ht hs=>ih2 t ht fun z=>hs ((ql.step h (by omega) hs0).mpr z)⟩
theorem J0 (h:zF n os){t:Nat}(ht:t<n):(swR (zA 0 1 n) (qJ os n)).getD (os.getD t 0).toNat 0=(t:Int):=
 (yC h n (aF n)).2.1 t ht ⟨t,ht,Rch.refl⟩
section
variable {X:Cx}
variable {o e:Expr}{es:List Expr}{to:TE}{t:TA}{name:Str}{apos cpos:Pos}{T id:String}{r:V->List V->Hp->VK->Prop}{K:az}
theorem NP (hK:X.K=K)(pa:PlainAttrs T)(slot:Slot T name id)(hty:typeOf (.builtin id)=pure (.type "method_descriptor"))(hm:MtR X id r)(ho:PE X o to)(ha:PA X (e :: es) t)
  (h1:eD o name X.env (eval o X.env)=eval o X.env:=by rfl)
  (h2:((cH cpos (aV (e :: es) X.env)).all (fun x=>!x.1) && (fY cpos (eE [] X.env)).all (fun x=>x.1.isSome) && decide ((e :: es).length+([]:List i9).length+(if ([]:List i9).isEmpty then 0 else 1)<30))=true:=by rfl)
  (h3:(apos.endLine == cpos.line)=true:=by rfl) (h4:aV (e :: es) X.env=(false,eval e X.env) :: aV es X.env:=by rfl) (h5:(cH cpos (aV es X.env)).any (·.1)=false:=by rfl) :
  PE X (.Call (.Attribute o name apos) (e :: es) [] cpos) (tBM K T r to t):=by
 subst hK
 exact kl pa slot hty hm ho ha h1 h2 h3 h4 h5
end
section
variable {X:Cx}{tg:Expr}
end
inductive Dd where
 | take (p:Nat) | move (p g:Nat) | lay (g:Nat)
abbrev RS:=List (Option Int) × Option Int × List Int
noncomputable def inc (mv:List Int)(x:Int):List Int:=mv.set x.toNat (mv.getD x.toNat 0+1)
inductive Do:Dd->RS->RS->Prop
 | take {p:Nat} {row:List (Option Int)} {mv:List Int} {x:Int}:row[p]?=some (some x)->Do (.take p) (row,none,mv) (row.set p none,some x,inc mv x)
 | move {p g:Nat} {row:List (Option Int)} {h:Option Int} {mv:List Int} {x:Int}:row[p]?=some (some x)->row[g]?=some none->Do (.move p g) (row,h,mv) ((row.set p none).set g (some x),h,inc mv x)
 | lay {g:Nat} {row:List (Option Int)} {mv:List Int} {x:Int}:row[g]?=some none->Do (.lay g) (row,some x,mv) (row.set g (some x),none,inc mv x)
inductive Dos:List Dd->RS->RS->Prop
 | nil {s:RS}:Dos [] s s
 | cons {d:Dd} {l:List Dd} {s t u:RS}:Do d s t->Dos l t u->Dos (d :: l) s u
theorem Dos.append {a b:List Dd}{s t u:RS}(h1:Dos a s t)(h2:Dos b t u):Dos (a ++ b) s u:=by
 induction h1 with
 | nil=>exact h2
 | cons d _ ih=>exact .cons d (ih h2)
noncomputable def mvP:Nat->List Nat->List Dd
 | _,[]=>[]
 | g,p :: ps=>.move p g :: mvP p ps
noncomputable def jP (c:List Nat):List Dd:=.take (c.getD 0 0) :: mvP (c.getD 0 0) (c.drop 1).reverse ++ [.lay ((c.drop 1).reverse.getLastD (c.getD 0 0))]
theorem Im:∀ (ps:List Nat) (g:Nat) (row:List (Option Int)) (h:Option Int) (mv:List Int),row[g]?=some none->(g :: ps).Nodup->(∀ p ∈ ps,row[p]?=some (some (p:Int))) ->
  ∃ row',Dos (mvP g ps) (row,h,mv) (row',h,ps.foldl (fun m (p:Nat)=>inc m (p:Int)) mv)/\row'.length=row.length/\row'[ps.getLastD g]?=some none/\(∀ (i p:Nat),ps[i]?=some p->row'[(g :: ps).getD i 0]?=some (some (p:Int)))/\∀ x,x ∉ g :: ps->row'[x]?=row[x]?
 | [],g,row,h,mv,hg,_,_=>⟨row,.nil,rfl,hg,fun i p e=>by simp at e,fun x _=>rfl⟩
 | p :: ps,g,row,h,mv,hg,nd,hp=>by
  have gl:g<row.length:=(aA.mp hg).1
  have hp0:=hp p (by simp)
  have pl:p<row.length:=(aA.mp hp0).1
  rw [bT] at nd
  obtain ⟨n1,n2⟩:=nd
  have ngp:g ≠ p:=fun z=>n1 (by rw [z];simp)
  have at1:∀ x,((row.set p none).set g (some (p:Int)))[x]?=if x=g then some (some (p:Int)) else if x=p then some none else row[x]?:=by
   intro x
   rw [bj,bj,bp]
   by_cases e1:x=g
   ·subst e1;simp [gl]
   ·rw [if_neg (fun z=>e1 z.symm),if_neg e1]
    by_cases e2:x=p
    ·subst e2;simp [pl]
    ·rw [if_neg (fun z=>e2 z.symm),if_neg e2]
  obtain ⟨row',d,l,hl,hs,ho⟩:=Im ps p ((row.set p none).set g (some (p:Int))) h (inc mv (p:Int)) (by rw [at1,if_neg (fun z=>ngp z.symm),if_pos rfl]) n2 (fun q hq=>by
   rw [at1,if_neg (fun z=>n1 (by rw [<- z];simp [hq])),if_neg (fun z=>(bT.mp n2).1 (by rw [<- z];exact hq))]
   exact hp q (by simp [hq]))
  refine ⟨row',.cons (.move hp0 hg) d,by rw [l,bp,bp],?_,fun i q e=>?_,fun x hx=>?_⟩
  ·rw [show (p :: ps).getLastD g=ps.getLastD p by simp [eL,nH]];exact hl
  ·cases i with
   | zero=>
    have:p=q:=by simpa using e
    subst this
    show row'[g]?=_
    rw [ho g n1,at1,if_pos rfl]
   | succ i=>exact hs i q (by simpa using e)
  ·have hx1:x ≠ g:=fun z=>hx (by simp [z])
   have hx2:x ∉ p :: ps:=fun z=>hx (aZ _ z)
   rw [ho x hx2,at1,if_neg hx1,if_neg (fun z=>hx2 (by simp [z]))]
noncomputable def Qa (c:List Nat)(mv:List Int):List Int:=inc ((c.drop 1).reverse.foldl (fun m (p:Nat)=>inc m (p:Int)) (inc mv ((c.getD 0 0:Nat):Int))) ((c.getD 0 0:Nat):Int)
theorem GK {R:List Int}{c:List Nat}{mv:List Int}(nd:c.Nodup)(hc:2<=c.length)(hb:∀ x ∈ c,x<R.length)(h0:∀ x ∈ c,R.getD x 0=(x:Int)) :
  Dos (jP c) (R.map some,none,mv) ((swR R (zP c)).map some,none,Qa c mv):=by
 obtain ⟨c0,ct,rfl⟩:∃ c0 ct,c=c0 :: ct:=by
  cases c with
  | nil=>simp at hc
  | cons a b=>exact ⟨a,b,rfl⟩
 have hat:∀ x ∈ c0 :: ct,(R.map some)[x]?=some (some (x:Int)):=fun x hx=>by
  rw [aE,aj (hb x hx),<- h0 x hx,j0 (hb x hx)];rfl
 have l0:c0<R.length:=hb c0 (by simp)
 have nd':=bT.mp nd
 have hrow:((R.map some).set c0 none)[c0]?=some none:=by rw [bj,am];simp [l0]
 obtain ⟨row',d,l,hl,hs,ho⟩:=Im ct.reverse c0 ((R.map some).set c0 none) (some (c0:Int)) (inc mv (c0:Int)) hrow
  (bT.mpr ⟨by simpa using nd'.1,(by have h:=nd'.2;rw [cj] at h ⊢;rw [List.pairwise_reverse];exact h.imp fun z=>z.symm)⟩) (fun p hp=>by
   have hp':p ∈ ct:=by simpa using hp
   rw [bj,if_neg (fun z=>nd'.1 (by rw [z];exact hp'))]
   exact hat p (by simp [hp']))
 have hct:1<=ct.length:=by simpa using hc
 rw [bp,am] at l
 have last:ct.reverse.getLastD c0=ct.getD 0 0:=by
  cases ct with
  | nil=>simp at hct
  | cons a b=>simp [eL]
 have hl':=hl
 rw [last] at hl
 have e:row'.set (ct.getD 0 0) (some (c0:Int))=(swR R (zP (c0 :: ct))).map some:=by
  obtain ⟨s1,s2,s3,s4⟩:=vh (row:=R) nd hb h0 (by omega) ((c0 :: ct).length - 1) (by simp)
  have htake:(zP (c0 :: ct)).take ((c0 :: ct).length - 1)=zP (c0 :: ct):=by
   rw [eu]
   unfold zP
   rw [am,b8]
   exact aF _
  rw [htake] at s1 s2 s4
  have lsw:=kB (zP (c0 :: ct)) R
  have l1:ct.getD 0 0<row'.length:=by rw [l];exact hb _ (by rw [af,aj hct];simp)
  refine dF fun x=>?_
  rw [bj,aE]
  by_cases hx:x<R.length
  ·have ex:(swR R (zP (c0 :: ct)))[x]?=some ((swR R (zP (c0 :: ct))).getD x 0):=by rw [af,aj (by omega)];rfl
   rw [ex]
   show _=some (some _)
   by_cases hm:x ∈ c0 :: ct
   ·obtain ⟨k,hk,ek⟩:=mP.mp hm
    have gd:∀ i (hi:i<(c0 :: ct).length),(c0 :: ct).getD i 0=(c0 :: ct)[i]:=fun i hi=>by rw [af,aj hi];rfl
    rcases k with _ | _ | k
    ·have ek:c0=x:=ek
     subst ek
     have ne:ct.getD 0 0 ≠ c0:=fun z=>nd'.1 (by rw [<- z,af,aj hct];simp)
     rw [if_neg ne]
     have:=hs 0 (ct.getD (ct.length - 1) 0) (by rw [cI (by omega),af,show ct.length - 1 - 0=ct.length - 1 by omega,aj (by omega)];rfl)
     rw [show (c0 :: ct.reverse).getD 0 0=c0 from rfl] at this
     rw [this]
     have s1':(swR R (zP (c0 :: ct))).getD c0 0=_:=s1
     rw [s1',gd _ (by simp)]
     simp only [aK,Nat.add_sub_cancel]
     rw [af,aj (by omega)]
     obtain ⟨m,hm'⟩:∃ m,ct.length=m+1:=⟨ct.length - 1,by omega⟩
     simp [hm']
    ·have ek:ct[0]=x:=ek
     have e0:ct.getD 0 0=x:=by rw [af,aj hct];exact ek
     rw [if_pos e0,if_pos l1]
     have:=s2 1 (aF 1) (by simp;omega)
     rw [gd 1 (by simpa using hk)] at this
     rw [show x=(c0 :: ct)[1] from ek.symm,this]
     rfl
    ·have hk':k+1<ct.length:=by simpa using hk
     have ek:ct[k+1]=x:=ek
     have ne:ct.getD 0 0 ≠ x:=fun z=>by
      rw [af,aj hct,<- ek] at z
      have:=(fN nd'.2).mp (show ct[0]=ct[k+1] from z)
      omega
     rw [if_neg ne]
     have hi1:ct.length - 1 - (k+1)<ct.reverse.length:=by rw [bG];omega
     have:=hs (ct.length - 1 - k) (ct.getD k 0) (by rw [cI (by omega),af,show ct.length - 1 - (ct.length - 1 - k)=k by omega,aj (by omega)];rfl)
     rw [show (c0 :: ct.reverse).getD (ct.length - 1 - k) 0=x by
      rw [show ct.length - 1 - k=(ct.length - 1 - (k+1))+1 by omega,af,List.getElem?_cons_succ,cI (by omega),show ct.length - 1 - (ct.length - 1 - (k+1))=k+1 by omega,aj hk']
      exact ek] at this
     rw [this]
     have s2':=s2 (k+2) (by omega) (by simp;omega)
     rw [gd (k+2) hk,show (c0 :: ct)[k+2]=x from ek] at s2'
     rw [s2',show k+2 - 1=k+1 by omega,gd (k+1) (by simp;omega),af,aj (by omega)]
     rfl
   ·rw [s4 x hm]
    have hm2:x ∉ c0 :: ct.reverse:=fun z=>hm (by simpa using z)
    have ne:ct.getD 0 0 ≠ x:=fun z=>hm (by rw [<- z,af,aj hct];simp)
    rw [if_neg ne,ho x hm2,bj,if_neg (fun z=>hm (by simp [z])),aE,j0 hx,aj hx]
    rfl
  ·have ne:ct.getD 0 0 ≠ x:=fun z=>by omega
   rw [if_neg ne,bN (by omega),bN (by omega)]
   rfl
 refine .cons (.take (hat c0 (by simp))) (Dos.append d (.cons (.lay hl') ?_))
 show Dos [] (row'.set (ct.reverse.getLastD c0) (some (c0:Int)),none,Qa (c0 :: ct) mv) _
 rw [last,e]
 exact .nil
noncomputable def yx (os:List Int)(i:Nat)(mv:List Int):List Int:=(zr os i).foldl (fun m r=>Qa (r.map bc) m) mv
noncomputable def jT (os:List Int)(i:Nat):List Dd:=((zr os i).map fun r=>jP (r.map bc)).flatten
open Classical in
theorem Kf {n:Nat}{os:List Int}(h:zF n os)(mv:List Int):∀ i,i<=n->Dos (jT os i) ((zA 0 1 n).map some,none,mv) ((swR (zA 0 1 n) (qJ os i)).map some,none,yx os i mv)
 | 0,_=>.nil
 | i+1,hi=>by
  have d1:=Kf h mv i (by omega)
  obtain ⟨l,ih1,ih2⟩:=yC h i (by omega)
  obtain ⟨M,hM,hMn⟩:=jC h (p:=(i:Int)) (by omega) (by omega)
  have hst:qJ os (i+1)=qJ os i ++ (((if kZ os i/\1<per os (i:Int) then [zG os (i:Int)] else []).map fun r=>zP (r.map bc)).flatten):=by
   unfold qJ
   show ((zr os i ++ _).map _).flatten=_
   rw [aQ,cG]
  have hrp:jT os (i+1)=jT os i ++ (((if kZ os i/\1<per os (i:Int) then [zG os (i:Int)] else []).map fun r=>jP (r.map bc)).flatten):=by
   unfold jT
   show ((zr os i ++ _).map _).flatten=_
   rw [aQ,cG]
  have hrm:yx os (i+1) mv=(if kZ os i/\1<per os (i:Int) then [zG os (i:Int)] else []).foldl (fun m r=>Qa (r.map bc) m) (yx os i mv):=by
   unfold yx
   show (zr os i ++ _).foldl _ _=_
   rw [eQ]
  rw [hst,hrp,hrm,Je]
  by_cases hL:kZ os i/\1<per os (i:Int)
  ·rw [if_pos hL]
   have hns:=jV.mp hL.1
   have hM2:1<M:=by rw [<- hM.per];exact hL.2
   have e1:([zG os (i:Int)].map fun r=>zP (r.map bc)).flatten=zP ((itl os (i:Int) M).map bc):=by
    unfold zG
    rw [hM.per]
    simp
   have e2:([zG os (i:Int)].map fun r=>jP (r.map bc)).flatten=jP ((itl os (i:Int) M).map bc):=by
    unfold zG
    rw [hM.per]
    simp
   have e3:[zG os (i:Int)].foldl (fun m r=>Qa (r.map bc) m) (yx os i mv)=Qa ((itl os (i:Int) M).map bc) (yx os i mv):=by
    unfold zG
    rw [hM.per]
    rfl
   rw [e1,e2,e3]
   have hcl:((itl os (i:Int) M).map bc).length=M:=by rw [am,qT]
   have bd:∀ k,0<=itn os k (i:Int)/\itn os k (i:Int)<n:=fun k=>qQ h (by omega) (by omega) k
   have hnd:((itl os (i:Int) M).map bc).Nodup:=by
    rw [cj,dZ]
    refine dM.imp_of_mem (fun {a b} ha hb hab e=>?_) (cj.mp (ky h (p:=(i:Int)) (by omega) (by omega) hM))
    obtain ⟨k1,_,e1⟩:=qx.mp ha
    obtain ⟨k2,_,e2⟩:=qx.mp hb
    have b1:=bd k1
    have b2:=bd k2
    exact hab (by omega)
   have hfree:∀ x ∈ (itl os (i:Int) M).map bc,x<n/\(swR (zA 0 1 n) (qJ os i)).getD x 0=(x:Int):=fun x hx=>by
    obtain ⟨y,hy,e⟩:=bn.mp hx
    obtain ⟨k,hk,ek⟩:=qx.mp hy
    have:=bd k
    have hxn:x<n:=by omega
    exact ⟨hxn,ih2 x hxn (ql.apart h (by omega) hns ⟨k,by omega⟩)⟩
   have d2:=GK (R:=swR (zA 0 1 n) (qJ os i)) (mv:=yx os i mv) hnd (by omega) (fun x hx=>by rw [l];exact (hfree x hx).1) (fun x hx=>(hfree x hx).2)
   exact d1.append d2
  ·rw [if_neg hL]
   exact d1.append .nil
section
variable {X:Cx}{K:az}
end
section
variable {X:Cx}
end
section
variable {X:Cx}
end
variable {prog:ba} {vl vu vs:aq}
theorem vj {E:aq->ax->Prop} {sl:ay} {Q:Int × Int × Nat->ax->Prop}(hs:s.heap.IsSliceOf sl vl vu vs)(pl:gS vl none)(pu:gS vu none)(ps:gS vs (some (-1)))
  (h:Q ((n:Int) - 1,-1,n) s):aL (aN prog w) A (eG (.ref sl) (pure (n:Int))) Q E s:=by
 obtain ⟨os,hos,hcs,hds⟩:=id hs
 unfold eG iT
 refine aw (aw (cY hos hds (x:=vl) rfl (aw (cY hos hds (x:=vu) rfl (aw (cY hos hds (x:=vs) rfl (aJ ?_)))))))
 refine aw (HT.slicePart_ ps ?_)
 show aL _ _ (if ((-1:Int) == 0)=true then _ else _) _ _ s
 rw [if_neg (by decide)]
 refine aw (HT.slicePart_ pl (aw (HT.slicePart_ pu (aw (aJ ?_)))))
 show aL _ _ (pure ((n:Int) - 1,(-1:Int),cC ((n:Int) - 1) (-1) (-1))) _ _ s
 have e:cC ((n:Int) - 1) (-1) (-1)=n:=by
  unfold cC
  rw [if_neg (by decide)]
  split
  ·rw [show - -(1:Int)=1 from rfl,lU];omega
  ·omega
 rw [e]
 exact aJ h
theorem AQ (xs:List aq):((bI xs.length).filterMap fun (m:Nat)=>xs.toArray[(((xs.length:Int) - 1)+(m:Int) * -1).toNat]?)=xs.reverse:=by
 have go:∀ (ks:List Nat),(∀ k ∈ ks,k<xs.length)->(ks.filterMap fun (m:Nat)=>xs.toArray[(((xs.length:Int) - 1)+(m:Int) * -1).toNat]?)=ks.map fun k=>xs.reverse.getD k .none:=by
  intro ks
  induction ks with
  | nil=>intro _;rfl
  | cons k ks ih=>
   intro hk
   have h0:=hk k (by simp)
   have e1:(((xs.length:Int) - 1)+(k:Int) * -1).toNat=xs.length - 1 - k:=by omega
   have e2:xs.toArray[(((xs.length:Int) - 1)+(k:Int) * -1).toNat]?=some (xs.reverse.getD k .none):=by
    rw [e1,gP,af,cI h0,aj (by omega)];rfl
   rw [dP (f:=fun (m:Nat)=>xs.toArray[(((xs.length:Int) - 1)+(m:Int) * -1).toNat]?) e2,ih fun j hj=>hk j (by simp [hj])];rfl
 rw [go _ fun k hk=>by simpa using hk]
 refine dF fun i=>?_
 rw [aE]
 by_cases h:i<xs.length
 ·rw [cF h,aj (by rw [bG];exact h)]
  show some (xs.reverse.getD i .none)=_
  rw [af,aj (by rw [bG];exact h)];rfl
 ·rw [bN (by rw [cq];omega),bN (by rw [bG];omega)];rfl
theorem yF {E:aq->ax->Prop} {t sl:ay}{xs:List aq} {Q:aq->ax->Prop}(ht:IsTup s.heap t xs.toArray)(hs:s.heap.IsSliceOf sl vl vu vs)(pl:gS vl none)(pu:gS vu none)(ps:gS vs (some (-1)))
  (h:Q (.ref s.heap.objs.size) { s with heap:=s.heap.push { cls:=.type "tuple",data:=.seq xs.reverse.toArray } })
  (hsz:xs.length<=aT):aL (aN prog w) A (lQ (.ref t) (.ref sl)) Q E s:=by
 have htake:sizeOk (.seq xs.reverse.toArray):=by
  show xs.reverse.toArray.size<=aT
  rw [aH,bG];exact hsz
 obtain ⟨os,hos,hcs,hds⟩:=id hs
 have hTs:s.TypeIs (.ref sl) "slice":=⟨os,hos,hcs⟩
 unfold lQ
 try with_reducible refine cQ ?_
 first | refine aw (aJ ?_) | skip
 refine aw (wpAny_sequenceKey ht.typeIs (by decide) ?_)
 refine aw (dY (name:=au "__getitem__") ht.typeIs cu
  (eY cu ht.typeIs PyProof.Rows.entry_tuple_getitem ?_ (PyProof.Rows.args_tuple_getitem _ _)))
 show aL _ _ (iH (.ref t) >>= _) _ _ s
 refine aw (tupleItemsOf_ ht ?_)
 refine aw (iz hTs ?_)
 rw [if_pos (by decide)]
 refine aw (vj hs pl pu ps ?_)
 have hno:¬ ((((xs.toArray.size:Int) - 1) == 0 && (-1:Int) == 1 && xs.toArray.size == xs.toArray.size)=true):=by
  intro q
  rw [cS,cS] at q
  exact absurd q.1.2 (by decide)
 show aL _ _ (if (((xs.toArray.size:Int) - 1) == 0 && (-1:Int) == 1 && xs.toArray.size == xs.toArray.size)=true then _ else _) _ _ s
 have ep:=AQ xs
 rw [if_neg hno]
 rw [aH]
 rw [ep]
 first
  | exact aw (m:=bU _) (bO (aJ ⟨_,rfl,aJ h⟩) htake)
  | exact aw (m:=bU _) (bO (aw (aJ (aJ ⟨_,rfl,aJ h⟩))) htake)
  | exact aw (aw (m:=bU _) (bO (aJ (aJ ⟨_,rfl,aJ h⟩)) htake))
  | exact aw (aw (m:=bU _) (bO (aJ ⟨_,rfl,aJ h⟩) htake))
theorem G6 (xs:List V):slV xs none none (some (-1))=xs.reverse:=by
 have hb:bH none none (some (-1)) xs.length=((xs.length:Int) - 1,-1,-1):=rfl
 unfold slV
 rw [hb]
 have key:dL ((xs.length:Int) - 1) (-1) (-1)=(bI xs.length).map fun k=>xs.length - 1 - k:=by
  unfold dL
  dsimp only
  rw [if_neg (by decide)]
  have hc:((if (xs.length:Int) - 1 > -1 then ((xs.length:Int) - 1 - -1 - -1 - 1) / - -1 else 0).toNat)=xs.length:=by
   split
   ·rw [show - -(1:Int)=1 from rfl,lU];omega
   ·omega
  rw [hc]
  refine ef fun k hk=>?_
  have:k<xs.length:=by simpa using hk
  omega
 show ci (fun k=>xs[k]?) (dL ((xs.length:Int) - 1) (-1) (-1))=_
 rw [key,iG]
 have go:∀ (ks:List Nat),(∀ k ∈ ks,k<xs.length)->ci ((fun k=>xs[k]?) ∘ fun k=>xs.length - 1 - k) ks=ks.map fun k=>xs.reverse.getD k .non:=by
  intro ks
  induction ks with
  | nil=>intro _;rfl
  | cons k ks ih=>
   intro hk
   have h0:=hk k (by simp)
   have e2:((fun k=>xs[k]?) ∘ fun k=>xs.length - 1 - k) k=some (xs.reverse.getD k .non):=by
    show xs[xs.length - 1 - k]?=_
    rw [af,cI h0,aj (by omega)];rfl
   rw [dP e2,ih fun j hj=>hk j (by simp [hj])];rfl
 rw [go _ fun k hk=>by simpa using hk]
 refine dF fun i=>?_
 rw [aE]
 by_cases h:i<xs.length
 ·rw [cF h,aj (by rw [bG];exact h)]
  show some (xs.reverse.getD i .non)=_
  rw [af,aj (by rw [bG];exact h)];rfl
 ·rw [bN (by rw [cq];omega),bN (by rw [bG];omega)];rfl
theorem zz.rev {xs:List V}{us:List aq}(r:zz xs us):zz xs.reverse us.reverse:=by
 induction r with
 | nil=>exact .nil
 | cons h _ ih=>rw [li,li];exact ih.append (.cons h .nil)
noncomputable def Ha (K:az):V->Hp->VK->Prop:=fun x H Q=>∃ a xs,x=.ref a/\((SqL K H a xs/\∀ p,H p=none->Q (.ref p) (upd H p (.lst xs.reverse))) \/ (SqT K H a xs/\∀ p,H p=none->Q (.ref p) (upd H p (.tup xs.reverse))))
noncomputable def Nl (K:az)(te:TE)(ts:TO):TE:=fun σ H Q=>te σ H fun x H1=>ts σ H1 fun z H2=>z=some (-1)/\Ha K x H2 Q
section
variable {X:Cx}{e st:Expr}{te:TE}{ts:TO}{p2 pos:Pos}
theorem Ag (he:PE X e te)(hst:PO X (some st) ts):PE X (.Subscript e (.Slice none none (some st) p2) pos) (Nl X.K te ts):=by
 intro pins s σ H Q I h
 refine Subscript_ (thn (he pins s σ H _ I h) fun v s1 ⟨x,H1,I1,r1,q1⟩=>?_)
 refine wpAny_Slice (thn (jh pins s1 σ H1 (fun z H2=>z=none/\ts σ H2 fun z H2=>z=some (-1)/\Ha X.K x H2 Q) I1 ⟨rfl,q1⟩) fun vl s2 ⟨l,H2,I2,pl,e1,q2⟩=>thn (jh pins s2 σ H2 (fun z H3=>z=none/\ts σ H3 fun z H2=>z=some (-1)/\Ha X.K x H2 Q) I2 ⟨rfl,q2⟩) fun vu s3 ⟨u,H3,I3,pu,e2,q3⟩=>thn (hst pins s3 σ H3 _ I3 q3) fun vs s4 ⟨z,H4,I4,pz,e3,q4⟩=>?_)
 subst e1 e2 e3
 have I5:Inv X pins σ H4 { s4 with heap:=s4.heap.push { cls:=.type "slice",data:=.fields #[vl,vu,vs] } }:=I4.kept (t':=s4.toks) fun b ob q=>aD _ q
 obtain ⟨a,xs,rfl,q⟩:=q4
 cases r1
 rcases q with ⟨hx,q⟩ | ⟨hx,q⟩
 ·obtain ⟨its,r,ht,hz⟩:=I5.list hx
  have hlen:=r.length
  show aL (aN X.prog X.w) X.A (hV e (.Slice none none (some st) p2) (.ref a) (.ref s4.heap.objs.size)) (EP X pins σ Q) X.xe { s4 with heap:=s4.heap.push { cls:=.type "slice",data:=.fields #[vl,vu,vs] } }
  refine tail_any (ops:=[.ref a,.ref s4.heap.objs.size]) ht.isList.typeIs gG.lookup ?_ rfl
  refine fZ ht.isList (gk ..) pl pu pz (by decide) ?_ (by rw [aH];omega)
  have e1:lG its.toArray none none (some (-1))=(ci (fun x=>its[x]?) (dL (bH none none (some (-1)) xs.length).1 (bH none none (some (-1)) xs.length).2.1 (bH none none (some (-1)) xs.length).2.2)).toArray:=by
   unfold lG
   rw [aH,<- hlen]
   simp only [gP]
  rw [e1]
  have rr:=vy r (dL (bH none none (some (-1)) xs.length).1 (bH none none (some (-1)) xs.length).2.1 (bH none none (some (-1)) xs.length).2.2)
  have er:(ci (fun k=>xs[k]?) (dL (bH none none (some (-1)) xs.length).1 (bH none none (some (-1)) xs.length).2.1 (bH none none (some (-1)) xs.length).2.2))=xs.reverse:=G6 xs
  rw [er] at rr
  refine ⟨.ref _,_,I5.laid (t':=s4.toks) (o:=.lst xs.reverse) (fun b ob q=>aD _ q) (aF _) ?_,rfl,q _ (I5.hok.fresh (aF _))⟩
  refine ⟨?_,_,0,rr,aS _ rfl⟩
  rw [bG];exact hz
 ·obtain ⟨its,r,ht,hz⟩:=I5.tuple hx
  show aL (aN X.prog X.w) X.A (hV e (.Slice none none (some st) p2) (.ref a) (.ref s4.heap.objs.size)) (EP X pins σ Q) X.xe { s4 with heap:=s4.heap.push { cls:=.type "slice",data:=.fields #[vl,vu,vs] } }
  refine tail_any (ops:=[.ref a,.ref s4.heap.objs.size]) ht.typeIs cu.lookup ?_ rfl
  refine yF ht (gk ..) pl pu pz ?_ (by rw [<- r.length];exact hz)
  refine ⟨.ref _,_,I5.laid (t':=s4.toks) (o:=.tup xs.reverse) (fun b ob q=>aD _ q) (aF _) ?_,rfl,q _ (I5.hok.fresh (aF _))⟩
  exact ⟨by rw [bG];exact hz,_,zz.rev r,wt.new _ _⟩
end
section
variable {X:Cx}
end
def AtM (K:az)(C:ay)(m qual:Str)(st:cJ):Prop:=∃ f fd,Fun K m qual st f fd/\XN K C m f
def Dm (P:ba)(w:bE)(K:az)(mg:Str->Option aq)(base:Heap)(C:ay)(m:Str)(ps:List Str)(k:Nat)(sp:Sp):Prop:=
 ∃ f fd,jx P w K mg base CX0 k f fd ps sp/\jv K fd ps []/\XN K C m f
variable {C:ay}
theorem Dm.mono {m:Str} (D:Dm P w K mg base C m ps j sp)(h:j<=k):Dm P w K mg base C m ps k sp:=
 let ⟨f,fd,F,r⟩:=D
 ⟨f,fd,F.mono h,r⟩
theorem MM {m qual:Str} (a:AtM K C m qual st)(S:zn N ps (zd st))
  (hb:∀ (kV doc pm:aq) (an:Option ay) (cdv ct:aq) (us:List aq),us.length=ps.length->fm (b7 m qual (qq st) (zN st) (zd st) .none kV doc pm an cdv ct) ⟨us,[]⟩=pure (ps.zip us))
  (len:∀ vs H Q E,sp vs H Q E->vs.length=ps.length)
  (hbody:∀ (f:ay) (cdv:aq) (A:bt) (outer:List Env) (s:ax) (H:Hp) (vs:List V) (Q:VK) (E:XK),qm k (A.deeper (fK qual (zd st) s.heap.objs.size f cdv))->sp vs H Q E ->
   ∃ t,PSs (jF CX0 P w K mg base N qual (zd st) f cdv A outer s H E).nox (zN st) t/\t { nx:=fun _ H'=>Q .non H',rt:=Q } (qB N vs) H):Dm P w K mg base C m ps (k+1) sp:=by
 obtain ⟨f,fd,F,mt⟩:=a
 exact ⟨f,fd,F.ok S len fun cdv A outer s H vs Q E=>hbody f cdv A outer s H vs Q E,F.binds hb,mt⟩
section
variable {X:Cx}{k:Nat}{C:ay}{m x:Str}{ps:List Str}{sp:Sp}{p pos apos:Pos}{o e:Expr}{es:List Expr}{t:TA}{to:TE}
variable {pl:Sem Bool}
theorem Pk (c:Cls X.K C)(D:Dm X.prog X.w X.K X.mg X.base C m ps k sp)(hr:qm k X.A)(ho:PE X o to)(ha:PA X (e :: es) t)
  (hst:aV (e :: es) X.env=(false,eval e X.env) :: aV es X.env:=by rfl) (hpl:(cH pos (aV es X.env)).any (·.1)=false:=by rfl)
  (ht:eval (.Call (.Attribute o m apos) (e :: es) [] pos) X.env=(do
   let ov <- eval o X.env
   iZ apos.atName
   let (f,first) <- holding [ov] (getMethod ov m pl)
   h8 pos f first (cH pos (aV (e :: es) X.env)) (fY pos (eE [] X.env))):=by rfl) :
  PE X (.Call (.Attribute o m apos) (e :: es) [] pos) (Qe C m sp [] E0 to t):=by
 obtain ⟨f,fd,F,b,mt⟩:=D
 exact FJ ho c mt F hr b .nil Y3 ha hst hpl ht
theorem qX (c:Cls X.K C)(D:Dm X.prog X.w X.K X.mg X.base C m ps k sp)(hr:qm k X.A)(ho:PE X o to)
  (ht:eval (.Call (.Attribute o m apos) [] [] pos) X.env=(do
   let ov <- eval o X.env
   iZ apos.atName
   let (f,first) <- holding [ov] (getMethod ov m pl)
   h8 pos f first (cH pos (aV [] X.env)) (fY pos (eE [] X.env))):=by rfl) :
  PE X (.Call (.Attribute o m apos) [] [] pos) (Qe C m sp [] E0 to Wu):=by
 obtain ⟨f,fd,F,b,mt⟩:=D
 exact Fe ho c mt F hr b .nil Y3 ht
def Mkr (P:ba)(w:bE)(K:az)(mg:Str->Option aq)(base:Heap)(x:Str)(C:ay)(ps:List Str)(k:Nat)(sp:Sp):Prop:=
 ∃ f fd,jx P w K mg base CX0 k f fd ps sp/\jv K fd ps []/\Mk K C f/\mg x=some (.ref C)
theorem E7 (D:Mkr X.prog X.w X.K X.mg X.base x C ps k sp)(hr:qm (k+1) X.A)(hg:Gl X x)(ha:PA X (e :: es) t)(hdb:(x == ("__debug__":Str))=false:=by decide)
  (he:aV (e :: es) X.env=(false,eval e X.env) :: aV es X.env:=by rfl) (hpl:(cH pos (aV es X.env)).any (·.1)=false:=by rfl):PE X (.Call (.Name x p) (e :: es) [] pos) (VC C sp [] E0 t):=by
 obtain ⟨f,fd,F,b,M,hm⟩:=D
 exact F1 M F hr hg hm b .nil Y3 ha hdb he hpl
end
structure KD (K:az)(w:bE)(a:ay)(kvs:List (Key × V)):Prop where
 ex:∃ es ep,K.lookup a=some ⟨.type "dict",none,.dict es ep,#[]⟩/\∀ P:ba,PySem.KeysOf (jL P w) es/\∃ vs,KV kvs vs/\Pairs (jL P w) es.toList vs/\(vs.map (·.1)).Nodup
 ns:(a == lN)=false
variable {pins:List (ay × Obj)}
theorem KD.at {kvs:List (Key × V)}(d:KD X.K X.w a kvs)(I:Inv X pins σ H s):∃ vs,KV kvs vs/\s.heap.DictOf (jL X.prog X.w) a vs:=by
 obtain ⟨es,ep,hl,h⟩:=d.ex
 obtain ⟨h1,vs,r,h2,h3⟩:=h X.prog
 exact ⟨vs,r,_,es,ep,I.kIn a _ hl,⟨rfl,rfl,rfl⟩,rfl,h1,h2,h3⟩
noncomputable def EU (kvs:List (Key × V))(ty:TE):TE:=fun σ H Q=>ty σ H fun y H2=>∃ k,y=kV k/\Q ((wZ kvs k).getD .non) H2
section
variable {X:Cx}{e:Expr}{ty:TE}{p apos cpos:Pos}{x:Str}{a:ay}{kvs:List (Key × V)}
theorem GC (d:KD X.K X.w a kvs)(hg:Gl X x)(hm:X.mg x=some (.ref a))(he:PE X e ty)(m:M1 X (.Name x p) "get" apos e cpos)(hdb:(x == ("__debug__":Str))=false:=by decide):PE X (.Call (.Attribute (.Name x p) "get" apos) [e] [] cpos) (EU kvs ty):=by
 intro pins s σ H Q I h
 refine wpAny_Call_method m.base m.few m.line PySem.F.plainAttrs_dict mz PySem.F.type_dict_get (kK I hg hm ?_ hdb)
 obtain ⟨vs0,_,dd0⟩:=d.at I
 refine ⟨dd0.typeIs,fun b q=>?_,?_⟩
 ·cases q
  obtain ⟨ob,_,_,h1,h2,_⟩:=dd0
  exact ⟨ob,h1,h2.2.1⟩
 rw [m.trees]
 refine gH rfl (fM (Calls.spliced_cons (thn (he pins s σ H _ I h) fun iv s2 ⟨y,H2,I2,ry,k,ey,q2⟩=>Calls.spliced_nil ?_)))
 subst ey
 obtain ⟨vs,rel,dd⟩:=d.at I2
 refine call_meetsIn mz dd.typeIs PySem.F.entry_dict_get (PySem.F.args_dict_get_2 _ _) (meets_dict_get (jL X.prog X.w) a (Oj ry) d.ns) ⟨_,dd.mapOf,?_⟩
 refine ⟨(wZ kvs k).getD .non,H2,I2.tok _,?_,q2⟩
 exact (rel.val k).getD rfl
end
section
variable {X:Cx}
theorem ya:Oi X (FX X.K):=by
  intro pins s σ H x y v u Q I rx ry h
  obtain ⟨p,xs,i,z,rfl,rfl,hq,he,q⟩:=h
  cases rx
  obtain ⟨t,rfl⟩:=ry
  obtain ⟨its,r,pl,hz⟩:=I.list hq
  obtain ⟨j,h1,h2,h3,h4,h5⟩:=Jx he
  obtain ⟨w,ew,rw'⟩:=r.get h2
  have hl:=r.length
  have hn:=wW
  have fin:EP X pins σ Q w s:=⟨z,H,I,rw',q⟩
  by_cases h0:0<=i
  · have hj : i.toNat = j := by
      rw [mL h0 h5] at h1
      exact b9 h1
    exact wpAny_getItem_list pl.isList h0 (by omega) (by rw [hj];simpa using ew) fin
  · have hj : (i + (its.toArray.size : Int)).toNat = j := by
      rw [lW (by omega) h4] at h1
      rw [aH,<- hl]
      exact b9 h1
    exact lX pl.isList (by omega) (by rw [aH] <;> omega) (by omega) (by rw [hj];simpa using ew) fin
end
theorem atm_mk {m qual:Str} {oc kV dc pm cd ct:aq} {sl:Array (Option aq)}(a1:bC K (.ref C) m=some (some (.ref f)))(i1:dh K (.ref f)=true)
  (l1:K.lookup f=some ⟨oc,od,.func (b7 m qual (qq st) (zN st) (zd st) .none kV dc pm an cd ct),sl⟩) (c1:fL K cd qual=true) (k1:dv K (.ref f)=true):AtM K C m qual st:=⟨f,_,fun_mk l1 c1 k1,⟨a1,i1,k1⟩⟩
section
variable {X:Cx}
noncomputable def Yt:V->List V->Hp->VK->Prop:=fun x vs H Q=>∃ l xs v,x=.ref l/\vs=[v]/\H l=some (.lst xs)/\xs.all kW=true/\kW v=true/\Q (.int ((xs.countP fun y=>eqV y v:Nat))) H
theorem QB {x:V}:∀ {xs:List V} {us:List aq},zz xs us->xs.all kW=true->us.countP (eqU x)=xs.countP fun y=>eqV y x
 | _,_,.nil,_=>rfl
 | y :: xs,u :: us,.cons r t,f=>by
  rw [eS,cS] at f
  rw [fQ,fQ,QB t f.2,XG r f.1]
theorem EC:MtR X "list.count" Yt:=by
 intro pins s σ H x vs v us Q I rx rv h
 obtain ⟨l,xs,i,rfl,rfl,hH,hf,hi,q⟩:=h
 cases rx
 obtain ⟨u,rfl,ru⟩:=rv.one
 obtain ⟨z,its,n,r,hl,e⟩:=I.lstM hH
 refine gT F.slot_list_count ⟨_,e,rfl⟩ F.entry_list_count (F.args_list_count_2 _ _) (SeqAt.list_countAt l its.toArray n none _ u (eqU i)) ⟨e,?_,?_⟩
 ·intro y hy
  exact Zs ru hi r hf y (by simpa using hy)
 ·refine ⟨.int ((xs.countP fun y=>eqV y i:Nat)),H,I.kept (t':=s.toks+1) fun b o e=>e,⟨s.toks,?_⟩,q⟩
  show aq.int ((its.countP (eqU i):Nat):Int) s.toks=_
  rw [QB r hf]
end
structure ScG (X:Cx)(ts:List Nat)(scope:Scope):Prop where
 kind:scope.kind=.function
 cell:∀ y ∈ scope.names,y.2=.cell->scope.names.lookup y.1=some .cell
 loc:∀ y ∈ scope.names,y.2=.local->scope.names.lookup y.1=some .local
 free:∀ y ∈ scope.names,y.2=.free->X.env.kindOf y.1=some .cell \/ X.env.kindOf y.1=some .free
 ts:∀ (i:Nat) x,X.N[i]?=some x->scope.names.lookup x=some .local \/ scope.names.lookup x=some .cell->i ∈ ts
section
variable {X:Cx}{ts:List Nat}{scope:Scope}{pins:List (ay × Obj)}{σ:St}{H:Hp}{s:ax}{fp:List ay}
end
section
variable {X:Cx}{ts:List Nat}{scope:Scope}{tg iter elt:Expr}{ifs:List Expr}{wi:TI}{g:TG}{tt:TT}{te:TE}{pos:Pos}
end
section
variable {X:Cx}
end
inductive Dat where
 | non | bl (b:Bool) | int (i:Int) | str (x:Str) | ty (n:String) | lst (l:List Dat) | tup (l:List Dat) | rng (lo hi c:Int) | scr (K:az) (l:List Int)
inductive AV where
 | d (x:Dat) | ref (a:ay)
  | tp (l:List (Dat ⊕ ay))
noncomputable def tiA:Dat ⊕ ay->AV
 | .inl d=>.d d
 | .inr a=>.ref a
noncomputable def AV.Has (r:ay):AV->Prop
 | .d _=>False
 | .ref a=>a=r
 | .tp l=>cv r ∈ l
inductive MO where
 | lst (l:List AV) | dK (kvs:List (Key × AV)) | ins (C:ay) (fs:List (Str × AV)) | exc (C:ay) (fs:List (Str × V)) | tb (R:Array aq->ay->Obj->Prop) | dT (kvs:List (List Key × AV))
noncomputable def Ny (a C:ay)(d:Option ay):HO:=.ext fun h=>∃ o,h.get? a=some o/\o.cls=.ref C/\o.dict=d/\∃ vs,o.data=.fields vs
abbrev MH:=ay->Option MO
abbrev ASt:=List (Option AV)
noncomputable def mup (M:MH)(a:ay)(o:MO):MH:=fun b=>if b=a then some o else M b
noncomputable def mdel (M:MH)(a:ay):MH:=fun b=>if b=a then none else M b
variable {M:MH}
theorem ze {o:MO}:mup M a o a=some o:=if_pos rfl
theorem zl {o:MO}(h:b ≠ a):mup M a o b=M b:=if_neg h
theorem vD:mdel M a a=none:=if_pos rfl
theorem jr (h:b ≠ a):mdel M a b=M b:=if_neg h
theorem kN {o u:MO}:mup (mup M a o) a u=mup M a u:=by
 funext b;unfold mup;split <;> rfl
abbrev Own:=ay->Prop
inductive Rep (H:Hp) (O:Own):V->Dat->Prop
 | non:Rep H O .non .non
 | bl {b:Bool}:Rep H O (.bl b) (.bl b)
 | int {i:Int}:Rep H O (.int i) (.int i)
 | str {x:Str}:Rep H O (.str x) (.str x)
 | ty {n:String}:Rep H O (.ty n) (.ty n)
 | lst {a:ay} {xs:List V} {l:List Dat}:¬ O a->H a=some (.lst xs)->xs.length=l.length->(∀ (i:Nat) x d,xs[i]?=some x->l[i]?=some d->Rep H O x d)->Rep H O (.ref a) (.lst l)
 | tup {a:ay} {xs:List V} {l:List Dat}:¬ O a->H a=some (.tup xs)->xs.length=l.length->(∀ (i:Nat) x d,xs[i]?=some x->l[i]?=some d->Rep H O x d)->Rep H O (.ref a) (.tup l)
 | rng {a:ay} {lo hi c:Int}:¬ O a->H a=some (wH a lo hi c)->Rep H O (.ref a) (.rng lo hi c)
 | scr {a:ay} {K:az} {l:List Int}:¬ O a->Rd H a (.lst (l.map V.int))->Rep H O (.ref a) (.scr K l)
 | scrK {a:ay} {K:az} {l:List Int}:SqL K (fun _=>none) a (l.map V.int)->Rep H O (.ref a) (.scr K l)
def W7 (H:Hp)(O:Own)(xs:List V)(l:List Dat):Prop:=xs.length=l.length/\∀ (i:Nat) x d,xs[i]?=some x->l[i]?=some d->Rep H O x d
noncomputable def N5 (H:Hp)(O:Own)(M:MH)(v:V):Dat ⊕ ay->Prop
 | .inl d=>Rep H O v d
 | .inr a=>v=.ref a/\M a ≠ none
def Fm (H:Hp)(O:Own)(M:MH)(xs:List V)(l:List (Dat ⊕ ay)):Prop:=xs.length=l.length/\∀ (i:Nat) x d,xs[i]?=some x->l[i]?=some d->N5 H O M x d
noncomputable def zo (H:Hp)(O:Own)(M:MH)(v:V):AV->Prop
 | .d x=>Rep H O v x
 | .ref a=>v=.ref a/\M a ≠ none
 | .tp l=>∃ a xs,v=.ref a/\¬ O a/\H a=some (.tup xs)/\Fm H O M xs l
theorem zo.has {H:Hp}{O:Own}{M:MH}{v:V}{x:AV}{r:ay}(h:zo H O M v x)(k:x.Has r):M r ≠ none:=by
 cases x with
 | d x=>exact k.elim
 | ref a=>cases k;exact h.2
 | tp l=>
  obtain ⟨a,xs,_,_,_,h⟩:=h
  obtain ⟨i,hi⟩:=bQ k
  obtain ⟨y,hy⟩:∃ y,xs[i]?=some y:=⟨_,aj (by rw [h.1];exact (aA.mp hi).1)⟩
  exact (h.2 i y _ hy hi).2
def zj (H:Hp)(O:Own)(M:MH)(xs:List V)(l:List AV):Prop:=xs.length=l.length/\∀ (i:Nat) x d,xs[i]?=some x->l[i]?=some d->zo H O M x d
def kU {κ:Type}(H:Hp)(O:Own)(M:MH)(xs:List (κ × V))(l:List (κ × AV)):Prop:=xs.map (·.1)=l.map (·.1)/\zj H O M (xs.map (·.2)) (l.map (·.2))
noncomputable def jb (H:Hp)(O:Own)(M:MH)(a:ay):MO->Prop
 | .lst l=>∃ xs,H a=some (.lst xs)/\zj H O M xs l
 | .dK kvs=>∃ xs,H a=some (.dK xs)/\kU H O M xs kvs
 | .dT kvs=>∃ xs,H a=some (.dT xs)/\kU H O M xs kvs
 | .ins C fs=>∃ dx xs,H a=some (.ins C dx xs)/\kU H O M xs fs/\O dx/\M dx=none/\H dx=some (.own a)
 | .exc C fs=>∃ d,H a=some (Ny a C d)/\(d=none/\fs=[] \/ ∃ dx,d=some dx/\H dx=some (.xd fs)/\O dx/\M dx=none)
 | .tb R=>∃ ps,H a=some (.tbl ps)/\(ps=#[] \/ ∃ c oc u,R ps c oc/\¬ O c/\H c=some (.frz oc u))
structure Wf (H:Hp)(O:Own)(M:MH):Prop where
 mo:∀ a o,M a=some o->jb H O M a o
 own:∀ a,M a ≠ none->O a
 al:∀ a,O a->∃ o,H a=some o/\∀ xs,o ≠ .tup xs
variable {O:Own}
theorem Wf.ne (w:Wf H O M)(a:ay)(h:O a):H a ≠ none:=by obtain ⟨o,e,_⟩:=w.al a h;rw [e];exact fun z=>nomatch z
structure Ext (H:Hp)(O:Own)(M:MH)(H':Hp)(O':Own)(M':MH):Prop where
 fix:∀ a o,¬ O a->H a=some o->H' a=some o/\¬ O' a
 prv:∀ a,O a->M a=none->H' a=H a/\O' a/\M' a=none
 mst:∀ a,M a ≠ none->M' a ≠ none
theorem Ext.refl:Ext H O M H O M:=⟨fun _ _ h e=>⟨e,h⟩,fun _ h e=>⟨rfl,h,e⟩,fun _ h=>h⟩
variable {O1 O2:Own}
theorem Ext.trans {M M1 M2:MH}(a:Ext H O M H1 O1 M1)(b:Ext H1 O1 M1 H2 O2 M2):Ext H O M H2 O2 M2:=
 ⟨fun x o h e=>let ⟨e1,h1⟩:=a.fix x o h e;b.fix x o h1 e1,fun x h e=>by
  obtain ⟨e1,h1,n1⟩:=a.prv x h e
  obtain ⟨e2,h2,n2⟩:=b.prv x h1 n1
  exact ⟨e2.trans e1,h2,n2⟩,fun x h=>b.mst x (a.mst x h)⟩
theorem Rep.imp {H H':Hp}{O O':Own}(k:∀ a o,¬ O a->H a=some o->H' a=some o/\¬ O' a){v:V}{d:Dat}(r:Rep H O v d):Rep H' O' v d:=by
 induction r with
 | non=>exact .non
 | bl=>exact .bl
 | int=>exact .int
 | str=>exact .str
 | ty=>exact .ty
 | lst h e l _ ih=>exact .lst (k _ _ h e).2 (k _ _ h e).1 l ih
 | tup h e l _ ih=>exact .tup (k _ _ h e).2 (k _ _ h e).1 l ih
 | rng h e=>exact .rng (k _ _ h e).2 (k _ _ h e).1
 | scr h e=>
  rcases e with e | ⟨o,e⟩
  ·exact .scr (k _ _ h e).2 (.inl (k _ _ h e).1)
  ·exact .scr (k _ _ h e).2 (.inr ⟨o,(k _ _ h e).1⟩)
 | scrK h=>exact .scrK h
theorem F7 {H:Hp}{O:Own}{K:az}{v:V}{l:List Int}(r:Rep H O v (.scr K l)):∃ a,v=.ref a/\SqL K H a (l.map V.int):=by
 cases r with
 | @scr a _ _ _ h=>exact ⟨a,rfl,.inl h⟩
 | @scrK a _ _ h=>
  rcases h with (h | ⟨o,h⟩) | h
  ·cases h
  ·cases h
  ·exact ⟨a,rfl,.inr h⟩
theorem Hm {l:List Int}(ho:∀ a,¬ O a)(h:SqL K H a (l.map V.int)):Rep H O (.ref a) (.scr K l):=by
 rcases h with h | h
 ·exact .scr (ho a) h
 ·exact .scrK (.inr h)
variable {O':Own} {M':MH} {v:V} {d:Dat}
theorem Rep.ext (k:Ext H O M H' O' M') (r:Rep H O v d):Rep H' O' v d:=r.imp k.fix
theorem zo.impT {H H':Hp}{O O':Own}{M M':MH}(k:∀ a o,¬ O a->H a=some o->H' a=some o/\¬ O' a){l:List (Dat ⊕ ay)}(hm:∀ a,M a ≠ none->M' a ≠ none){v:V}(r:zo H O M v (.tp l)):zo H' O' M' v (.tp l):=by
 obtain ⟨a,xs,h1,h2,h3,h4,h5⟩:=r
 refine ⟨a,xs,h1,(k _ _ h2 h3).2,(k _ _ h2 h3).1,h4,fun i x d e1 e2=>?_⟩
 have:=h5 i x d e1 e2
 cases d with
 | inl d=>exact Rep.imp k this
 | inr q=>exact ⟨this.1,hm q this.2⟩
theorem zo.ext {H H':Hp}{O O':Own}{M M':MH}(k:Ext H O M H' O' M'){v:V}{x:AV}(r:zo H O M v x):zo H' O' M' v x:=by
 cases x with
 | d x=>exact Rep.ext k r
 | ref a=>exact ⟨r.1,k.mst a r.2⟩
 | tp l=>exact r.impT k.fix k.mst
theorem zj.ext (k:Ext H O M H' O' M') {l:List AV}(r:zj H O M xs l):zj H' O' M' xs l:=⟨r.1,fun i x d e1 e2=>(r.2 i x d e1 e2).ext k⟩
theorem kU.ext {κ:Type} (k:Ext H O M H' O' M'){xs:List (κ × V)}{l:List (κ × AV)}(r:kU H O M xs l):kU H' O' M' xs l:=⟨r.1,r.2.ext k⟩
theorem zj.nil:zj H O M [] []:=⟨rfl,fun i x d e=>by simp at e⟩
theorem zj.cons {x:V}{d:AV} {l:List AV}(h:zo H O M x d)(r:zj H O M xs l):zj H O M (x :: xs) (d :: l):=
 ⟨by simp [r.1],fun i y e h1 h2=>by
  cases i with
  | zero=>simp at h1 h2;subst h1 h2;exact h
  | succ i=>simp at h1 h2;exact r.2 i y e h1 h2⟩
theorem zj.head {x:V}{d:AV} {l:List AV}(r:zj H O M (x :: xs) (d :: l)):zo H O M x d/\zj H O M xs l:=
 ⟨r.2 0 x d rfl rfl,by have:=r.1;simpa using this,fun i y e h1 h2=>r.2 (i+1) y e (by simpa using h1) (by simpa using h2)⟩
theorem zj.nil_inv (r:zj H O M xs []):xs=[]:=lI.mp r.1
theorem zj.cons_inv {H:Hp}{O:Own}{M:MH}{xs:List V}{d:AV}{l:List AV}(r:zj H O M xs (d :: l)):∃ x r',xs=x :: r'/\zo H O M x d/\zj H O M r' l:=by
 cases xs with
 | nil=>have:=r.1;simp at this
 | cons x r'=>exact ⟨x,r',rfl,r.head⟩
variable {ys:List V}
theorem zj.append {l m:List AV}(a:zj H O M xs l)(b:zj H O M ys m):zj H O M (xs ++ ys) (l ++ m):=
 ⟨by rw [bg,bg,a.1,b.1],fun i x d h1 h2=>by
  by_cases c:i<xs.length
  ·rw [cV c] at h1
   rw [cV (by rw [<- a.1];exact c)] at h2
   exact a.2 i x d h1 h2
  ·rw [dC (by omega)] at h1
   rw [dC (by rw [<- a.1];omega),<- a.1] at h2
   exact b.2 _ x d h1 h2⟩
theorem zj.snoc {l:List AV}{x:V}{d:AV}(a:zj H O M xs l)(b:zo H O M x d):zj H O M (xs ++ [x]) (l ++ [d]):=a.append (.cons b .nil)
theorem zj.set {l:List AV}{x:V}{d:AV}(a:zj H O M xs l)(b:zo H O M x d)(j:Nat):zj H O M (xs.set j x) (l.set j d):=
 ⟨by rw [bp,bp,a.1],fun i y e h1 h2=>by
  rw [bj] at h1 h2
  by_cases c:j=i
  ·rw [if_pos c] at h1 h2
   split at h1
   ·split at h2
    ·cases h1;cases h2;exact b
    ·cases h2
   ·cases h1
  ·rw [if_neg c] at h1 h2
   exact a.2 i y e h1 h2⟩
theorem zj.get {l:List AV}(a:zj H O M xs l) {d:AV}(h:l[i]?=some d):∃ x,xs[i]?=some x/\zo H O M x d:=by
 have hi:=(aA.mp h).1
 have hx:i<xs.length:=by rw [a.1];exact hi
 exact ⟨xs[i],by simp [hx],a.2 i _ _ (by simp [hx]) h⟩
theorem zj.get' {l:List AV}(a:zj H O M xs l) {x:V}(h:xs[i]?=some x):∃ d,l[i]?=some d/\zo H O M x d:=by
 have hi:=(aA.mp h).1
 have hx:i<l.length:=by rw [<- a.1];exact hi
 exact ⟨l[i],by simp [hx],a.2 i _ _ h (by simp [hx])⟩
theorem zj.drop {l:List AV}(a:zj H O M xs l)(k:Nat):zj H O M (xs.drop k) (l.drop k):=
 ⟨by rw [b8,b8,a.1],fun i x d h1 h2=>by rw [iJ] at h1 h2;exact a.2 _ x d h1 h2⟩
theorem zj.take {l:List AV}(a:zj H O M xs l)(k:Nat):zj H O M (xs.take k) (l.take k):=
 ⟨by rw [bZ,bZ,a.1],fun i x d h1 h2=>by
  rw [List.getElem?_take] at h1 h2
  by_cases c:i<k
  ·rw [if_pos c] at h1 h2
   exact a.2 _ x d h1 h2
  ·rw [if_neg c] at h1
   cases h1⟩
theorem W7.av {l:List Dat}(r:W7 H O xs l):zj H O M xs (l.map .d):=
 ⟨by rw [am];exact r.1,fun i x d h1 h2=>by
  rw [aE] at h2
  cases e:l[i]? with
  | none=>rw [e] at h2;cases h2
  | some y=>rw [e] at h2;cases h2;exact r.2 i x y h1 e⟩
theorem zj.pure {l:List Dat}(r:zj H O M xs (l.map .d)):W7 H O xs l:=
 ⟨by have:=r.1;rwa [am] at this,fun i x d h1 h2=>r.2 i x (.d d) h1 (by rw [aE,h2];rfl)⟩
theorem Wf.fresh (w:Wf H O M) (h:H p=none):¬ O p/\M p=none:=by
 have:¬ O p:=fun z=>w.ne p z h
 exact ⟨this,by
  cases e:M p with
  | none=>rfl
  | some o=>exact absurd (w.own p (by rw [e];exact fun z=>nomatch z)) this⟩
theorem jb.ext {H H':Hp}{O O':Own}{M M':MH}(k:Ext H O M H' O' M'){a:ay}{o:MO}(e:H' a=H a)(r:jb H O M a o):jb H' O' M' a o:=by
 cases o with
 | lst l=>obtain ⟨xs,h,r⟩:=r;exact ⟨xs,e.trans h,r.ext k⟩
 | dK l=>obtain ⟨xs,h,r⟩:=r;exact ⟨xs,e.trans h,r.ext k⟩
 | dT l=>obtain ⟨xs,h,r⟩:=r;exact ⟨xs,e.trans h,r.ext k⟩
 | ins C fs=>obtain ⟨dx,xs,h,r,q1,q2,q3⟩:=r;obtain ⟨x1,x2,x3⟩:=k.prv dx q1 q2;exact ⟨dx,xs,e.trans h,r.ext k,x2,x3,x1.trans q3⟩
 | exc C fs=>
  obtain ⟨d,h,r⟩:=r
  refine ⟨d,e.trans h,?_⟩
  rcases r with r | ⟨dx,e1,h1,h2,h3⟩
  ·exact .inl r
  ·obtain ⟨x1,x2,x3⟩:=k.prv dx h2 h3;exact .inr ⟨dx,e1,x1.trans h1,x2,x3⟩
 | tb R=>obtain ⟨ps,h,r⟩:=r;exact ⟨ps,e.trans h,r.imp id fun ⟨c,oc,u,h1,h2,h3⟩=>⟨c,oc,u,h1,(k.fix c _ h2 h3).2,(k.fix c _ h2 h3).1⟩⟩
theorem qj (w:Wf H O M) (h:H p=none)(o:HO):Ext H O M (upd H p o) O M:=
 ⟨fun a u ha e=>⟨by rw [zh (zm e h)];exact e,ha⟩,fun a ha e=>⟨zh (fun z=>w.ne a ha (by rw [z];exact h)),ha,e⟩,fun _ h=>h⟩
theorem jS (w:Wf H O M) (h:H p=none)(o:HO):Wf (upd H p o) O M:=
 ⟨fun a mo e=>jb.ext (qj w h o) (zh (fun z=>by rw [z,(w.fresh h).2] at e;cases e)) (w.mo a mo e),w.own,fun a ha=>by
  have:a ≠ p:=fun z=>w.ne a ha (by rw [z];exact h)
  rw [zh this];exact w.al a ha⟩
noncomputable def vY (O:Own)(p:ay):Own:=fun a=>a=p \/ O a
noncomputable def QM (O:Own)(p:ay):Own:=fun a=>a ≠ p/\O a
theorem YF (w:Wf H O M) (h:H p=none)(o:HO)(mo:MO):Ext H O M (upd H p o) (vY O p) (mup M p mo):=
 ⟨fun a u ha e=>⟨by rw [zh (zm e h)];exact e,fun z=>z.elim (zm e h) ha⟩,fun a ha e=>by
  have hne:a ≠ p:=fun z=>w.ne a ha (by rw [z];exact h)
  exact ⟨zh hne,.inr ha,by rw [zl hne];exact e⟩,fun a ha=>by
  by_cases e:a=p
  ·rw [e,ze];exact fun z=>nomatch z
  ·rw [zl e];exact ha⟩
variable {mo:MO}
theorem MB (w:Wf H O M) (h:H p=none) (ho:∀ xs,o ≠ .tup xs)(r:jb (upd H p o) (vY O p) (mup M p mo) p mo):Wf (upd H p o) (vY O p) (mup M p mo):=by
 refine ⟨fun a u e=>?_,fun a ha=>?_,fun a ha=>?_⟩
 ·by_cases c:a=p
  ·subst c;rw [ze] at e;cases e;exact r
  ·rw [zl c] at e
   exact jb.ext (YF w h o mo) (zh c) (w.mo a u e)
 ·by_cases c:a=p
  ·exact .inl c
  ·rw [zl c] at ha;exact .inr (w.own a ha)
 ·by_cases c:a=p
  ·rw [c,zi];exact ⟨o,rfl,ho⟩
  ·rw [zh c];exact w.al a (ha.resolve_left c)
theorem xT (w:Wf H O M) (h:M p ≠ none)(o:HO)(mo:MO):Ext H O M (upd H p o) O (mup M p mo):=
 ⟨fun a u ha e=>⟨by rw [zh (fun z=>ha (by rw [z];exact w.own p h))];exact e,ha⟩,fun a ha e=>by
  have hne:a ≠ p:=fun z=>h (by rw [<- z];exact e)
  exact ⟨zh hne,ha,by rw [zl hne];exact e⟩,fun a ha=>by
  by_cases e:a=p
  ·rw [e,ze];exact fun z=>nomatch z
  ·rw [zl e];exact ha⟩
theorem Yw (w:Wf H O M) (h:M p ≠ none) (ho:∀ xs,o ≠ .tup xs)(r:jb (upd H p o) O (mup M p mo) p mo):Wf (upd H p o) O (mup M p mo):=by
 refine ⟨fun a u e=>?_,fun a ha=>?_,fun a ha=>?_⟩
 ·by_cases c:a=p
  ·subst c;rw [ze] at e;cases e;exact r
  ·rw [zl c] at e
   exact jb.ext (xT w h o mo) (zh c) (w.mo a u e)
 ·by_cases c:a=p
  ·subst c;exact w.own a h
  ·rw [zl c] at ha;exact w.own a ha
 ·by_cases c:a=p
  ·rw [c,zi];exact ⟨o,rfl,ho⟩
  ·rw [zh c];exact w.al a ha
theorem qw (w:Wf H O M) (h:H p=none)(o:HO):Ext H O M (upd H p o) (vY O p) M:=
 ⟨fun a u ha e=>⟨by rw [zh (zm e h)];exact e,fun z=>z.elim (zm e h) ha⟩,fun a ha e=>by
  have hne:a ≠ p:=fun z=>w.ne a ha (by rw [z];exact h)
  exact ⟨zh hne,.inr ha,e⟩,fun _ h=>h⟩
theorem j9 (w:Wf H O M) (h:H p=none)(o:HO)(ho:∀ xs,o ≠ .tup xs):Wf (upd H p o) (vY O p) M:=
 ⟨fun a mo e=>jb.ext (qw w h o) (zh (fun z=>by rw [z,(w.fresh h).2] at e;cases e)) (w.mo a mo e),fun a ha=>.inr (w.own a ha),fun a ha=>by
  by_cases c:a=p
  ·rw [c,zi];exact ⟨o,rfl,ho⟩
  ·rw [zh c];exact w.al a (ha.resolve_left c)⟩
theorem wg (hO:O p)(o:HO):∀ a u,¬ O a->H a=some u->upd H p o a=some u/\¬ O a:=fun a u ha e=>⟨by rw [zh (fun z=>ha (by rw [z];exact hO))];exact e,ha⟩
theorem zo.imp {H H':Hp}{O O':Own}{M M':MH}(k:∀ a o,¬ O a->H a=some o->H' a=some o/\¬ O' a)(hm:∀ a,M a ≠ none->M' a ≠ none){v:V}{x:AV}(r:zo H O M v x):zo H' O' M' v x:=by
 cases x with
 | d x=>exact Rep.imp k r
 | ref a=>exact ⟨r.1,hm a r.2⟩
 | tp l=>exact r.impT k hm
theorem zj.imp (k:∀ a o,¬ O a->H a=some o->H' a=some o/\¬ O' a)(hm:∀ a,M a ≠ none->M' a ≠ none) {l:List AV}(r:zj H O M xs l):zj H' O' M' xs l:=⟨r.1,fun i x d e1 e2=>(r.2 i x d e1 e2).imp k hm⟩
theorem jb.imp {H H':Hp}{O O':Own}{M:MH}(k:∀ a o,¬ O a->H a=some o->H' a=some o/\¬ O' a){a:ay}{o:MO}(e:H' a=H a)(hd:∀ dx x,O dx->M dx=none->H dx=some x->((∃ b,x=.own b) \/ ∃ fs,x=.xd fs)->H' dx=some x/\O' dx)(r:jb H O M a o):jb H' O' M a o:=by
 cases o with
 | lst l=>obtain ⟨xs,h,r⟩:=r;exact ⟨xs,e.trans h,r.imp k fun _ z=>z⟩
 | dK l=>obtain ⟨xs,h,r⟩:=r;exact ⟨xs,e.trans h,r.1,r.2.imp k fun _ z=>z⟩
 | dT l=>obtain ⟨xs,h,r⟩:=r;exact ⟨xs,e.trans h,r.1,r.2.imp k fun _ z=>z⟩
 | ins C fs=>obtain ⟨dx,xs,h,r,q1,q2,q3⟩:=r;exact ⟨dx,xs,e.trans h,⟨r.1,r.2.imp k fun _ z=>z⟩,(hd dx _ q1 q2 q3 (.inl ⟨_,rfl⟩)).2,q2,(hd dx _ q1 q2 q3 (.inl ⟨_,rfl⟩)).1⟩
 | exc C fs=>
  obtain ⟨d,h,r⟩:=r
  refine ⟨d,e.trans h,?_⟩
  rcases r with r | ⟨dx,e1,h1,h2,h3⟩
  ·exact .inl r
  ·obtain ⟨x1,x2⟩:=hd dx _ h2 h3 h1 (.inr ⟨_,rfl⟩);exact .inr ⟨dx,e1,x1,x2,h3⟩
 | tb R=>obtain ⟨ps,h,r⟩:=r;exact ⟨ps,e.trans h,r.imp id fun ⟨c,oc,u,h1,h2,h3⟩=>⟨c,oc,u,h1,(k c _ h2 h3).2,(k c _ h2 h3).1⟩⟩
theorem XY (w:Wf H O M) (hO:O p)(hM:M p=none) (hp:H p=some (.lst xs))(o:HO)(ho:∀ xs,o ≠ .tup xs):Wf (upd H p o) O M:=
 ⟨fun a mo e=>jb.imp (wg hO o) (zh (fun z=>by rw [z,hM] at e;cases e)) (fun dx x h1 _ h3 h4=>⟨by rw [zh (KU h3 hp (by rcases h4 with ⟨_,rfl⟩ | ⟨_,rfl⟩ <;> exact fun z=>nomatch z))];exact h3,h1⟩) (w.mo a mo e),w.own,fun a ha=>by
  by_cases c:a=p
  ·rw [c,zi];exact ⟨o,rfl,ho⟩
  ·rw [zh c];exact w.al a ha⟩
theorem xS (p:ay):∀ a u,¬ O a->H a=some u->H a=some u/\¬ QM O p a:=fun a u ha e=>⟨e,fun z=>ha z.2⟩
theorem ET (w:Wf H O M) (hM:M p=none) (hp:H p=some (.lst xs)):Wf H (QM O p) M:=
 ⟨fun a mo e=>jb.imp (xS p) rfl (fun dx x h1 _ h3 h4=>⟨h3,⟨KU h3 hp (by rcases h4 with ⟨_,rfl⟩ | ⟨_,rfl⟩ <;> exact fun z=>nomatch z),h1⟩⟩) (w.mo a mo e),fun a ha=>⟨fun z=>ha (by rw [z];exact hM),w.own a ha⟩,fun a ha=>w.al a ha.2⟩
abbrev AK:=AV->MH->Prop
abbrev AE:=ASt->MH->AK->Prop
abbrev AT:=ASt->MH->(Bool->MH->Prop)->Prop
abbrev AA:=ASt->MH->(List AV->MH->Prop)->Prop
structure jA where
 nx:ASt->MH->Prop
 rt:AK
 bk:ASt->MH->Prop:=fun _ _=>False
 ct:ASt->MH->Prop:=fun _ _=>False
abbrev AS:=MH->jA->ASt->MH->Prop
abbrev AG:=AV->ASt->MH->(ASt->MH->Prop)->Prop
abbrev AGs:=List AV->ASt->MH->(ASt->MH->Prop)->Prop
abbrev AI:=ASt->MH->(List AV->(MH->Prop)->MH->Prop)->Prop
structure Er (H:Hp)(O:Own)(M:MH)(σ:St)(ρ:ASt):Prop where
 len:σ.length=ρ.length
 get:∀ (i:Nat) x,ρ[i]?=some (some x)->∃ v,σ[i]?=some (some v)/\zo H O M v x
variable {ρ:ASt}
theorem Er.ext (e:Er H O M σ ρ)(k:Ext H O M H' O' M'):Er H' O' M' σ ρ:=⟨e.len,fun i x h=>let ⟨v,h1,h2⟩:=e.get i x h;⟨v,h1,h2.ext k⟩⟩
theorem Er.set (e:Er H O M σ ρ) {x:AV}(r:zo H O M v x)(j:Nat):Er H O M (σ.set j (some v)) (ρ.set j (some x)):=
 ⟨by rw [bp,bp,e.len],fun i y h=>by
  rw [bj] at h ⊢
  by_cases c:j=i
  ·rw [if_pos c] at h ⊢
   by_cases c2:j<ρ.length
   ·rw [if_pos c2] at h;rw [if_pos (by rw [e.len];exact c2)];cases h;exact ⟨v,rfl,r⟩
   ·rw [if_neg c2] at h;cases h
  ·rw [if_neg c] at h ⊢;exact e.get i y h⟩
noncomputable def FU:List Nat->ASt->ASt
 | [],σ=>σ
 | j :: r,σ=>FU r (σ.set j none)
theorem Er.clr {H:Hp}{O:Own}{M:MH}:∀ (ts:List Nat) {σ:St} {ρ:ASt},Er H O M σ ρ->Er H O M (clr ts σ) (FU ts ρ)
  | [],_,_,e=>e
  | j :: r, σ, ρ, e => Er.clr r ⟨by rw [bp, bp, e.len], fun i y h => by
      rw [bj] at h ⊢
      by_cases c:j=i
      · rw [if_pos c] at h
        split at h <;> cases h
      · rw [if_neg c] at h ⊢;exact e.get i y h⟩
structure zH (t:TE)(a:AE):Prop where
 go:∀ {σ:St} {H:Hp} {O:Own} {ρ:ASt} {M:MH} {Q:VK} {Q':AK},Wf H O M->Er H O M σ ρ->a ρ M Q'->(∀ x M' v H' O',Q' x M'->Ext H O M H' O' M'->Wf H' O' M'->zo H' O' M' v x->Q v H')->t σ H Q
structure kq (t:TT)(a:AT):Prop where
 go:∀ {σ:St} {H:Hp} {O:Own} {ρ:ASt} {M:MH} {Q:Bool->Hp->Prop} {Q':Bool->MH->Prop},Wf H O M->Er H O M σ ρ->a ρ M Q'->(∀ b M' H' O',Q' b M'->Ext H O M H' O' M'->Wf H' O' M'->Q b H')->t σ H Q
structure jc (t:TA)(a:AA):Prop where
 go:∀ {σ:St} {H:Hp} {O:Own} {ρ:ASt} {M:MH} {Q:List V->Hp->Prop} {Q':List AV->MH->Prop},Wf H O M->Er H O M σ ρ->a ρ M Q'->(∀ x M' v H' O',Q' x M'->Ext H O M H' O' M'->Wf H' O' M'->zj H' O' M' v x->Q v H')->t σ H Q
structure ZW (t:TE)(a:ASt->MH->(List AV->MH->Prop)->Prop):Prop where
 go:∀ {σ:St} {H:Hp} {O:Own} {ρ:ASt} {M:MH} {Q:VK} {Q':List AV->MH->Prop},Wf H O M->Er H O M σ ρ->a ρ M Q' ->
  (∀ l M' p xs H' O',Q' l M'->Ext H O M H' O' M'->Wf H' O' M'->O' p->M' p=none->H p=none->H' p=some (.lst xs)->zj H' O' M' xs l->Q (.ref p) H')->t σ H Q
abbrev AR2:=AV->AV->MH->AK->Prop
structure vJ (r:R2)(a:AR2):Prop where
 go:∀ {x y:V} {dx dy:AV} {H:Hp} {O:Own} {M:MH} {Q:VK} {Q':AK},Wf H O M->zo H O M x dx->zo H O M y dy->a dx dy M Q'->(∀ x M' v H' O',Q' x M'->Ext H O M H' O' M'->Wf H' O' M'->zo H' O' M' v x->Q v H')->r x y H Q
structure Oc (r:V->Hp->VK->Prop)(a:AV->MH->AK->Prop):Prop where
 go:∀ {x:V} {dx:AV} {H:Hp} {O:Own} {M:MH} {Q:VK} {Q':AK},Wf H O M->zo H O M x dx->a dx M Q'->(∀ x M' v H' O',Q' x M'->Ext H O M H' O' M'->Wf H' O' M'->zo H' O' M' v x->Q v H')->r x H Q
structure Q2 (r:List V->Hp->VK->Prop)(a:List AV->MH->AK->Prop):Prop where
 go:∀ {vs:List V} {xs:List AV} {H:Hp} {O:Own} {M:MH} {Q:VK} {Q':AK},Wf H O M->zj H O M vs xs->a xs M Q'->(∀ x M' v H' O',Q' x M'->Ext H O M H' O' M'->Wf H' O' M'->zo H' O' M' v x->Q v H')->r vs H Q
noncomputable def yf (i:Nat):AE:=fun ρ M Q=>∃ x,ρ[i]?=some (some x)/\Q x M
noncomputable def aC (d:Dat):AE:=fun _ M Q=>Q (.d d) M
theorem HH:zH (ZC i) (yf i):=⟨fun w e ⟨x,h,q⟩ k=>let ⟨v,h1,h2⟩:=e.get i x h;⟨v,h1,k _ _ _ _ _ q .refl w h2⟩⟩
theorem IK {i:Int}:zH (tC (.int i)) (aC (.int i)):=⟨fun w _ q k=>k _ _ _ _ _ q .refl w .int⟩
theorem MJ {i:Bool}:zH (tC (.bl i)) (aC (.bl i)):=⟨fun w _ q k=>k _ _ _ _ _ q .refl w .bl⟩
theorem LV:zH (tC .non) (aC .non):=⟨fun w _ q k=>k _ _ _ _ _ q .refl w .non⟩
theorem Ng {i:Str}:zH (tC (.str i)) (aC (.str i)):=⟨fun w _ q k=>k _ _ _ _ _ q .refl w .str⟩
theorem LM {i:String}:zH (tC (.ty i)) (aC (.ty i)):=⟨fun w _ q k=>k _ _ _ _ _ q .refl w .ty⟩
noncomputable def aOp (r:AR2)(a b:AE):AE:=fun ρ M Q=>a ρ M fun x M1=>b ρ M1 fun y M2=>r x y M2 Q
theorem LX {ra:AR2}{t u:TE}{a b:AE}(hr:vJ r ra)(h1:zH t a)(h2:zH u b):zH (tOp r t u) (aOp ra a b):=
 ⟨fun w e q k=>h1.go w e q fun x M1 v H1 O1 q1 k1 w1 r1=>h2.go w1 (e.ext k1) q1 fun y M2 u H2 O2 q2 k2 w2 r2=>hr.go w2 (r1.ext k2) r2 q2 fun z M3 v3 H3 O3 q3 k3 w3 r3=>k z M3 v3 H3 O3 q3 ((k1.trans k2).trans k3) w3 r3⟩
noncomputable def aUn (r:AV->MH->AK->Prop)(a:AE):AE:=fun ρ M Q=>a ρ M fun x M1=>r x M1 Q
theorem MK {r:V->Hp->VK->Prop}{ra:AV->MH->AK->Prop}{t:TE}{a:AE}(hr:Oc r ra)(h1:zH t a):zH (tUn r t) (aUn ra a):=
 ⟨fun w e q k=>h1.go w e q fun x M1 v H1 O1 q1 k1 w1 r1=>hr.go w1 r1 q1 fun z M3 v3 H3 O3 q3 k3 w3 r3=>k z M3 v3 H3 O3 q3 (k1.trans k3) w3 r3⟩
noncomputable def JY:AA:=fun _ M Q=>Q [] M
noncomputable def yG (a:AE)(b:AA):AA:=fun ρ M Q=>a ρ M fun x M1=>b ρ M1 fun xs M2=>Q (x :: xs) M2
theorem Hg:jc Wu JY:=⟨fun w _ q k=>k _ _ _ _ _ q .refl w .nil⟩
variable {u:TA}
theorem DD {t:TE} {a:AE}{b:AA}(h1:zH t a)(h2:jc u b):jc (KY t u) (yG a b):=
 ⟨fun w e q k=>h1.go w e q fun x M1 v H1 O1 q1 k1 w1 r1=>h2.go w1 (e.ext k1) q1 fun y M2 u H2 O2 q2 k2 w2 r2=>k _ _ _ _ _ q2 (k1.trans k2) w2 (.cons (r1.ext k2) r2)⟩
theorem JD {H:Hp}{O:Own}{M:MH}(is:List Int):zj H O M (is.map V.int) (is.map fun i=>.d (.int i)):=by
 induction is with
 | nil=>exact .nil
 | cons i r ih=>exact .cons .int ih
noncomputable def aCB (r:List AV->MH->AK->Prop)(b:AA):AE:=fun ρ M Q=>b ρ M fun xs M1=>r xs M1 Q
theorem Lp {r:List V->Hp->VK->Prop}{ra:List AV->MH->AK->Prop} {b:AA}(hr:Q2 r ra)(h2:jc u b):zH (tCB r u) (aCB ra b):=
 ⟨fun w e q k=>h2.go w e q fun x M1 v H1 O1 q1 k1 w1 r1=>hr.go w1 r1 q1 fun z M3 v3 H3 O3 q3 k3 w3 r3=>k z M3 v3 H3 O3 q3 (k1.trans k3) w3 r3⟩
abbrev ASp:=List AV->MH->AK->Prop
noncomputable def cSp (a:ASp):Sp:=fun vs H Q _=>∃ xs M O Q',Wf H O M/\zj H O M vs xs/\a xs M Q'/\∀ x M' v H' O',Q' x M'->Ext H O M H' O' M'->Wf H' O' M'->zo H' O' M' v x->Q v H'
noncomputable def Y9 (sp:ASp)(b:AA):AE:=fun ρ M Q=>b ρ M fun xs M1=>sp xs M1 Q
theorem BW {sp:ASp} {b:AA}(h:jc u b):zH (KR (cSp sp) [] E0 u) (Y9 sp b):=
 ⟨fun w e q k=>h.go w e q fun x M1 v H1 O1 q1 k1 w1 r1=>⟨x,M1,O1,_,w1,by rw [bP];exact r1,q1,fun z M3 v3 H3 O3 q3 k3 w3 r3=>k z M3 v3 H3 O3 q3 (k1.trans k3) w3 r3⟩⟩
noncomputable def pur:List AV->Option (List Dat)
 | []=>some []
 | .d x :: r=>match pur r with | some l=>some (x :: l) | none=>none
 | .ref _ :: _=>none
 | .tp _ :: _=>none
theorem FA:pur []=some []:=rfl
theorem BI {x:Dat}{r:List AV}{l:List Dat}(h:pur r=some l):pur (.d x :: r)=some (x :: l):=by unfold pur;rw [h]
theorem zM (l:List Dat):pur (l.map .d)=some l:=by
 induction l with
 | nil=>rfl
 | cons x r ih=>exact BI ih
theorem kf:∀ {xs:List AV} {l:List Dat},pur xs=some l->xs=l.map .d
 | [],l,h=>by cases h;rfl
 | .d x :: r,l,h=>by
  unfold pur at h
  cases e:pur r with
  | none=>rw [e] at h;cases h
  | some m=>rw [e] at h;cases h;rw [kf e];rfl
 | .ref _ :: _,_,h=>by cases h
 | .tp _ :: _,_,h=>by cases h
theorem Ext.shown (w:Wf H O M)(k:Ext H O M H' O' M')(h:H p=none):Ext H O M H' (QM O' p) M':=
 ⟨fun a o ha e=>⟨(k.fix a o ha e).1,fun z=>(k.fix a o ha e).2 z.2⟩,fun a ha e=>⟨(k.prv a ha e).1,⟨fun z=>w.ne a ha (by rw [z];exact h),(k.prv a ha e).2.1⟩,(k.prv a ha e).2.2⟩,k.mst⟩
theorem Ext.owned (w:Wf H O M)(k:Ext H O M H' O' M')(h:H p=none)(mo:MO):Ext H O M H' O' (mup M' p mo):=
 ⟨k.fix,fun a ha e=>⟨(k.prv a ha e).1,(k.prv a ha e).2.1,by rw [zl (fun z=>w.ne a ha (by rw [z];exact h))];exact (k.prv a ha e).2.2⟩,fun a ha=>by
  by_cases e:a=p
  ·rw [e,ze];exact fun z=>nomatch z
  ·rw [zl e];exact k.mst a ha⟩
theorem JX (w:Wf H O M)(hO:O p)(hM:M p=none) {l:List AV}(hp:H p=some (.lst xs))(r:zj H O M xs l):Wf H O (mup M p (.lst l)):=by
 have km:∀ a,M a ≠ none->mup M p (.lst l) a ≠ none:=fun a ha=>by
  by_cases e:a=p
  ·rw [e,ze];exact fun z=>nomatch z
  ·rw [zl e];exact ha
 refine ⟨fun a u e=>?_,fun a ha=>?_,w.al⟩
 ·by_cases c:a=p
  ·subst c;rw [ze] at e;cases e;exact ⟨xs,hp,r.imp (fun _ _ z h=>⟨h,z⟩) km⟩
  ·rw [zl c] at e
   have:=w.mo a u e
   cases u with
   | lst m=>obtain ⟨ys,h1,h2⟩:=this;exact ⟨ys,h1,h2.imp (fun _ _ z h=>⟨h,z⟩) km⟩
   | dK m=>obtain ⟨ys,h1,h2⟩:=this;exact ⟨ys,h1,h2.1,h2.2.imp (fun _ _ z h=>⟨h,z⟩) km⟩
   | dT m=>obtain ⟨ys,h1,h2⟩:=this;exact ⟨ys,h1,h2.1,h2.2.imp (fun _ _ z h=>⟨h,z⟩) km⟩
   | ins C fs=>
    obtain ⟨dx,ys,h1,h2,h3,h4,h5⟩:=this
    exact ⟨dx,ys,h1,⟨h2.1,h2.2.imp (fun _ _ z h=>⟨h,z⟩) km⟩,h3,by rw [zl (KU h5 hp (fun z=>nomatch z))];exact h4,h5⟩
   | exc C fs=>
    obtain ⟨d,h1,h2⟩:=this
    refine ⟨d,h1,?_⟩
    rcases h2 with h2 | ⟨dx,e1,h2,h3,h4⟩
    ·exact .inl h2
    ·exact .inr ⟨dx,e1,h2,h3,by rw [zl (KU h2 hp (fun z=>nomatch z))];exact h4⟩
   | tb R=>exact this
 ·by_cases c:a=p
  ·rw [c];exact hO
  ·rw [zl c] at ha;exact w.own a ha
abbrev AF:=ASt->MH->(List AV->MH->Prop)->Prop
noncomputable def aFz (a:AF):AE:=fun ρ M Q=>a ρ M fun l M'=>∃ ds,pur l=some ds/\Q (.d (.lst ds)) M'
noncomputable def aOw (a:AF):AE:=fun ρ M Q=>a ρ M fun l M'=>∀ p,M p=none->M' p=none->Q (.ref p) (mup M' p (.lst l))
noncomputable def On (t:TE):TE:=t
theorem jG {e:Expr}{t:TE}(h:PE X e t):PE X e (On t):=h
theorem wl {t:TE}{a:AF}(h:ZW t a):zH t (aFz a):=
 ⟨fun w e q k=>h.go w e q fun l M' p xs H' O' q1 k1 w1 o1 m1 hp hx r1=>by
  obtain ⟨ds,e1,q2⟩:=q1
  rw [kf e1] at r1
  have r2:=r1.pure
  exact k _ _ _ _ _ q2 (k1.shown w hp) (ET w1 m1 hx) (Rep.lst (fun z=>z.1 rfl) hx r2.1 fun i x d e1 e2=>(r2.2 i x d e1 e2).imp (xS p))⟩
theorem F3 {t:TE}{a:AF}(h:ZW t a):zH (On t) (aOw a):=
 ⟨fun w e q k=>h.go w e q fun l M' p xs H' O' q1 k1 w1 o1 m1 hp hx r1=>k _ _ _ _ _ (q1 p (w.fresh hp).2 m1) (k1.owned w hp _) (JX w1 o1 m1 hx r1) ⟨rfl,by rw [ze];exact fun z=>nomatch z⟩⟩
noncomputable def Mg (b:AA):AF:=fun ρ M Q=>b ρ M fun xs M1=>xs.length<=aT/\Q xs M1
theorem BG {b:AA}(h:jc u b):ZW (Nn u) (Mg b):=
 ⟨fun w e q k=>h.go w e q fun x M1 v H1 O1 q1 k1 w1 r1=>⟨by rw [r1.1];exact q1.1,fun p hp=>
  k x M1 p v _ _ q1.2 (k1.trans (qw w1 hp _)) (j9 w1 hp _ (fun _ z=>nomatch z)) (.inl rfl) (w1.fresh hp).2 (by
   cases e0:(_:Hp) p with
   | none=>exact e0
   | some o=>
    exfalso
    rename_i H0 O0 _ M0 _ _
    by_cases c:O0 p
    ·by_cases c2:M0 p=none
     ·exact w1.ne p (k1.prv p c c2).2.1 hp
     ·exact w1.ne p (w1.own p (k1.mst p c2)) hp
    ·rw [(k1.fix p o c e0).1] at hp;cases hp) zi (r1.ext (qw w1 hp _))⟩⟩
noncomputable def IX (b:AA):AE:=fun ρ M Q=>b ρ M fun xs M1=>xs.length<=aT/\∃ ds,pur xs=some ds/\Q (.d (.tup ds)) M1
theorem Gu {b:AA}(h:jc u b):zH (Wr u) (IX b):=
 ⟨fun w e q k=>h.go w e q fun x M1 v H1 O1 q1 k1 w1 r1=>⟨by rw [r1.1];exact q1.1,fun p hp=>by
  obtain ⟨_,ds,e1,q2⟩:=q1
  rw [kf e1] at r1
  have r2:=r1.pure
  exact k _ _ _ _ _ q2 (k1.trans (qj w1 hp _)) (jS w1 hp _) (Rep.tup (w1.fresh hp).1 zi r2.1 fun i x d e1 e2=>(r2.2 i x d e1 e2).ext (qj w1 hp _))⟩⟩
noncomputable def aB (a:AE):AT:=fun ρ M Q=>a ρ M fun x M1=>∃ b,x=.d (.bl b)/\Q b M1
theorem xt {b:Bool}(r:Rep H O v (.bl b)):v=.bl b:=by cases r;rfl
theorem zQ {b:Int}(r:Rep H O v (.int b)):v=.int b:=by cases r;rfl
theorem Va {b:Str}(r:Rep H O v (.str b)):v=.str b:=by cases r;rfl
theorem Fa {b:String}(r:Rep H O v (.ty b)):v=.ty b:=by cases r;rfl
theorem v7 (r:Rep H O v .non):v=.non:=by cases r;rfl
theorem OL {t:TE}{a:AE}(h:zH t a):kq (tB t) (aB a):=⟨fun w e q k=>h.go w e q fun x M1 v H1 O1 ⟨b,e1,q1⟩ k1 w1 r1=>by
 subst e1;exact ⟨b,xt r1,k _ _ _ _ q1 k1 w1⟩⟩
theorem BK {t:TE}{a:AE}(h:zH t a):kq (YI t) (aB a):=⟨fun w e q k=>h.go w e q fun x M1 v H1 O1 ⟨b,e1,q1⟩ k1 w1 r1=>by
 subst e1;exact ⟨b,xt r1,k _ _ _ _ q1 k1 w1⟩⟩
noncomputable def KQ:AT:=fun _ M Q=>Q true M
theorem DC:kq BL KQ:=⟨fun w _ q k=>k _ _ _ _ q .refl w⟩
noncomputable def FM (a b:AT):AT:=fun ρ M Q=>a ρ M fun c M1=>if c=true then b ρ M1 Q else Q false M1
noncomputable def aOr (a b:AT):AT:=fun ρ M Q=>a ρ M fun c M1=>if c=true then Q true M1 else b ρ M1 Q
noncomputable def OK (a:AT):AT:=fun ρ M Q=>a ρ M fun c M1=>Q (!c) M1
theorem Hd {t u:TT}{a b:AT}(h1:kq t a)(h2:kq u b):kq (Nz t u) (FM a b):=⟨fun w e q k=>h1.go w e q fun c M1 H1 O1 q1 k1 w1=>by
 cases c with
 | true=>exact h2.go w1 (e.ext k1) q1 fun c M2 H2 O2 q2 k2 w2=>k _ _ _ _ q2 (k1.trans k2) w2
 | false=>exact k _ _ _ _ q1 k1 w1⟩
theorem IM {t u:TT}{a b:AT}(h1:kq t a)(h2:kq u b):kq (tOr t u) (aOr a b):=⟨fun w e q k=>h1.go w e q fun c M1 H1 O1 q1 k1 w1=>by
 cases c with
 | false=>exact h2.go w1 (e.ext k1) q1 fun c M2 H2 O2 q2 k2 w2=>k _ _ _ _ q2 (k1.trans k2) w2
 | true=>exact k _ _ _ _ q1 k1 w1⟩
theorem GG {a:AT}(h1:kq t a):kq (Lq t) (OK a):=⟨fun w e q k=>h1.go w e q fun c M1 H1 O1 q1 k1 w1=>k _ _ _ _ q1 k1 w1⟩
noncomputable def Ij (a b:AE):AE:=fun ρ M Q=>a ρ M fun x M1=>∃ c,x=.d (.bl c)/\if c=true then b ρ M1 Q else Q (.d (.bl false)) M1
noncomputable def OS (a b:AE):AE:=fun ρ M Q=>a ρ M fun x M1=>∃ c,x=.d (.bl c)/\if c=true then Q (.d (.bl true)) M1 else b ρ M1 Q
theorem AB {t u:TE}{a b:AE}(h1:zH t a)(h2:zH u b):zH (A1 t u) (Ij a b):=⟨fun w e q k=>h1.go w e q fun x M1 v H1 O1 ⟨c,e1,q1⟩ k1 w1 r1=>by
 subst e1
 refine ⟨c,xt r1,?_⟩
 cases c with
 | true=>exact h2.go w1 (e.ext k1) q1 fun c M2 v2 H2 O2 q2 k2 w2 r2=>k _ _ _ _ _ q2 (k1.trans k2) w2 r2
 | false=>exact k _ _ _ _ _ q1 k1 w1 .bl⟩
theorem Fy {t u:TE}{a b:AE}(h1:zH t a)(h2:zH u b):zH (L8 t u) (OS a b):=⟨fun w e q k=>h1.go w e q fun x M1 v H1 O1 ⟨c,e1,q1⟩ k1 w1 r1=>by
 subst e1
 refine ⟨c,xt r1,?_⟩
 cases c with
 | false=>exact h2.go w1 (e.ext k1) q1 fun c M2 v2 H2 O2 q2 k2 w2 r2=>k _ _ _ _ _ q2 (k1.trans k2) w2 r2
 | true=>exact k _ _ _ _ _ q1 k1 w1 .bl⟩
noncomputable def aIf (c:AT)(a b:AE):AE:=fun ρ M Q=>c ρ M fun c M1=>if c=true then a ρ M1 Q else b ρ M1 Q
theorem ML {c:TT}{t u:TE}{ac:AT}{a b:AE}(hc:kq c ac)(h1:zH t a)(h2:zH u b):zH (tIf c t u) (aIf ac a b):=⟨fun w e q k=>hc.go w e q fun c M1 H1 O1 q1 k1 w1=>by
 cases c with
 | true=>exact h1.go w1 (e.ext k1) q1 fun c M2 v2 H2 O2 q2 k2 w2 r2=>k _ _ _ _ _ q2 (k1.trans k2) w2 r2
 | false=>exact h2.go w1 (e.ext k1) q1 fun c M2 v2 H2 O2 q2 k2 w2 r2=>k _ _ _ _ _ q2 (k1.trans k2) w2 r2⟩
noncomputable def Ds (r r':AR2)(a b c:AE):AE:=fun ρ M Q=>a ρ M fun x M1=>b ρ M1 fun y M2=>r x y M2 fun z M3=>∃ k,z=.d (.bl k)/\if k=true then c ρ M3 fun u M4=>r' y u M4 Q else Q (.d (.bl false)) M3
theorem WF {r r':R2}{ar ar':AR2}{t u v:TE}{a b c:AE}(hr:vJ r ar)(hr':vJ r' ar')(h1:zH t a)(h2:zH u b)(h3:zH v c):zH (Dg r r' t u v) (Ds ar ar' a b c):=
 ⟨fun w e q k=>h1.go w e q fun x M1 v H1 O1 q1 k1 w1 r1=>h2.go w1 (e.ext k1) q1 fun y M2 u H2 O2 q2 k2 w2 r2=>hr.go w2 (r1.ext k2) r2 q2 fun z M3 v3 H3 O3 ⟨c,e3,q3⟩ k3 w3 r3=>by
  subst e3
  refine ⟨c,xt r3,?_⟩
  have k13:=(k1.trans k2).trans k3
  cases c with
  | false=>exact k _ _ _ _ _ q3 k13 w3 .bl
  | true=>exact h3.go w3 (e.ext k13) q3 fun z4 M4 v4 H4 O4 q4 k4 w4 r4=>hr'.go w4 ((r2.ext k3).ext k4) r4 q4 fun z5 M5 v5 H5 O5 q5 k5 w5 r5=>k _ _ _ _ _ q5 ((k13.trans k4).trans k5) w5 r5⟩
structure ED (H0:Hp)(O0:Own)(M0:MH)(D:kA)(D':jA):Prop where
 nx:∀ σ H O ρ M,Wf H O M->Er H O M σ ρ->Ext H0 O0 M0 H O M->D'.nx ρ M->D.nx σ H
 rt:∀ v x H O M,Wf H O M->Ext H0 O0 M0 H O M->zo H O M v x->D'.rt x M->D.rt v H
 bk:∀ σ H O ρ M,Wf H O M->Er H O M σ ρ->Ext H0 O0 M0 H O M->D'.bk ρ M->D.bk σ H
 ct:∀ σ H O ρ M,Wf H O M->Er H O M σ ρ->Ext H0 O0 M0 H O M->D'.ct ρ M->D.ct σ H
variable {H0:Hp} {O0:Own}
theorem ED.tr {M0 M1:MH} {D':jA}(E:ED H0 O0 M0 D D')(k:Ext H0 O0 M0 H1 O1 M1):ED H1 O1 M1 D D':=
 ⟨fun σ H O ρ M w e x q=>E.nx σ H O ρ M w e (k.trans x) q,fun v y H O M w x r q=>E.rt v y H O M w (k.trans x) r q,fun σ H O ρ M w e x q=>E.bk σ H O ρ M w e (k.trans x) q,fun σ H O ρ M w e x q=>E.ct σ H O ρ M w e (k.trans x) q⟩
structure jo (t:TS)(a:AS):Prop where
 go:∀ {H0:Hp} {O0:Own} {M0:MH} {D:kA} {D':jA} {σ:St} {H:Hp} {O:Own} {ρ:ASt} {M:MH},Wf H0 O0 M0->Wf H O M->Er H O M σ ρ->Ext H0 O0 M0 H O M->a M0 D' ρ M->ED H0 O0 M0 D D'->t D σ H
noncomputable def xp:AS:=fun _ D ρ M=>D.nx ρ M
theorem AH:jo D8 xp:=⟨fun _ w e x q E=>E.nx _ _ _ _ _ w e x q⟩
noncomputable def yX (a b:AS):AS:=fun B D ρ M=>a B { D with nx:=b B D } ρ M
theorem G7 {t u:TS}{a b:AS}(h1:jo t a)(h2:jo u b):jo (Wk t u) (yX a b):=
 ⟨fun w0 w e x q E=>h1.go w0 w e x q ⟨fun σ H O ρ M w e x q=>h2.go w0 w e x q E,E.rt,E.bk,E.ct⟩⟩
noncomputable def Vv (a:AE):AS:=fun _ D ρ M=>a ρ M fun _ M1=>D.nx ρ M1
theorem DG {t:TE}{a:AE}(h:zH t a):jo (VA t) (Vv a):=⟨fun _ w e x q E=>h.go w e q fun y M1 v H1 O1 q1 k1 w1 r1=>E.nx _ _ _ _ _ w1 (e.ext k1) (x.trans k1) q1⟩
noncomputable def Mo (a:AE):AS:=fun _ D ρ M=>a ρ M D.rt
theorem FW {t:TE}{a:AE}(h:zH t a):jo (GE t) (Mo a):=⟨fun _ w e x q E=>h.go w e q fun y M1 v H1 O1 q1 k1 w1 r1=>E.rt _ _ _ _ _ w1 (x.trans k1) r1 q1⟩
noncomputable def wL (c:AT)(a b:AS):AS:=fun B D ρ M=>c ρ M fun k M1=>if k=true then a B D ρ M1 else b B D ρ M1
variable {ac:AT}
theorem FL {c:TT}{t u:TS} {a b:AS}(hc:kq c ac)(h1:jo t a)(h2:jo u b):jo (Hl c t u) (wL ac a b):=
 ⟨fun w0 w e x q E=>hc.go w e q fun k M1 H1 O1 q1 k1 w1=>by
  cases k with
  | true=>exact h1.go w0 w1 (e.ext k1) (x.trans k1) q1 E
  | false=>exact h2.go w0 w1 (e.ext k1) (x.trans k1) q1 E⟩
structure yv (g:TG)(a:AG):Prop where
 go:∀ {v:V} {x:AV} {σ:St} {H:Hp} {O:Own} {ρ:ASt} {M:MH} {Q:St->Hp->Prop} {Q':ASt->MH->Prop},Wf H O M->Er H O M σ ρ->zo H O M v x->a x ρ M Q' ->
  (∀ σ' H' O' ρ' M',Q' ρ' M'->Ext H O M H' O' M'->Wf H' O' M'->Er H' O' M' σ' ρ'->Q σ' H')->g v σ H Q
structure Ql (g:TGs)(a:AGs):Prop where
 go:∀ {v:List V} {x:List AV} {σ:St} {H:Hp} {O:Own} {ρ:ASt} {M:MH} {Q:St->Hp->Prop} {Q':ASt->MH->Prop},Wf H O M->Er H O M σ ρ->zj H O M v x->a x ρ M Q' ->
  (∀ σ' H' O' ρ' M',Q' ρ' M'->Ext H O M H' O' M'->Wf H' O' M'->Er H' O' M' σ' ρ'->Q σ' H')->g v σ H Q
noncomputable def yo (i:Nat):AG:=fun x ρ M Q=>Q (ρ.set i (some x)) M
theorem W5:yv (Kr i) (yo i):=⟨fun w e r q k=>k _ _ _ _ _ q .refl w (e.set r i)⟩
noncomputable def Io:AGs:=fun xs ρ M Q=>xs=[]/\Q ρ M
noncomputable def A4 (a:AG)(b:AGs):AGs:=fun xs ρ M Q=>∃ x r,xs=x :: r/\a x ρ M fun ρ' M'=>b r ρ' M' Q
theorem DT:Ql Ni Io:=⟨fun w e r q k=>by obtain ⟨e1,q⟩:=q;subst e1;exact ⟨r.nil_inv,k _ _ _ _ _ q .refl w e⟩⟩
theorem WS {u:TGs}{a:AG}{b:AGs}(h1:yv g a)(h2:Ql u b):Ql (Fo g u) (A4 a b):=⟨fun w e r q k=>by
 obtain ⟨x,r',e1,q⟩:=q;subst e1
 obtain ⟨v,vr,e2,rv,rr⟩:=r.cons_inv
 subst e2
 exact ⟨v,vr,rfl,h1.go w e rv q fun σ' H' O' ρ' M' q1 k1 w1 e1=>h2.go w1 e1 (rr.ext k1) q1 fun σ2 H2 O2 ρ2 M2 q2 k2 w2 e2=>k _ _ _ _ _ q2 (k1.trans k2) w2 e2⟩⟩
noncomputable def IA (n:Nat)(b:AGs):AG:=fun x ρ M Q=>∃ l,x=.d (.tup l)/\l.length=n/\b (l.map .d) ρ M Q
theorem D6 {K:az}{n:Nat}{u:TGs}{b:AGs}(h:Ql u b):yv (Aj K n u) (IA n b):=⟨fun {v x σ H O ρ M Q Q'} w e r q k=>by
 obtain ⟨l,e1,ln,q⟩:=q;subst e1
 cases (show Rep H O v (.tup l) from r) with
 | @tup a xs _ o1 h1 l1 r1=>exact ⟨a,xs,rfl,SqT.of h1,l1.trans ln,h.go w e (W7.av ⟨l1,r1⟩) q k⟩⟩
noncomputable def qN (x:AV)(M:MH):Option (List AV):=match x with
 | .d (.lst l)=>some (l.map .d)
 | .ref a=>match M a with
  | some (.lst l)=>some l
  | _=>none
 | _=>none
noncomputable def F5 (x:AV):Option (List AV):=match x with
 | .d (.tup l)=>some (l.map .d)
 | .tp l=>some (l.map tiA)
 | _=>none
noncomputable def qK (x:AV)(M:MH):Option (List AV):=match x with
 | .d (.lst l)=>some (l.map .d)
 | .d (.tup l)=>some (l.map .d)
 | .ref a=>match M a with
  | some (.lst l)=>some l
  | _=>none
 | _=>none
theorem Ba (l:List Dat)(M:MH):qN (.d (.lst l)) M=some (l.map .d):=rfl
theorem Ma (l:List Dat):F5 (.d (.tup l))=some (l.map .d):=rfl
theorem kO (l:List Dat)(M:MH):qK (.d (.lst l)) M=some (l.map .d):=rfl
theorem Bk (l:List Dat)(M:MH):qK (.d (.tup l)) M=some (l.map .d):=rfl
theorem jj {l:List AV}(h:M a=some (.lst l)):qN (.ref a) M=some l:=by unfold qN;dsimp only;rw [h]
theorem qh {l:List AV}(h:M a=some (.lst l)):qK (.ref a) M=some l:=by unfold qK;dsimp only;rw [h]
theorem Zv {x:AV}{M:MH}{l:List AV}(h:qN x M=some l):(∃ m,x=.d (.lst m)/\l=m.map .d) \/ ∃ a,x=.ref a/\M a=some (.lst l):=by
 cases x with
 | d x=>
  cases x with
  | lst m=>cases h;exact .inl ⟨m,rfl,rfl⟩
  | _=>cases h
 | ref a=>
  unfold qN at h
  dsimp only at h
  cases e:M a with
  | none=>rw [e] at h;cases h
  | some o=>
   rw [e] at h
   cases o with
   | lst m=>cases h;exact .inr ⟨a,rfl,e⟩
   | _=>cases h
 | tp l=>cases h
theorem jd {x:AV}{M:MH}{l:List AV}(h:qK x M=some l):qN x M=some l \/ ∃ m,x=.d (.tup m)/\l=m.map .d:=by
 cases x with
 | d x=>
  cases x with
  | lst m=>cases h;exact .inl rfl
  | tup m=>cases h;exact .inr ⟨m,rfl,rfl⟩
  | _=>cases h
 | ref a=>exact .inl h
 | tp l=>cases h
theorem qz {x:AV}{l:List AV}(w:Wf H O M)(r:zo H O M v x)(h:qN x M=some l):∃ a xs,v=.ref a/\H a=some (.lst xs)/\zj H O M xs l:=by
 rcases Zv h with ⟨m,rfl,rfl⟩ | ⟨a,rfl,e⟩
 ·cases (show Rep H O v (.lst m) from r) with
  | @lst a xs _ o1 h1 l1 r1=>exact ⟨a,xs,rfl,h1,W7.av ⟨l1,r1⟩⟩
 ·obtain ⟨xs,h1,r1⟩:=w.mo a _ e
  exact ⟨a,xs,r.1,h1,r1⟩
theorem Fm.av {m:List (Dat ⊕ ay)}(r:Fm H O M xs m):zj H O M xs (m.map tiA):=⟨by rw [am];exact r.1,fun i x d e1 e2=>by
 rw [aE] at e2
 obtain ⟨t,e3,rfl⟩:=fh.mp e2
 have:=r.2 i x t e1 e3
 cases t <;> exact this⟩
theorem jU {H:Hp}{O:Own}{M:MH}{v:V}{x:AV}{l:List AV}(r:zo H O M v x)(h:F5 x=some l):∃ a xs,v=.ref a/\H a=some (.tup xs)/\zj H O M xs l:=by
 cases x with
 | ref a=>cases h
 | tp m=>
  cases h
  obtain ⟨a,xs,e,_,h1,r1⟩:=r
  exact ⟨a,xs,e,h1,r1.av⟩
 | d x=>
  cases x with
  | tup m=>
   cases h
   cases (show Rep H O v (.tup m) from r) with
   | @tup a xs _ o1 h1 l1 r1=>exact ⟨a,xs,rfl,h1,W7.av ⟨l1,r1⟩⟩
  | _=>cases h
theorem QQ {x:AV}{l:List AV}(w:Wf H O M)(r:zo H O M v x)(h:qK x M=some l):∃ a xs,v=.ref a/\(H a=some (.lst xs) \/ H a=some (.tup xs))/\zj H O M xs l:=by
 rcases jd h with e | ⟨m,rfl,rfl⟩
 ·obtain ⟨a,xs,h1,h2,h3⟩:=qz w r e;exact ⟨a,xs,h1,.inl h2,h3⟩
 ·obtain ⟨a,xs,h1,h2,h3⟩:=jU (l:=m.map .d) r rfl;exact ⟨a,xs,h1,.inr h2,h3⟩
structure Yp (t:JQ)(a:AV->AV->AV->MH->(MH->Prop)->Prop):Prop where
 go:∀ {o i v:V} {ao ai av:AV} {H:Hp} {O:Own} {M:MH} {Q:Hp->Prop} {Q':MH->Prop},Wf H O M->zo H O M o ao->zo H O M i ai->zo H O M v av->a ao ai av M Q'->(∀ M' H' O',Q' M'->Ext H O M H' O' M'->Wf H' O' M'->Q H')->t o i v H Q
noncomputable def HZ (a b:AE)(s:AV->AV->AV->MH->(MH->Prop)->Prop):AG:=fun x ρ M Q=>a ρ M fun o M1=>b ρ M1 fun i M2=>s o i x M2 fun M3=>Q ρ M3
theorem E4 {to ti:TE}{t:JQ}{a b:AE}{s:AV->AV->AV->MH->(MH->Prop)->Prop}(h1:zH to a)(h2:zH ti b)(h3:Yp t s):yv (ND to ti t) (HZ a b s):=⟨fun w e r q k=>
 h1.go w e q fun x M1 v H1 O1 q1 k1 w1 r1=>h2.go w1 (e.ext k1) q1 fun y M2 u H2 O2 q2 k2 w2 r2=>h3.go w2 (r1.ext k2) r2 (r.ext (k1.trans k2)) q2 fun M3 H3 O3 q3 k3 w3=>k _ _ _ _ _ q3 ((k1.trans k2).trans k3) w3 (e.ext ((k1.trans k2).trans k3))⟩
theorem qc {o:MO}(h:M p=some o):M p ≠ none:=by rw [h];exact fun z=>nomatch z
noncomputable def asL:AV->AV->AV->MH->(MH->Prop)->Prop:=fun o i v M Q=>∃ p l k j,o=.ref p/\i=.d (.int k)/\M p=some (.lst l)/\ixN l.length k=some j/\Q (mup M p (.lst (l.set j v)))
theorem DH:Yp Xo asL:=⟨fun w ro ri rv q k=>by
 obtain ⟨p,l,n,j,rfl,rfl,hm,hj,q⟩:=q
 obtain ⟨xs,hx,rx⟩:=w.mo p _ hm
 have np:=qc hm
 refine ⟨n,zQ ri,p,ro.1,xs,hx,j,by rw [rx.1];exact hj,k _ _ _ q (xT w np _ _) (Yw w np (fun _ z=>nomatch z) ⟨_,zi,(rx.set rv j).ext (xT w np _ _)⟩)⟩⟩
noncomputable def G4 (a:AE)(g:AG):AS:=fun _ D ρ M=>a ρ M fun x M1=>g x ρ M1 D.nx
variable {ag:AG}
theorem Gz {t:TE} {a:AE} (h:zH t a)(hg:yv g ag):jo (JK t g) (G4 a ag):=⟨fun _ w e x q E=>h.go w e q fun y M1 v H1 O1 q1 k1 w1 r1=>hg.go w1 (e.ext k1) r1 q1 fun σ2 H2 O2 ρ2 M2 q2 k2 w2 e2=>E.nx _ _ _ _ _ w2 e2 ((x.trans k1).trans k2) q2⟩
noncomputable def Ol (i j:Nat)(a:AA):AS:=fun _ D ρ M=>a ρ M fun xs M1=>∃ x y,xs=[x,y]/\D.nx ((ρ.set i (some x)).set j (some y)) M1
theorem GQ {t:TA}{a:AA}(h:jc t a):jo (NT i j t) (Ol i j a):=⟨fun _ w e x q E=>h.go w e q fun ys M1 vs H1 O1 q1 k1 w1 r1=>by
 obtain ⟨y,z,rfl,q2⟩:=q1
 obtain ⟨v1,r',rfl,a1,r2⟩:=r1.cons_inv
 obtain ⟨v2,r',rfl,a2,r3⟩:=r2.cons_inv
 rw [r3.nil_inv]
 exact ⟨v1,v2,rfl,E.nx _ _ _ _ _ w1 (((e.ext k1).set a1 i).set a2 j) (x.trans k1) q2⟩⟩
noncomputable def Ii (i j m:Nat)(a:AA):AS:=fun _ D ρ M=>a ρ M fun xs M1=>∃ x y z,xs=[x,y,z]/\D.nx (((ρ.set i (some x)).set j (some y)).set m (some z)) M1
theorem B7 {t:TA}{a:AA}(h:jc t a):jo (Eu i j m t) (Ii i j m a):=⟨fun _ w e x q E=>h.go w e q fun ys M1 vs H1 O1 q1 k1 w1 r1=>by
 obtain ⟨y,z,u,rfl,q2⟩:=q1
 obtain ⟨v1,r',rfl,a1,r2⟩:=r1.cons_inv
 obtain ⟨v2,r',rfl,a2,r3⟩:=r2.cons_inv
 obtain ⟨v3,r',rfl,a3,r4⟩:=r3.cons_inv
 rw [r4.nil_inv]
 exact ⟨v1,v2,v3,rfl,E.nx _ _ _ _ _ w1 ((((e.ext k1).set a1 i).set a2 j).set a3 m) (x.trans k1) q2⟩⟩
structure IF (t:TIp)(a:AR2):Prop where
 go:∀ {x y:V} {dx dy:AV} {H:Hp} {O:Own} {M:MH} {Q:VK} {Q':AK},Wf H O M->zo H O M x dx->zo H O M y dy->a dx dy M Q'->(∀ x M' v H' O',Q' x M'->Ext H O M H' O' M'->Wf H' O' M'->zo H' O' M' v x->Q v H')->t x y H Q
noncomputable def HS (ao ai ae:AE)(gt ip:AR2)(st:AV->AV->AV->MH->(MH->Prop)->Prop):AS:=fun _ D ρ M=>ao ρ M fun o M1=>ai ρ M1 fun i M2=>gt o i M2 fun x M3=>ae ρ M3 fun y M4=>ip x y M4 fun z M5=>st o i z M5 fun M6=>D.nx ρ M6
theorem DF {to ti te:TE}{tg:V->V->Hp->VK->Prop}{tip:TIp}{ts:JQ}{ao ai ae:AE}{gt ip:AR2}{st:AV->AV->AV->MH->(MH->Prop)->Prop}(h1:zH to ao)(h2:zH ti ai)(h3:vJ tg gt)(h4:zH te ae)(h5:IF tip ip)(h6:Yp ts st) :
  jo (Ec to ti te tg tip ts) (HS ao ai ae gt ip st):=⟨fun _ w e x q E=>h1.go w e q fun o M1 v1 H1 O1 q1 k1 w1 r1=>h2.go w1 (e.ext k1) q1 fun i M2 v2 H2 O2 q2 k2 w2 r2=>h3.go w2 (r1.ext k2) r2 q2 fun y M3 v3 H3 O3 q3 k3 w3 r3=>
  h4.go w3 (e.ext ((k1.trans k2).trans k3)) q3 fun z M4 v4 H4 O4 q4 k4 w4 r4=>h5.go w4 (r3.ext k4) r4 q4 fun z5 M5 v5 H5 O5 q5 k5 w5 r5=>h6.go w5 (r1.ext (((k2.trans k3).trans k4).trans k5)) (r2.ext ((k3.trans k4).trans k5)) r5 q5 fun M6 H6 O6 q6 k6 w6=>
   E.nx _ _ _ _ _ w6 (e.ext (((((k1.trans k2).trans k3).trans k4).trans k5).trans k6)) (x.trans (((((k1.trans k2).trans k3).trans k4).trans k5).trans k6)) q6⟩
def Zk (J:It)(H:Hp)(O:Own)(M:MH)(l:List AV)(G:MH->Prop):Prop:=
 ∀ (H':Hp) (O':Own) (M':MH),(∀ a o,¬ O a->H a=some o->H' a=some o/\¬ O' a)->(∀ a,M a ≠ none->M' a ≠ none)->Wf H' O' M'->G M'->∀ i:Nat,(i=l.length->J.stop i H') /\
  ∀ y,l[i]?=some y->J.go i H'/\∀ x H'',J.yld i H' x H''->Ext H' O' M' H'' O' M'/\Wf H'' O' M'/\zo H'' O' M' x y
structure ZT (wi:TI)(ai:AI):Prop where
 go:∀ {σ:St} {H:Hp} {O:Own} {ρ:ASt} {M:MH} {R:It->Hp->Prop} {R':List AV->(MH->Prop)->MH->Prop},Wf H O M->Er H O M σ ρ->ai ρ M R'->(∀ l G M' J H' O',R' l G M'->Ext H O M H' O' M'->Wf H' O' M'->Zk J H' O' M' l G->R J H')->wi σ H R
def Il (ag:AG)(ab:AS)(B:MH)(D:jA)(G:MH->Prop)(l:List AV)(ρ:ASt)(M:MH):Prop:=
 ∃ Pv:Nat->ASt->MH->Prop,Pv 0 ρ M/\(∀ i x ρ M,l[i]?=some x->Pv i ρ M->G M/\ag x ρ M fun ρ' M'=>ab B { D with nx:=Pv (i+1),ct:=Pv (i+1),bk:=D.nx } ρ' M')/\∀ ρ M,Pv l.length ρ M->G M/\D.nx ρ M
noncomputable def IU (ai:AI)(ag:AG)(ab:AS):AS:=fun _ D ρ M=>ai ρ M fun l G M1=>Il ag ab M1 D G l ρ M1
variable {ai:AI}
theorem GI {t:TS} {ab:AS}(hi:ZT wi ai)(hg:yv g ag)(hb:jo t ab):jo (GZ wi g t) (IU ai ag ab):=⟨fun {H0 O0 M0 D D' σ H O ρ M} w0 w e x q E=>by
 rw [Jh]
 refine hi.go w e q fun l G M1 J H1 O1 q1 k1 w1 hj=>?_
 have E1:=E.tr (x.trans k1)
 obtain ⟨Pv,p0,ps,pd⟩:=q1
 refine ⟨fun i m σ H=>m=l.length - i/\i<=l.length/\∃ O ρ M,Wf H O M/\Er H O M σ ρ/\Ext H1 O1 M1 H O M/\Pv i ρ M,⟨l.length,by simp,cn _,O1,ρ,M1,w1,e.ext k1,.refl,p0⟩,?_⟩
 rintro i m σ H ⟨rfl,hi,O,ρ,M,w,e,x,hf⟩
 by_cases hil:i<l.length
 ·have hy:l[i]?=some l[i]:=aj hil
  obtain ⟨hG,q2⟩:=ps i l[i] ρ M hy hf
  obtain ⟨j1,j2⟩:=(hj H O M x.fix x.mst w hG i).2 l[i] hy
  refine .inr ⟨j1,fun σ' H'=>∃ O ρ M,Wf H' O M/\Er H' O M σ' ρ/\Ext H1 O1 M1 H' O M/\Pv (i+1) ρ M,fun σ' H' z=>⟨l.length - (i+1),by omega,rfl,hil,z⟩,fun v H' hv=>?_⟩
  obtain ⟨k2,w2,r2⟩:=j2 v H' hv
  refine hg.go w2 (e.ext k2) r2 q2 fun σ3 H3 O3 ρ3 M3 q3 k3 w3 e3=>?_
  exact hb.go w1 w3 e3 ((x.trans k2).trans k3) q3 ⟨fun σ H O ρ M w e x q=>⟨O,ρ,M,w,e,x,q⟩,E1.rt,E1.nx,fun σ H O ρ M w e x q=>⟨O,ρ,M,w,e,x,q⟩⟩
 ·have e0:i=l.length:=by omega
  subst e0
  obtain ⟨hG,q2⟩:=pd ρ M hf
  exact .inl ⟨(hj H O M x.fix x.mst w hG l.length).1 rfl,E1.nx _ _ _ _ _ w e x q2⟩⟩
theorem xu {H H1:Hp}{O O1:Own}{M M1:MH}(w1:Wf H1 O1 M1)(k1:Ext H O M H1 O1 M1){p:ay}(hp:H1 p=none):H p=none:=by
 cases e0:H p with
 | none=>rfl
 | some o=>
  exfalso
  by_cases c:O p
  ·by_cases c2:M p=none
   ·exact w1.ne p (k1.prv p c c2).2.1 hp
   ·exact w1.ne p (w1.own p (k1.mst p c2)) hp
  ·rw [(k1.fix p o c e0).1] at hp;cases hp
theorem WR {x:AV}{l:List AV}(r:zo H O M (.ref a) x)(h:qN x M=some l):Zk (Itl K a) H O M l (fun M'=>qN x M'=some l):=by
 intro H' O' M' fix mst w' hG i
 obtain ⟨a',xs,e,h1,r1⟩:=qz w' (r.imp fix mst) hG
 cases e
 refine ⟨fun e=>⟨xs,SqL.of h1,by rw [r1.1];omega⟩,fun y hy=>?_⟩
 obtain ⟨v,hv,rv⟩:=r1.get hy
 refine ⟨⟨xs,v,SqL.of h1,hv⟩,fun z H'' hz=>?_⟩
 obtain ⟨e1,e2⟩:=hz
 subst e1
 have:=e2 xs (SqL.of h1)
 rw [hv] at this;cases this
 exact ⟨.refl,w',rv⟩
theorem EE {x:AV}{l:List AV}(r:zo H O M (.ref a) x)(h:F5 x=some l):Zk (Itt K a) H O M l (fun _=>True):=by
 intro H' O' M' fix mst w' hG i
 obtain ⟨a',xs,e,h1,r1⟩:=jU (r.imp fix mst) h
 cases e
 refine ⟨fun e=>⟨xs,SqT.of h1,by rw [r1.1];omega⟩,fun y hy=>?_⟩
 obtain ⟨v,hv,rv⟩:=r1.get hy
 refine ⟨⟨xs,v,SqT.of h1,hv⟩,fun z H'' hz=>?_⟩
 obtain ⟨e1,e2⟩:=hz
 subst e1
 have:=e2 xs (SqT.of h1)
 rw [hv] at this;cases this
 exact ⟨.refl,w',rv⟩
noncomputable def aiS (a:AE):AI:=fun ρ M R=>a ρ M fun x M1=>∃ l,qK x M1=some l/\R l (fun M'=>qK x M'=some l) M1
variable {J:It}
theorem Zk.mono {l:List AV}{G G':MH->Prop}(h:Zk J H O M l G)(k:∀ M,G' M->G M):Zk J H O M l G':=fun H' O' M' fix mst w' hG=>h H' O' M' fix mst w' (k _ hG)
theorem Nb {t:TE}{a:AE}(h:zH t a):ZT (iLT K t) (aiS a):=⟨fun w e q k=>h.go w e q fun x M1 v H1 O1 ⟨l,hl,q1⟩ k1 w1 r1=>by
 rcases jd hl with hl' | ⟨m,rfl,rfl⟩
 ·obtain ⟨a,xs,rfl,h1,_⟩:=qz w1 r1 hl'
  refine ⟨a,rfl,.inl ⟨⟨xs,SqL.of h1⟩,k _ _ _ _ _ _ q1 k1 w1 ((WR r1 hl').mono fun M hM=>?_)⟩⟩
  rcases jd hM with z | ⟨m,rfl,rfl⟩
  ·exact z
  ·cases hl'
 ·obtain ⟨a,xs,rfl,h1,_⟩:=jU (l:=m.map .d) r1 rfl
  exact ⟨a,rfl,.inr ⟨⟨xs,SqT.of h1⟩,k _ _ _ _ _ _ q1 k1 w1 ((EE r1 rfl).mono fun _ _=>trivial)⟩⟩⟩
noncomputable def Js (lo c:Int)(n:Nat):List AV:=(bI n).map fun (k:Nat)=>.d (.int (lo+(k:Int) * c))
theorem yP (lo c:Int)(n:Nat):(Js lo c n).length=n:=by simp [Js]
variable {y:AV}
theorem yU {lo c:Int} (h:(Js lo c n)[i]?=some y):i<n/\y=.d (.int (lo+(i:Int) * c)):=by
 have hi:=(aA.mp h).1
 rw [yP] at hi
 unfold Js at h
 rw [aE,cF hi] at h
 cases h
 exact ⟨hi,rfl⟩
theorem El (lo:Int)(n:Nat):Zk (Itr lo n) H O M (Js lo 1 n) (fun _=>True):=by
 intro H' O' M' fix mst w' hG i
 refine ⟨fun e=>by rw [yP] at e;exact nN e.symm,fun y hy=>?_⟩
 obtain ⟨hi,rfl⟩:=yU hy
 refine ⟨hi,fun z H'' hz=>?_⟩
 obtain ⟨rfl,rfl⟩:=hz
 rw [mH]
 exact ⟨.refl,w',.int⟩
noncomputable def N2 (a:AA):AI:=fun ρ M R=>a ρ M fun xs M1=>∃ j:Int,xs=[.d (.int j)]/\-(2 ^ 62)<=j/\j<2 ^ 62/\R (Js 0 1 j.toNat) (fun _=>True) M1
theorem Hq {t:TA}{a:AA}(h:jc t a):ZT (B9 t) (N2 a):=⟨fun w e q k=>h.go w e q fun x M1 v H1 O1 ⟨j,e1,j1,j2,q1⟩ k1 w1 r1=>by
 subst e1
 obtain ⟨v1,r',rfl,a1,r2⟩:=r1.cons_inv
 rw [r2.nil_inv,zQ a1]
 exact ⟨j,rfl,j1,j2,k _ _ _ _ _ _ q1 k1 w1 (El _ _)⟩⟩
noncomputable def wq (m:List Dat):List AV:=(bI m.length).map fun (i:Nat)=>.d (.tup [.int (i:Int),m.getD i .non])
theorem kg (m:List Dat):(wq m).length=m.length:=by simp [wq]
theorem xP {m:List Dat} (h:(wq m)[i]?=some y):∃ d,m[i]?=some d/\y=.d (.tup [.int (i:Int),d]):=by
 have hi:=(aA.mp h).1
 rw [kg] at hi
 unfold wq at h
 rw [aE,cF hi] at h
 cases h
 exact ⟨m[i],aj hi,by dsimp only;rw [af,aj hi];rfl⟩
theorem KS (w:Wf H O M) (hp:H p=none){x y:V}{d e:Dat}(r1:Rep H O x d)(r2:Rep H O y e):Ext H O M (upd H p (.tup [x,y])) O M/\Wf (upd H p (.tup [x,y])) O M/\zo (upd H p (.tup [x,y])) O M (.ref p) (.d (.tup [d,e])):=
 ⟨qj w hp _,jS w hp _,Rep.tup (w.fresh hp).1 zi rfl fun i z f h1 h2=>by
  match i,h1,h2 with
  | 0,h1,h2=>cases h1;cases h2;exact r1.ext (qj w hp _)
  | 1,h1,h2=>cases h1;cases h2;exact r2.ext (qj w hp _)
  | (i+2),h1,_=>cases h1⟩
theorem W3 {x:AV}{m:List Dat}(r:zo H O M (.ref a) x)(h:qN x M=some (m.map .d)):Zk (Ite K a) H O M (wq m) (fun M'=>qN x M'=some (m.map .d)):=by
 intro H' O' M' fix mst w' hG i
 obtain ⟨a',xs,e,h1,r1⟩:=qz w' (r.imp fix mst) hG
 cases e
 have l1:=r1.1
 rw [am] at l1
 refine ⟨fun e=>⟨xs,SqL.of h1,by rw [kg] at e;omega⟩,fun y hy=>?_⟩
 obtain ⟨d,hd,rfl⟩:=xP hy
 obtain ⟨v,hv,rv⟩:=r1.get (i:=i) (d:=.d d) (by rw [aE,hd];rfl)
 refine ⟨⟨xs,v,SqL.of h1,hv⟩,fun z H'' hz=>?_⟩
 obtain ⟨p,x',hp,rfl,e2,rfl⟩:=hz
 have:=e2 xs (SqL.of h1)
 rw [hv] at this;cases this
 exact KS w' hp .int rv
theorem Xq {m:List Dat}(r:zo H O M (.ref a) (.d (.tup m))):Zk (NJ K a) H O M (wq m) (fun _=>True):=by
 intro H' O' M' fix mst w' hG i
 obtain ⟨a',xs,e,h1,r1⟩:=jU (l:=m.map .d) (r.imp fix mst) rfl
 cases e
 have l1:=r1.1
 rw [am] at l1
 refine ⟨fun e=>⟨xs,SqT.of h1,by rw [kg] at e;omega⟩,fun y hy=>?_⟩
 obtain ⟨d,hd,rfl⟩:=xP hy
 obtain ⟨v,hv,rv⟩:=r1.get (i:=i) (d:=.d d) (by rw [aE,hd];rfl)
 refine ⟨⟨xs,v,SqT.of h1,hv⟩,fun z H'' hz=>?_⟩
 obtain ⟨p,x',hp,rfl,e2,rfl⟩:=hz
 have:=e2 xs (SqT.of h1)
 rw [hv] at this;cases this
 exact KS w' hp .int rv
noncomputable def aiE (a:AA):AI:=fun ρ M R=>a ρ M fun xs M1=>∃ x l m,xs=[x]/\qK x M1=some l/\pur l=some m/\R (wq m) (fun M'=>qK x M'=some l) M1
theorem Yr {x:AV} {l l':List AV}(h:qN x M=some l)(h':qK x M'=some l'):qN x M'=some l':=by
 rcases jd h' with z | ⟨m,rfl,rfl⟩
 ·exact z
 ·cases h
theorem Ld {t:TA}{a:AA}(h:jc t a):ZT (Q4 K t) (aiE a):=⟨fun w e q k=>h.go w e q fun xs M1 v H1 O1 ⟨x,l,m,e1,hl,hm,q1⟩ k1 w1 r1=>by
 subst e1
 obtain ⟨v1,r',rfl,a1,r2⟩:=r1.cons_inv
 rw [r2.nil_inv]
 rw [kf hm] at hl q1
 rcases jd hl with hl' | ⟨m',rfl,e2⟩
 ·obtain ⟨a,xs,rfl,h1,_⟩:=qz w1 a1 hl'
  exact ⟨a,rfl,.inl ⟨⟨xs,SqL.of h1⟩,k _ _ _ _ _ _ q1 k1 w1 ((W3 a1 hl').mono fun M hM=>Yr hl' hM)⟩⟩
 ·obtain rfl:m=m':=by have:=congrArg pur e2;rw [zM,zM] at this;cases this;rfl
  obtain ⟨a,xs,rfl,h1,_⟩:=jU (l:=m.map .d) a1 rfl
  exact ⟨a,rfl,.inr ⟨⟨xs,SqT.of h1⟩,k _ _ _ _ _ _ q1 k1 w1 ((Xq a1).mono fun _ _=>trivial)⟩⟩⟩
structure vV (D:ay)(H:Hp)(O:Own)(M:MH)(H':Hp)(O':Own)(M':MH):Prop where
 fix:∀ a o,¬ O a->H a=some o->H' a=some o/\¬ O' a
 prv:∀ a,a ≠ D->O a->M a=none->H' a=H a/\O' a/\M' a=none
 mst:∀ a,M a ≠ none->M' a ≠ none
theorem Ext.x {D:ay} (k:Ext H O M H' O' M'):vV D H O M H' O' M':=⟨k.fix,fun a _=>k.prv a,k.mst⟩
theorem vV.trans {D:ay} {M M1 M2:MH}(a:vV D H O M H1 O1 M1)(b:vV D H1 O1 M1 H2 O2 M2):vV D H O M H2 O2 M2:=
 ⟨fun x o h e=>let ⟨e1,h1⟩:=a.fix x o h e;b.fix x o h1 e1,fun x hx h e=>by
  obtain ⟨e1,h1,n1⟩:=a.prv x hx h e
  obtain ⟨e2,h2,n2⟩:=b.prv x hx h1 n1
  exact ⟨e2.trans e1,h2,n2⟩,fun x h=>b.mst x (a.mst x h)⟩
theorem vV.set {D:ay} (hO:O D)(o:HO):vV D H O M (upd H D o) O M:=⟨wg hO o,fun a ha h e=>⟨zh ha,h,e⟩,fun _ h=>h⟩
theorem Er.imp (e:Er H O M σ ρ)(k:∀ a o,¬ O a->H a=some o->H' a=some o/\¬ O' a)(hm:∀ a,M a ≠ none->M' a ≠ none):Er H' O' M' σ ρ:=⟨e.len,fun i x h=>let ⟨v,h1,h2⟩:=e.get i x h;⟨v,h1,h2.imp k hm⟩⟩
abbrev ATR:=List AV->ASt->MH->(List AV->ASt->MH->Prop)->Prop
structure Z2 (D:ay)(tr:TR)(a:ATR):Prop where
 go:∀ {σ:St} {H:Hp} {O:Own} {ρ:ASt} {M:MH} {acc:List AV} {ys:List V} {N:St->Hp->Prop} {N':List AV->ASt->MH->Prop},Wf H O M->Er H O M σ ρ->O D->M D=none->H D=some (.lst ys)->zj H O M ys acc->a acc ρ M N' ->
  (∀ acc' ρ' M' σ' H' O' ys',N' acc' ρ' M'->vV D H O M H' O' M'->Wf H' O' M'->Er H' O' M' σ' ρ'->O' D->M' D=none->H' D=some (.lst ys')->zj H' O' M' ys' acc'->N σ' H')->tr σ H N
noncomputable def yS (a:AE):ATR:=fun acc ρ M N=>a ρ M fun x M1=>acc.length<aT/\N (acc ++ [x]) ρ M1
theorem Zn {D:ay}{t:TE}{a:AE}(h:zH t a):Z2 D (ww t D) (yS a):=⟨fun {σ H O ρ M acc ys N N'} w e o m hd r q k=>h.go w e q fun x M1 v H1 O1 ⟨q0,q1⟩ k1 w1 r1=>by
 obtain ⟨e1,o1,m1⟩:=k1.prv D o m
 have r':=r.ext k1
 refine ⟨ys,e1.trans hd,by rw [r.1];exact q0,k _ _ _ _ _ _ (ys ++ [v]) q1 (k1.x.trans (vV.set o1 _)) (XY w1 o1 m1 (e1.trans hd) _ (fun _ z=>nomatch z)) ((e.ext k1).imp (wg o1 _) (fun _ z=>z)) o1 m1 zi ((r'.snoc r1).imp (wg o1 _) (fun _ z=>z))⟩⟩
def Xd (ag:AG)(at_:AT)(tr:ATR)(G:MH->Prop)(N:List AV->ASt->MH->Prop)(l acc:List AV)(ρ:ASt)(M:MH):Prop:=
 ∃ Pv:Nat->List AV->ASt->MH->Prop,Pv 0 acc ρ M/\(∀ i x acc ρ M,l[i]?=some x->Pv i acc ρ M->G M/\ag x ρ M fun ρ2 M2=>at_ ρ2 M2 fun b M3=>if b=true then tr acc ρ2 M3 (Pv (i+1)) else Pv (i+1) acc ρ2 M3)/\∀ acc ρ M,Pv l.length acc ρ M->G M/\N acc ρ M
variable {at_:AT} {atr:ATR} {G:MH->Prop}
theorem B1 {D:ay} {tr:TR} (hg:yv g ag)(ht:kq tt at_)(hr:Z2 D tr atr) {M1:MH}{l:List AV} (hj:Zk J H1 O1 M1 l G){N':List AV->ASt->MH->Prop}{N:St->Hp->Prop}
 {acc:List AV} (w:Wf H1 O1 M1) (e:Er H1 O1 M1 σ ρ) (o:O1 D) (m:M1 D=none) (hd:H1 D=some (.lst ys)) (r:zj H1 O1 M1 ys acc) (q:Xd ag at_ atr G N' l acc ρ M1)
  (k:∀ acc' ρ' M' σ' H' O' ys',N' acc' ρ' M'->vV D H1 O1 M1 H' O' M'->Wf H' O' M'->Er H' O' M' σ' ρ'->O' D->M' D=none->H' D=some (.lst ys')->zj H' O' M' ys' acc'->N σ' H'):CL J g tt tr N σ H1:=by
 obtain ⟨Pv,p0,ps,pd⟩:=q
 refine ⟨fun i n σ H=>n=l.length - i/\i<=l.length/\∃ O ρ M acc ys,Wf H O M/\Er H O M σ ρ/\vV D H1 O1 M1 H O M/\O D/\M D=none/\H D=some (.lst ys)/\zj H O M ys acc/\Pv i acc ρ M,
  ⟨l.length,by simp,cn _,O1,ρ,M1,acc,ys,w,e,Ext.refl.x,o,m,hd,r,p0⟩,?_⟩
 rintro i n σ H ⟨rfl,hi,O,ρ,M,acc,ys,w,e,x,o,m,hd,r,hf⟩
 by_cases hil:i<l.length
 ·have hy:l[i]?=some l[i]:=aj hil
  obtain ⟨hG,q2⟩:=ps i l[i] acc ρ M hy hf
  obtain ⟨j1,j2⟩:=(hj H O M x.fix x.mst w hG i).2 l[i] hy
  refine .inr ⟨j1,fun σ' H'=>∃ O ρ M acc ys,Wf H' O M/\Er H' O M σ' ρ/\vV D H1 O1 M1 H' O M/\O D/\M D=none/\H' D=some (.lst ys)/\zj H' O M ys acc/\Pv (i+1) acc ρ M,fun σ' H' z=>⟨l.length - (i+1),by omega,rfl,hil,z⟩,fun v H' hv=>?_⟩
  obtain ⟨k2,w2,r2⟩:=j2 v H' hv
  refine hg.go w2 (e.ext k2) r2 q2 fun σ3 H3 O3 ρ3 M3 q3 k3 w3 e3=>?_
  refine ht.go w3 e3 q3 fun b M4 H4 O4 q4 k4 w4=>?_
  have k24:=(k2.trans k3).trans k4
  obtain ⟨d4,o4,m4⟩:=k24.prv D o m
  have r4:=r.ext k24
  cases b with
  | true=>
   exact hr.go w4 (e3.ext k4) o4 m4 (d4.trans hd) r4 q4 fun acc' ρ' M' σ' H' O' ys' q5 k5 w5 e5 o5 m5 d5 r5=>⟨O',ρ',M',acc',ys',w5,e5,(x.trans k24.x).trans k5,o5,m5,d5,r5,q5⟩
  | false=>
   exact ⟨O4,ρ3,M4,acc,ys,w4,e3.ext k4,x.trans k24.x,o4,m4,d4.trans hd,r4,q4⟩
 ·have e0:i=l.length:=by omega
  subst e0
  obtain ⟨hG,q2⟩:=pd acc ρ M hf
  exact .inl ⟨(hj H O M x.fix x.mst w hG l.length).1 rfl,k _ _ _ _ _ _ _ q2 x w e o m hd r⟩
noncomputable def Yv (ai:AI)(ag:AG)(at_:AT)(atr:ATR):ATR:=fun acc ρ M N=>ai ρ M fun l G M1=>Xd ag at_ atr G N l acc ρ M1
theorem Qy {D:ay} {tr:ay->TR} (hi:ZT wi ai)(hg:yv g ag)(ht:kq tt at_)(hr:Z2 D (tr D) atr):Z2 D (QW wi g tt tr D) (Yv ai ag at_ atr):=⟨fun w e o m hd r q k=>by
 refine hi.go w e q fun l G M1 J H1 O1 q1 k1 w1 hj=>?_
 obtain ⟨d1,o1,m1⟩:=k1.prv D o m
 exact B1 hg ht hr hj w1 (e.ext k1) o1 m1 (d1.trans hd) (r.ext k1) q1 fun acc' ρ' M' σ' H' O' ys' q5 k5 w5 e5 o5 m5 d5 r5=>k _ _ _ _ _ _ _ q5 (k1.x.trans k5) w5 e5 o5 m5 d5 r5⟩
noncomputable def Vh (ts:List Nat)(ai:AI)(ag:AG)(at_:AT)(atr:ATR):AF:=fun ρ M Q=>ai ρ M fun l G M1=>Xd ag at_ atr G (fun acc _ M'=>Q acc M') l [] (FU ts ρ) M1
theorem Zq {tr:ay->TR} (hi:ZT wi ai)(hg:yv g ag)(ht:kq tt at_)(hr:∀ D,Z2 D (tr D) atr):ZW (ZK ts wi g tt tr) (Vh ts ai ag at_ atr):=⟨fun {σ H O ρ M Q Q'} w e q k=>by
 refine hi.go w e q fun l G M1 J H1 O1 q1 k1 w1 hj D hD=>?_
 have kp:=qw w1 hD (.lst [])
 have hj':Zk J (upd H1 D (.lst [])) (vY O1 D) M1 l G:=fun H' O' M' fix mst w' hG=>hj H' O' M' (fun a o ha ho=>fix a o (kp.fix a o ha ho).2 (kp.fix a o ha ho).1) mst w' hG
 refine B1 hg ht (hr D) hj' (j9 w1 hD _ (fun _ z=>nomatch z)) (((e.ext k1).clr ts).ext kp) (.inl rfl) (w1.fresh hD).2 zi .nil q1 fun acc' ρ' M' σ' H' O' ys' q5 k5 w5 e5 o5 m5 d5 r5=>?_
 have hH:=xu w1 k1 hD
 refine k _ _ _ _ _ _ q5 ⟨fun a o ha ho=>?_,fun a ha hm=>?_,fun a hm=>k5.mst a (k1.mst a hm)⟩ w5 o5 m5 hH d5 r5
 ·obtain ⟨x1,x2⟩:=(k1.trans kp).fix a o ha ho
  exact k5.fix a o x2 x1
 ·obtain ⟨x1,x2,x3⟩:=(k1.trans kp).prv a ha hm
  obtain ⟨y1,y2,y3⟩:=k5.prv a (fun z=>w.ne a ha (by rw [z];exact hH)) x2 x3
  exact ⟨y1.trans x1,y2,y3⟩⟩
variable {ae:AE}
theorem WP (hi:ZT wi ai)(hg:yv g ag)(ht:kq tt at_)(he:zH te ae):ZW (K0 ts wi g tt te) (Vh ts ai ag at_ (yS ae)):=
 ⟨fun w e q k=>(Zq (ts:=ts) (tr:=ww te) hi hg ht fun D=>Zn he).go w e q k⟩
noncomputable def aI (C:Int->Int->Prop)(g:Int->Int->Dat):AR2:=fun x y M Q=>∃ i j,x=.d (.int i)/\y=.d (.int j)/\C i j/\Q (.d (g i j)) M
noncomputable def aI0 (g:Int->Int->Dat):AR2:=fun x y M Q=>∃ i j,x=.d (.int i)/\y=.d (.int j)/\Q (.d (g i j)) M
theorem L9 {C:Int->Int->Prop}{f:Int->Int->Int}:vJ (rI C fun i j=>.int (f i j)) (aI C fun i j=>.int (f i j)):=⟨fun w r1 r2 ⟨i,j,e1,e2,c,q⟩ k=>by
 subst e1 e2;exact ⟨i,j,zQ r1,zQ r2,c,k _ _ _ _ _ q .refl w .int⟩⟩
theorem Gf {f:Int->Int->Int}:vJ (rI0 fun i j=>.int (f i j)) (aI0 fun i j=>.int (f i j)):=⟨fun w r1 r2 ⟨i,j,e1,e2,q⟩ k=>by
 subst e1 e2;exact ⟨i,j,zQ r1,zQ r2,k _ _ _ _ _ q .refl w .int⟩⟩
theorem Dt {f:Int->Int->Bool}:vJ (rI0 fun i j=>.bl (f i j)) (aI0 fun i j=>.bl (f i j)):=⟨fun w r1 r2 ⟨i,j,e1,e2,q⟩ k=>by
 subst e1 e2;exact ⟨i,j,zQ r1,zQ r2,k _ _ _ _ _ q .refl w .bl⟩⟩
theorem Hw {f:Int->Int->Int}:IF (ipI f) (aI0 fun i j=>.int (f i j)):=⟨fun w r1 r2 ⟨i,j,e1,e2,q⟩ k=>by
 subst e1 e2;exact ⟨i,j,zQ r1,zQ r2,k _ _ _ _ _ q .refl w .int⟩⟩
noncomputable def aU (g:Int->Dat):AV->MH->AK->Prop:=fun x M Q=>∃ i,x=.d (.int i)/\Q (.d (g i)) M
theorem Me {f:Int->Int}:Oc (rU fun i=>.int (f i)) (aU fun i=>.int (f i)):=⟨fun w r1 ⟨i,e1,q⟩ k=>by
 subst e1;exact ⟨i,zQ r1,k _ _ _ _ _ q .refl w .int⟩⟩
noncomputable def eqS:Dat->Dat->Option Bool
 | .non,.non=>some true | .non,.int _=>some false | .int _,.non=>some false | .non,.bl _=>some false | .bl _,.non=>some false | .non,.str _=>some false | .str _,.non=>some false
 | .int i,.int j=>some (decide (i=j)) | .bl a,.bl b=>some (decide (a=b)) | .str a,.str b=>some (decide (a=b))
 | .int _,.str _=>some false | .str _,.int _=>some false | .bl _,.str _=>some false | .str _,.bl _=>some false
 | _,_=>none
noncomputable def jX:AV->Bool
 | .d .non=>true
 | _=>false
theorem Kb {H:Hp}{O:Own}{M:MH}{v:V}{x:AV}(r:zo H O M v x):decide (v=V.non)=jX x:=by
 cases x with
 | ref a=>rw [r.1];rfl
 | tp l=>obtain ⟨_,_,e,_⟩:=r;rw [e];rfl
 | d x=>cases (show Rep H O v x from r) <;> rfl
noncomputable def Dx (f:Bool->Bool):AR2:=fun x y M Q=>y=.d .non/\Q (.d (.bl (f (jX x)))) M
theorem Hh:vJ (fun x y H Q=>y=V.non/\Q (V.bl (decide (x=V.non))) H) (Dx id):=⟨fun w r1 r2 ⟨e,q⟩ k=>by
 subst e;exact ⟨v7 r2,by rw [Kb r1];exact k _ _ _ _ _ q .refl w .bl⟩⟩
theorem D1:vJ (fun x y H Q=>y=V.non/\Q (V.bl (!decide (x=V.non))) H) (Dx not):=⟨fun w r1 r2 ⟨e,q⟩ k=>by
 subst e;exact ⟨v7 r2,by rw [Kb r1];exact k _ _ _ _ _ q .refl w .bl⟩⟩
theorem Jd {H:Hp}{O:Own}{M:MH}{xs:List V}{l:List AV}(r:zj H O M xs l){i:Int}{x:AV}(h:atI l i=some x):∃ v,atI xs i=some v/\zo H O M v x:=by
 unfold atI at h ⊢
 rw [r.1]
 cases e:ixN l.length i with
 | none=>rw [e] at h;cases h
 | some j=>rw [e] at h;exact r.get h
noncomputable def aIx (s:AV->MH->Option (List AV)):AR2:=fun x y M Q=>∃ l i z,s x M=some l/\y=.d (.int i)/\atI l i=some z/\Q z M
theorem Gv:vJ (FX K) (aIx qN):=⟨fun w r1 r2 ⟨l,i,z,h,e,hz,q⟩ k=>by
 subst e
 obtain ⟨a,xs,rfl,h1,r⟩:=qz w r1 h
 obtain ⟨v,hv,rv⟩:=Jd r hz
 exact ⟨a,xs,i,v,rfl,zQ r2,SqL.of h1,hv,k _ _ _ _ _ q .refl w rv⟩⟩
theorem FI:vJ (MG K) (aIx fun x _=>F5 x):=⟨fun w r1 r2 ⟨l,i,z,h,e,hz,q⟩ k=>by
 subst e
 obtain ⟨a,xs,rfl,h1,r⟩:=jU r1 h
 obtain ⟨v,hv,rv⟩:=Jd r hz
 exact ⟨a,xs,i,v,rfl,zQ r2,SqT.of h1,hv,k _ _ _ _ _ q .refl w rv⟩⟩
theorem Bl:vJ (Yy K) (aIx qK):=⟨fun w r1 r2 ⟨l,i,z,h,e,hz,q⟩ k=>by
 subst e
 obtain ⟨a,xs,rfl,h1,r⟩:=QQ w r1 h
 obtain ⟨v,hv,rv⟩:=Jd r hz
 exact ⟨a,xs,i,v,rfl,zQ r2,h1.elim (fun h=>.inl (SqL.of h)) (fun h=>.inr (SqT.of h)),hv,k _ _ _ _ _ q .refl w rv⟩⟩
structure Dq (r:R2)(a:AV->AV->MH->(List AV->Prop)->Prop):Prop where
 go:∀ {x y:V} {dx dy:AV} {H:Hp} {O:Own} {M:MH} {Q:VK} {Q':List AV->Prop},Wf H O M->zo H O M x dx->zo H O M y dy->a dx dy M Q'->(∀ l ys,Q' l->zj H O M ys l->∀ p,H p=none->Q (.ref p) (upd H p (.lst ys)))->r x y H Q
noncomputable def fOp (r:AV->AV->MH->(List AV->Prop)->Prop)(a b:AE):AF:=fun ρ M Q=>a ρ M fun x M1=>b ρ M1 fun y M2=>r x y M2 fun l=>Q l M2
theorem Vi {ra:AV->AV->MH->(List AV->Prop)->Prop}{t u:TE}{a b:AE}(hr:Dq r ra)(h1:zH t a)(h2:zH u b):ZW (tOp r t u) (fOp ra a b):=
 ⟨fun w e q k=>h1.go w e q fun x M1 v H1 O1 q1 k1 w1 r1=>h2.go w1 (e.ext k1) q1 fun y M2 u H2 O2 q2 k2 w2 r2=>hr.go w2 (r1.ext k2) r2 q2 fun l ys q3 r3 p hp=>
  k l M2 p ys _ _ q3 ((k1.trans k2).trans (qw w2 hp _)) (j9 w2 hp _ (fun _ z=>nomatch z)) (.inl rfl) (w2.fresh hp).2 (xu w2 (k1.trans k2) hp) zi (r3.ext (qw w2 hp _))⟩
noncomputable def Oa:AV->AV->MH->(List AV->Prop)->Prop:=fun x y M Q=>∃ l m,qN x M=some l/\qN y M=some m/\l.length+m.length<=aT/\Q (l ++ m)
theorem Bt:Dq Nw Oa:=⟨fun w r1 r2 ⟨l,m,h1,h2,hs,q⟩ k=>by
 obtain ⟨a,xs,rfl,e1,p1⟩:=qz w r1 h1
 obtain ⟨b,ys,rfl,e2,p2⟩:=qz w r2 h2
 exact ⟨a,b,xs,ys,rfl,rfl,e1,e2,by rw [p1.1,p2.1];exact hs,k _ _ q (p1.append p2)⟩⟩
theorem zj.rep {H:Hp}{O:Own}{M:MH}{xs:List V}{l:List AV}(a:zj H O M xs l):∀ k:Nat,zj H O M (aG k xs).flatten (aG k l).flatten
 | 0=>.nil
 | k+1=>by rw [dG,dG,dE,dE];exact a.append (zj.rep a k)
noncomputable def NF:AV->AV->MH->(List AV->Prop)->Prop:=fun x y M Q=>∃ l k,qN x M=some l/\y=.d (.int k)/\-(2 ^ 63)<=k/\k<2 ^ 63/\l.length * k.toNat<=aT/\Q (aG k.toNat l).flatten
theorem Ko:Dq Hj NF:=⟨fun w r1 r2 ⟨l,n,h1,e,b1,b2,hs,q⟩ k=>by
 subst e
 obtain ⟨a,xs,rfl,e1,p1⟩:=qz w r1 h1
 exact ⟨a,n,xs,rfl,zQ r2,e1,b1,b2,by rw [p1.1];exact hs,k _ _ q (p1.rep _)⟩⟩
abbrev AO:=ASt->MH->(Option Int->MH->Prop)->Prop
structure ZM (t:TO)(a:AO):Prop where
 go:∀ {σ:St} {H:Hp} {O:Own} {ρ:ASt} {M:MH} {Q:Option Int->Hp->Prop} {Q':Option Int->MH->Prop},Wf H O M->Er H O M σ ρ->a ρ M Q'->(∀ x M' H' O',Q' x M'->Ext H O M H' O' M'->Wf H' O' M'->Q x H')->t σ H Q
noncomputable def N3:AO:=fun _ M Q=>Q none M
noncomputable def Iu (a:AE):AO:=fun ρ M Q=>a ρ M fun x M1=>∃ i,x=.d (.int i)/\Q (some i) M1
theorem Hk:ZM JF N3:=⟨fun w _ q k=>k _ _ _ _ q .refl w⟩
theorem D0 {t:TE}{a:AE}(h:zH t a):ZM (EI t) (Iu a):=⟨fun w e q k=>h.go w e q fun x M1 v H1 O1 ⟨i,e1,q1⟩ k1 w1 r1=>by
 subst e1;exact ⟨i,zQ r1,k _ _ _ _ q1 k1 w1⟩⟩
noncomputable def yH {α:Type}(xs:List α)(lo hi:Option Int):List α:=(xs.drop (HT.sIx xs.length 0 lo)).take (HT.sIx xs.length xs.length hi - HT.sIx xs.length 0 lo)
theorem zj.cut {l:List AV}(a:zj H O M xs l)(lo hi:Option Int):zj H O M (ZP xs lo hi) (yH l lo hi):=by
 unfold ZP yH
 rw [a.1]
 exact (a.drop _).take _
theorem Zf {α β:Type}(f:α->β)(l:List α)(lo hi:Option Int):yH (l.map f) lo hi=(yH l lo hi).map f:=by
 unfold yH
 rw [am,<- fA,<- nu]
noncomputable def fSl (a:AE)(lo hi:AO):AF:=fun ρ M Q=>a ρ M fun x M1=>lo ρ M1 fun i M2=>hi ρ M2 fun j M3=>∃ l,qN x M3=some l/\Q (yH l i j) M3
theorem F6 {t:TE}{tl th:TO}{a:AE}{lo hi:AO}(h1:zH t a)(h2:ZM tl lo)(h3:ZM th hi):ZW (tSl (G2 K) t tl th) (fSl a lo hi):=
 ⟨fun w e q k=>h1.go w e q fun x M1 v H1 O1 q1 k1 w1 r1=>h2.go w1 (e.ext k1) q1 fun i M2 H2 O2 q2 k2 w2=>h3.go w2 (e.ext (k1.trans k2)) q2 fun j M3 H3 O3 ⟨l,hl,q3⟩ k3 w3=>by
  obtain ⟨a,xs,rfl,e1,p1⟩:=qz w3 (r1.ext (k2.trans k3)) hl
  exact ⟨a,xs,rfl,SqL.of e1,fun p hp=>k _ _ p _ _ _ q3 (((k1.trans k2).trans k3).trans (qw w3 hp _)) (j9 w3 hp _ (fun _ z=>nomatch z)) (.inl rfl) (w3.fresh hp).2 (xu w3 ((k1.trans k2).trans k3) hp) zi ((p1.cut i j).ext (qw w3 hp _))⟩⟩
theorem QK (w:Wf H O M) (hp:H p=none) {l:List Dat}(r:zj H O M xs (l.map .d)):zo (upd H p (.tup xs)) O M (.ref p) (.d (.tup l)):=
 have r2:=r.pure
 Rep.tup (w.fresh hp).1 zi r2.1 fun i x d e1 e2=>(r2.2 i x d e1 e2).ext (qj w hp _)
noncomputable def ON (a:AE)(lo hi:AO):AE:=fun ρ M Q=>a ρ M fun x M1=>lo ρ M1 fun i M2=>hi ρ M2 fun j M3=>∃ l,x=.d (.tup l)/\¬ (HT.sIx l.length 0 i=0/\HT.sIx l.length l.length j=l.length)/\Q (.d (.tup (yH l i j))) M3
theorem GR {t:TE}{tl th:TO}{a:AE}{lo hi:AO}(h1:zH t a)(h2:ZM tl lo)(h3:ZM th hi):zH (tSl (OC K) t tl th) (ON a lo hi):=
 ⟨fun w e q k=>h1.go w e q fun x M1 v H1 O1 q1 k1 w1 r1=>h2.go w1 (e.ext k1) q1 fun i M2 H2 O2 q2 k2 w2=>h3.go w2 (e.ext (k1.trans k2)) q2 fun j M3 H3 O3 ⟨l,hl,hn,q3⟩ k3 w3=>by
  subst hl
  obtain ⟨a,xs,rfl,e1,p1⟩:=jU (l:=l.map .d) (r1.ext (k2.trans k3)) rfl
  have l1:=p1.1
  rw [am] at l1
  refine ⟨a,xs,rfl,SqT.of e1,by rw [l1];exact hn,fun p hp=>?_⟩
  have p2:=p1.cut i j
  rw [Zf] at p2
  exact k _ _ _ _ _ q3 (((k1.trans k2).trans k3).trans (qj w3 hp _)) (jS w3 hp _) (QK w3 hp p2)⟩
theorem zj.reverse {l:List AV}(a:zj H O M xs l):zj H O M xs.reverse l.reverse:=
 ⟨by rw [bG,bG,a.1],fun i x d h1 h2=>by
  have hi:=(aA.mp h1).1
  rw [bG] at hi
  rw [cI hi] at h1
  rw [cI (by rw [<- a.1];exact hi),<- a.1] at h2
  exact a.2 _ x d h1 h2⟩
noncomputable def N8 (a:AE)(st:AO):AE:=fun ρ M Q=>a ρ M fun x M1=>st ρ M1 fun i M2=>i=some (-1)/\((∃ m l,qN x M2=some m/\pur m=some l/\Q (.d (.lst l.reverse)) M2) \/ (∃ l,x=.d (.tup l)/\Q (.d (.tup l.reverse)) M2))
theorem Ht {t:TE}{ts:TO}{a:AE}{st:AO}(h1:zH t a)(h2:ZM ts st):zH (Nl K t ts) (N8 a st):=
 ⟨fun w e q k=>h1.go w e q fun x M1 v H1 O1 q1 k1 w1 r1=>h2.go w1 (e.ext k1) q1 fun i M2 H2 O2 ⟨hi,q2⟩ k2 w2=>⟨hi,by
  have k12:=k1.trans k2
  rcases q2 with ⟨m,l,hl,hp,q2⟩ | ⟨l,rfl,q2⟩
  ·rw [kf hp] at hl
   obtain ⟨a,xs,rfl,e1,p1⟩:=qz w2 (r1.ext k2) hl
   have p2:=p1.reverse
   rw [<- fR] at p2
   have p3:=p2.pure
   exact ⟨a,xs,rfl,.inl ⟨SqL.of e1,fun p hp=>k _ _ _ _ _ q2 (k12.trans (qj w2 hp _)) (jS w2 hp _) (Rep.lst (w2.fresh hp).1 zi p3.1 fun i x d e1 e2=>(p3.2 i x d e1 e2).ext (qj w2 hp _))⟩⟩
  ·obtain ⟨a,xs,rfl,e1,p1⟩:=jU (l:=l.map .d) (r1.ext k2) rfl
   have p2:=p1.reverse
   rw [<- fR] at p2
   exact ⟨a,xs,rfl,.inr ⟨SqT.of e1,fun p hp=>k _ _ _ _ _ q2 (k12.trans (qj w2 hp _)) (jS w2 hp _) (QK w2 hp p2)⟩⟩⟩⟩
theorem zj.sl {H:Hp}{O:Own}{M:MH}:∀ (ks:List Nat) {xs:List V} {l:List AV},zj H O M xs l->zj H O M (ks.filterMap fun k=>xs[k]?) (ks.filterMap fun k=>l[k]?)
 | [],_,_,_=>.nil
 | k :: r,xs,l,a=>by
  rw [cw,cw]
  cases e:xs[k]? with
  | none=>
   have:l[k]?=none:=by
    rw [iU,<- a.1]
    exact iU.mp e
   rw [this]
   exact zj.sl r a
  | some v=>
   obtain ⟨d,hd,rd⟩:=a.get' e
   rw [hd]
   exact .cons rd (zj.sl r a)
noncomputable def slA {α:Type}(xs:List α)(lo hi st:Option Int):List α:=(dL (bH lo hi st xs.length).1 (bH lo hi st xs.length).2.1 (bH lo hi st xs.length).2.2).filterMap fun k=>xs[k]?
noncomputable def Oh (a:AE)(lo hi st:AO):AF:=fun ρ M Q=>a ρ M fun x M1=>lo ρ M1 fun i M2=>hi ρ M2 fun j M3=>st ρ M3 fun z M4=>∃ l,qN x M4=some l/\z ≠ some 0/\Q (slA l i j z) M4
theorem Ek {t:TE}{tl th ts:TO}{a:AE}{lo hi st:AO}(h1:zH t a)(h2:ZM tl lo)(h3:ZM th hi)(h4:ZM ts st):ZW (NA K t tl th ts) (Oh a lo hi st):=
 ⟨fun w e q k=>h1.go w e q fun x M1 v H1 O1 q1 k1 w1 r1=>h2.go w1 (e.ext k1) q1 fun i M2 H2 O2 q2 k2 w2=>h3.go w2 (e.ext (k1.trans k2)) q2 fun j M3 H3 O3 q3 k3 w3=>h4.go w3 (e.ext ((k1.trans k2).trans k3)) q3 fun z M4 H4 O4 ⟨l,hl,hz,q4⟩ k4 w4=>by
  obtain ⟨a,xs,rfl,e1,p1⟩:=qz w4 (r1.ext ((k2.trans k3).trans k4)) hl
  have k14:=((k1.trans k2).trans k3).trans k4
  have p2:zj H4 O4 M4 (slV xs i j z) (slA l i j z):=by unfold slV slA;rw [p1.1];exact zj.sl _ p1
  exact ⟨a,xs,rfl,SqL.of e1,hz,fun p hp=>k _ _ p _ _ _ q4 (k14.trans (qw w4 hp _)) (j9 w4 hp _ (fun _ z=>nomatch z)) (.inl rfl) (w4.fresh hp).2 (xu w4 k14 hp) zi (p2.ext (qw w4 hp _))⟩⟩
mutual
noncomputable def eqD:Dat->Dat->Bool
 | .non,.non=>true
 | .bl a,.bl b=>a == b
 | .bl a,.int b=>(if a then 1 else 0) == b
 | .int a,.bl b=>a == (if b then 1 else 0)
 | .int a,.int b=>a == b
 | .str a,.str b=>a == b
 | .lst a,.lst b=>kI a b
 | .tup a,.tup b=>kI a b
 | _,_=>false
noncomputable def kI:List Dat->List Dat->Bool
 | [],[]=>true
 | a :: r,b :: r'=>eqD a b && kI r r'
 | _,_=>false
end
mutual
noncomputable def dp:Dat->Nat
 | .lst l=>dps l+1
 | .tup l=>dps l+1
 | .rng _ _ _=>1000
 | .scr _ _=>1000
 | .ty _=>1000
 | _=>0
noncomputable def dps:List Dat->Nat
 | []=>0
 | a :: r=>max (dp a) (dps r)
end
theorem xE {l:List Dat}{n:Nat}(h:∀ d ∈ l,dp d<=n):dps l<=n:=by
 induction l with
 | nil=>exact cn _
 | cons a r ih=>rw [dps];exact Nat.max_le.mpr ⟨h a (by simp),ih fun d hd=>h d (by simp [hd])⟩
theorem qR {l:List Dat}{d:Dat}(h:d ∈ l):dp d<=dps l:=by
 induction l with
 | nil=>cases h
 | cons a r ih=>
  rw [dps]
  rcases aO.mp h with rfl | h
  ·exact Nat.le_max_left _ _
  ·exact bf (ih h) (oh _ _)
theorem xK:∀ (l m:List Dat),l.length=m.length->kI l m=(bI l.length).all fun j=>eqD (l.getD j .non) (m.getD j .non)
 | [],[],_=>rfl
 | a :: r,b :: r',h=>by
  rw [kI,xK r r' (by simpa using h),aK,List.range_succ_eq_map,eS,List.all_map];rfl
 | [],_ :: _,h=>by simp at h
 | _ :: _,[],h=>by simp at h
theorem xm:∀ (l m:List Dat),l.length ≠ m.length->kI l m=false
 | [],[],h=>absurd rfl h
 | a :: r,b :: r',h=>by rw [kI,xm r r' (fun z=>h (by simp [z])),gI]
 | [],_ :: _,h=>by simp [kI]
 | _ :: _,[],h=>by simp [kI]
theorem DU (l m:List Dat):eqD (.lst l) (.tup m)=false:=by simp [eqD]
theorem EZ (l m:List Dat):eqD (.tup l) (.lst m)=false:=by simp [eqD]
theorem HF {p:Dat->Prop}(h:∀ a,(∀ b,dp b<dp a->p b)->p a)(a:Dat):p a:=by
 have:∀ n a,dp a<=n->p a:=fun n=>by
  induction n with
  | zero=>intro a ha;exact h a fun b hb=>absurd hb (by omega)
  | succ n ih=>intro a ha;exact h a fun b hb=>ih b (by omega)
 exact this (dp a) a (aF _)
theorem Qp {l:List Dat}(h:∀ d ∈ l,eqD d d=true):kI l l=true:=by
 induction l with
 | nil=>rfl
 | cons a r ih=>rw [kI,h a (by simp),ih fun d hd=>h d (by simp [hd])];rfl
theorem wY {a:Dat}:dp a<1000->eqD a a=true:=by
 refine HF (p:=fun a=>dp a<1000->eqD a a=true) (fun a ih ha=>?_) a
 cases a with
 | non=>rfl
 | bl b=>rw [eqD];simp
 | int i=>rw [eqD];simp
 | str x=>rw [eqD];simp
 | lst l=>
  rw [eqD]
  rw [dp] at ha ih
  exact Qp fun d hd=>ih d (by have:=qR hd;omega) (by have:=qR hd;omega)
 | tup l=>
  rw [eqD]
  rw [dp] at ha ih
  exact Qp fun d hd=>ih d (by have:=qR hd;omega) (by have:=qR hd;omega)
 | rng a b c=>rw [dp] at ha;omega
 | scr _ l=>rw [dp] at ha;omega
 | ty l=>rw [dp] at ha;omega
theorem Rep.fn {H:Hp}{O O':Own}{v:V}{a b:Dat}(r:Rep H O v a):Rep H O' v b->dp a<1000->dp b<1000->a=b:=by
 induction r generalizing b with
 | non=>intro r' _ _;cases r';rfl
 | bl=>intro r' _ _;cases r';rfl
 | int=>intro r' _ _;cases r';rfl
 | str=>intro r' _ _;cases r';rfl
 | ty=>intro r' h _;rw [dp] at h;omega
 | rng _ _=>intro r' h _;rw [dp] at h;omega
 | scr _ _=>intro r' h _;rw [dp] at h;omega
 | scrK _=>intro r' h _;rw [dp] at h;omega
 | @lst a xs l o1 h1 l1 r1 ih=>
  intro r' ha hb
  cases r' with
  | @lst _ ys m o2 h2 l2 r2=>
   rw [h1] at h2;cases h2
   congr 1
   refine fS (l1.symm.trans l2) fun i i1 i2=>?_
   have i0:i<xs.length:=by omega
   rw [dp] at ha hb
   refine ih i xs[i] l[i] (by simp [i0]) (by simp [i1]) (r2 i xs[i] m[i] (by simp [i0]) (by simp [i2])) ?_ ?_
   ·have:=qR (bo i1);omega
   ·have:=qR (bo i2);omega
  | @tup _ ys m o2 h2=>rw [h1] at h2;cases h2
  | rng o2 h2=>rw [dp] at hb;omega
  | scr o2 h2=>rw [dp] at hb;omega
  | scrK _=>rw [dp] at hb;omega
 | @tup a xs l o1 h1 l1 r1 ih=>
  intro r' ha hb
  cases r' with
  | @tup _ ys m o2 h2 l2 r2=>
   rw [h1] at h2;cases h2
   congr 1
   refine fS (l1.symm.trans l2) fun i i1 i2=>?_
   have i0:i<xs.length:=by omega
   rw [dp] at ha hb
   refine ih i xs[i] l[i] (by simp [i0]) (by simp [i1]) (r2 i xs[i] m[i] (by simp [i0]) (by simp [i2])) ?_ ?_
   ·have:=qR (bo i1);omega
   ·have:=qR (bo i2);omega
  | @lst _ ys m o2 h2=>rw [h1] at h2;cases h2
  | rng o2 h2=>rw [dp] at hb;omega
  | scr o2 h2=>rw [dp] at hb;omega
  | scrK _=>rw [dp] at hb;omega
section
variable {X:Cx}{pins:List (ay × Obj)}{s:ax}{σ:St}{H:Hp}
theorem xC {us:List aq}(r:zz xs us) (h:j<us.toArray.size):∃ x,xs[j]?=some x/\zE x us.toArray[j]:=by
 have h':j<us.length:=by simpa using h
 have hx:j<xs.length:=by rw [r.length];exact h'
 obtain ⟨u,hu,ru⟩:=r.get (i:=j) (aj hx)
 have e:us.toArray[j]=u:=by
  have:=(aA.mp hu).2
  simpa using this
 exact ⟨xs[j],aj hx,by rw [e];exact ru⟩
theorem AM (I : Inv X pins σ H s){A : bt}{p q : ay}{O O' : Own}{a b : Dat}(ih : ∀ (c d : Dat) (v u : V) (v' u' : aq), dp c < dp a -> Rep H O v c -> Rep H O' u d -> dp d < 1000 -> zE v v' -> zE u u' -> bX A.in1 s v' u' (eqD c d))
    (ra:Rep H O (.ref p) a) (rb:Rep H O' (.ref q) b) (ha:dp a<1000) (hb:dp b<1000) (hu:A.units<mr):gX A s (.ref p) (.ref q) (eqD a b):=by
  cases ra with
  | @lst _ xs l o1 h1 l1 r1=>
    obtain ⟨us,u1,p1,z1⟩:=I.list (SqL.of h1)
    cases rb with
    | @lst _ ys m o2 h2 l2 r2=>
      obtain ⟨ws,u2,p2,z2⟩:=I.list (SqL.of h2)
      have s1:us.toArray.size=l.length:=by rw [aH,<- u1.length,l1]
      have s2:ws.toArray.size=m.length:=by rw [aH,<- u2.length,l2]
      by_cases e:l.length=m.length
      · have h := gX.lists (A := A) (e := fun j => eqD (l.getD j .non) (m.getD j .non)) p1.isList p2.isList (by rw [s1, s2, e]) hu (fun j j1 j2 => by
          obtain ⟨x,hx,rx⟩:=xC u1 j1
          obtain ⟨y,hy,ry⟩:=xC u2 j2
          have k1:j<l.length:=by rw [<- s1];exact j1
          have k2:j<m.length:=by rw [<- s2];exact j2
          rw [dp] at ha hb ih
          refine ih _ _ x y _ _ ?_ (r1 j x _ hx ?_) (r2 j y _ hy ?_) ?_ rx ry
          · rw [af,aj k1]
            have:=qR (bo k1);show dp l[j]<_;omega
          · rw [af,aj k1];rfl
          · rw [af,aj k2];rfl
          · rw [af,aj k2]
            have:=qR (bo k2);show dp m[j]<_;omega)
        rw [s1,<- xK l m e] at h
        rw [eqD];exact h
      · rw [eqD,xm l m e]
        exact gX.lists_lengths p1.isList p2.isList (by rw [s1,s2];simpa using e) hu
    | @tup _ ys m o2 h2 l2 r2=>
      obtain ⟨ws,u2,p2,z2⟩:=I.tuple (SqT.of h2)
      rw [DU]
      exact gX.list_tuple p1.isList p2 hu
    | rng o2 h2=>rw [dp] at hb;omega
    | scr o2 h2=>rw [dp] at hb;omega
    | scrK _=>rw [dp] at hb;omega
  | @tup _ xs l o1 h1 l1 r1=>
    obtain ⟨us,u1,p1,z1⟩:=I.tuple (SqT.of h1)
    cases rb with
    | @tup _ ys m o2 h2 l2 r2=>
      obtain ⟨ws,u2,p2,z2⟩:=I.tuple (SqT.of h2)
      have s1:us.toArray.size=l.length:=by rw [aH,<- u1.length,l1]
      have s2:ws.toArray.size=m.length:=by rw [aH,<- u2.length,l2]
      have h := gX.tuples (A := A) (e := fun j => eqD (l.getD j .non) (m.getD j .non)) (show s.heap.IsTuple p us.toArray from p1) (show s.heap.IsTuple q ws.toArray from p2) hu (fun j j1 j2 => by
          obtain ⟨x,hx,rx⟩:=xC u1 j1
          obtain ⟨y,hy,ry⟩:=xC u2 j2
          have k1:j<l.length:=by rw [<- s1];exact j1
          have k2:j<m.length:=by rw [<- s2];exact j2
          rw [dp] at ha hb ih
          refine ih _ _ x y _ _ ?_ (r1 j x _ hx ?_) (r2 j y _ hy ?_) ?_ rx ry
          · rw [af,aj k1]
            have:=qR (bo k1);show dp l[j]<_;omega
          · rw [af,aj k1];rfl
          · rw [af,aj k2];rfl
          · rw [af,aj k2]
            have:=qR (bo k2);show dp m[j]<_;omega)
      rw [s1,s2] at h
      rw [eqD]
      by_cases e:l.length=m.length
      · rw [<- e,Nat.min_self,beq_self_eq_true,nv,<- xK l m e] at h
        exact h
      · rw [xm l m e]
        rw [show (l.length == m.length)=false by simpa using e,gI] at h
        exact h
    | @lst _ ys m o2 h2 l2 r2=>
      obtain ⟨ws,u2,p2,z2⟩:=I.list (SqL.of h2)
      rw [EZ]
      exact gX.tuple_list p1 p2.isList hu
    | rng o2 h2=>rw [dp] at hb;omega
    | scr o2 h2=>rw [dp] at hb;omega
    | scrK _=>rw [dp] at hb;omega
  | rng o2 h2=>rw [dp] at ha;omega
  | scr o2 h2=>rw [dp] at ha;omega
  | scrK _=>rw [dp] at ha;omega
theorem Pe (I:Inv X pins σ H s) (h:H a=some (.lst xs)):∃ us,s.heap.IsList a us:=let ⟨_,_,p,_⟩:=I.list (SqL.of h);⟨_,p.isList⟩
theorem Pg (I:Inv X pins σ H s) (h:H a=some (.tup xs)):∃ us,s.heap.IsTuple a us:=let ⟨_,_,p,_⟩:=I.tuple (SqT.of h);⟨_,p⟩
local macro_rules | `(tactic| walk_at "sc")=>`(tactic| first
 | with_reducible exact .same _ | with_reducible exact .none_none | with_reducible exact .none_bool _ | with_reducible exact .none_int _ _ | with_reducible exact .none_str _ _ | with_reducible exact .bool_none _ | with_reducible exact .bool_bool _ _ | with_reducible exact .bool_int _ _ _ | with_reducible exact .bool_str _ _ _ | with_reducible exact .int_none _ _ | with_reducible exact .int_bool _ _ _ | with_reducible exact .int_int _ _ _ _ | with_reducible exact .int_str _ _ _ _ | with_reducible exact .str_none _ _ | with_reducible exact .str_bool _ _ _ | with_reducible exact .str_int _ _ _ _ | with_reducible exact .str_str _ _ _ _)
theorem ls_ (I:Inv X pins σ H s) (h:H a=some (.lst xs)):s.heap.IsList a (gW (Pe I h)):=gO _
theorem ts_ (I:Inv X pins σ H s) (h:H a=some (.tup xs)):s.heap.IsTuple a (gW (Pg I h)):=gO _
local macro_rules | `(tactic| walk_at "sq")=>`(tactic| first
 | with_reducible exact .none_list (ls_ (by assumption) (by assumption)) (by assumption) | with_reducible exact .bool_list _ (ls_ (by assumption) (by assumption)) (by assumption) | with_reducible exact .int_list _ _ (ls_ (by assumption) (by assumption)) (by assumption) | with_reducible exact .str_list _ _ (ls_ (by assumption) (by assumption)) (by assumption) | with_reducible exact .list_none (ls_ (by assumption) (by assumption)) (by assumption) | with_reducible exact .list_bool _ (ls_ (by assumption) (by assumption)) (by assumption) | with_reducible exact .list_int _ _ (ls_ (by assumption) (by assumption)) (by assumption) | with_reducible exact .list_str _ _ (ls_ (by assumption) (by assumption)) (by assumption)
 | with_reducible exact .none_tuple (ts_ (by assumption) (by assumption)) (by assumption) | with_reducible exact .bool_tuple _ (ts_ (by assumption) (by assumption)) (by assumption) | with_reducible exact .int_tuple _ _ (ts_ (by assumption) (by assumption)) (by assumption) | with_reducible exact .str_tuple _ _ (ts_ (by assumption) (by assumption)) (by assumption) | with_reducible exact .tuple_none (ts_ (by assumption) (by assumption)) (by assumption) | with_reducible exact .tuple_bool _ (ts_ (by assumption) (by assumption)) (by assumption) | with_reducible exact .tuple_int _ _ (ts_ (by assumption) (by assumption)) (by assumption) | with_reducible exact .tuple_str _ _ (ts_ (by assumption) (by assumption)) (by assumption))
theorem YD (I : Inv X pins σ H s){O O' : Own}(A : bt)(hu : A.units < mr)(a b : Dat)(v u : V)(v' u' : aq)(ha : dp a < 1000)(ra : Rep H O v a)(rb : Rep H O' u b)(hb : dp b < 1000)(rv : zE v v')(ru : zE u u')
    (ih:∀ (c d:Dat) (v u:V) (v' u':aq),dp c<dp a->Rep H O v c->Rep H O' u d->dp d<1000->zE v v'->zE u u'->bX A.in1 s v' u' (eqD c d)):bX A s v' u' (eqD a b):=by
  by_cases hr:∃ p q,v=.ref p/\u=.ref q
  · obtain ⟨p,q,rfl,rfl⟩:=hr
    cases rv
    cases ru
    by_cases e:p=q
    · subst e
      rw [<- ra.fn rb ha hb,wY ha]
      exact .same _
    · exact .of_refs e (AM I ih ra rb ha hb hu)
  · cases ra <;> cases rb <;> first
      | with_reducible exact absurd ⟨_,_,rfl,rfl⟩ hr
      | (rw [dp] at ha;omega)
      | (rw [dp] at hb;omega)
      | ((first | (obtain ⟨t0,rfl⟩:=rv) | cases rv);(first | (obtain ⟨t1,rfl⟩:=ru) | cases ru);simp only [eqD,iK,hX];first | walk_at "sc" | walk_at "sq")
theorem DA (I:Inv X pins σ H s){O O':Own}:∀ (n:Nat) (A:bt),A.units+n<mr->∀ (a b:Dat) (v u:V) (v' u':aq),dp a<=n->n<1000->Rep H O v a->Rep H O' u b->dp b<1000->zE v v'->zE u u'->bX A s v' u' (eqD a b):=by
 intro n
 induction n with
 | zero=>
  intro A hu a b v u v' u' ha _ ra rb hb rv ru
  exact YD I A (by omega) a b v u v' u' (by omega) ra rb hb rv ru fun _ _ _ _ _ _ h=>absurd h (by omega)
 | succ n ih=>
  intro A hu a b v u v' u' ha hn ra rb hb rv ru
  exact YD I A (by omega) a b v u v' u' (by omega) ra rb hb rv ru fun c d x y x' y' hc rc rd hd rx ry=>ih A.in1 (by show A.units+1+n<_;omega) c d x y x' y' (by omega) (by omega) rc rd hd rx ry
noncomputable def LR (f:Bool->Bool):R2:=fun x y H Q=>∃ O O' a b,Rep H O x a/\Rep H O' y b/\dp a<=40/\dp b<=40/\Q (.bl (f (eqD a b))) H
theorem Mh (I:Inv X pins σ H s) (A:bt)(hu:A.units+41<mr)(a b:Dat)(v u:V)(v' u':aq)(ha:dp a<=40)(ra:Rep H O v a)(rb:Rep H O' u b)(hb:dp b<=40)(rv:zE v v')(ru:zE u u'):gX A s v' u' (eqD a b):=by
  have ih:∀ (c d:Dat) (v u:V) (v' u':aq),dp c<dp a->Rep H O v c->Rep H O' u d->dp d<1000->zE v v'->zE u u'->bX A.in1 s v' u' (eqD c d):=fun c d v u v' u' hc rc rd hd rv ru=>DA I 40 A.in1 (by show A.units+1+40<_;omega) c d v u v' u' (by omega) (by omega) rc rd hd rv ru
  replace hu:A.units<mr:=by omega
  by_cases hr:∃ p q,v=.ref p/\u=.ref q
  · obtain ⟨p,q,rfl,rfl⟩:=hr
    cases rv
    cases ru
    exact AM I ih ra rb (by omega) (by omega) hu
  · cases ra <;> cases rb <;> first
      | with_reducible exact absurd ⟨_,_,rfl,rfl⟩ hr
      | (rw [dp] at ha;omega)
      | (rw [dp] at hb;omega)
      | ((first | (obtain ⟨t0,rfl⟩:=rv) | cases rv);(first | (obtain ⟨t1,rfl⟩:=ru) | cases ru);simp only [eqD,iK,hX];first | walk_at "sc" | walk_at "sq")
theorem Da (I : Inv X pins σ H s){A : bt}{p q : ay}{O O' : Own}{a b : Dat}(ih : ∀ (c d : Dat) (v u : V) (v' u' : aq), dp c < dp a -> Rep H O v c -> Rep H O' u d -> dp d < 1000 -> zE v v' -> zE u u' -> bX A.in1 s v' u' (eqD c d))
    (ra:Rep H O (.ref p) a) (rb:Rep H O' (.ref q) b) (ha:dp a<1000) (hb:dp b<1000) (hu:A.units<mr):fT A s (.ref p) (.ref q) (!(eqD a b)):=by
  cases ra with
  | @lst _ xs l o1 h1 l1 r1=>
    obtain ⟨us,u1,p1,z1⟩:=I.list (SqL.of h1)
    cases rb with
    | @lst _ ys m o2 h2 l2 r2=>
      obtain ⟨ws,u2,p2,z2⟩:=I.list (SqL.of h2)
      have s1:us.toArray.size=l.length:=by rw [aH,<- u1.length,l1]
      have s2:ws.toArray.size=m.length:=by rw [aH,<- u2.length,l2]
      by_cases e:l.length=m.length
      · have h := fT.lists (A := A) (e := fun j => eqD (l.getD j .non) (m.getD j .non)) p1.isList p2.isList (by rw [s1, s2, e]) hu (fun j j1 j2 => by
          obtain ⟨x,hx,rx⟩:=xC u1 j1
          obtain ⟨y,hy,ry⟩:=xC u2 j2
          have k1:j<l.length:=by rw [<- s1];exact j1
          have k2:j<m.length:=by rw [<- s2];exact j2
          rw [dp] at ha hb ih
          refine ih _ _ x y _ _ ?_ (r1 j x _ hx ?_) (r2 j y _ hy ?_) ?_ rx ry
          · rw [af,aj k1]
            have:=qR (bo k1);show dp l[j]<_;omega
          · rw [af,aj k1];rfl
          · rw [af,aj k2];rfl
          · rw [af,aj k2]
            have:=qR (bo k2);show dp m[j]<_;omega)
        rw [s1,<- xK l m e] at h
        rw [eqD];exact h
      · rw [eqD,xm l m e]
        exact fT.lists_lengths p1.isList p2.isList (by rw [s1,s2];simpa using e) hu
    | @tup _ ys m o2 h2 l2 r2=>
      obtain ⟨ws,u2,p2,z2⟩:=I.tuple (SqT.of h2)
      rw [DU]
      exact fT.list_tuple p1.isList p2 hu
    | rng o2 h2=>rw [dp] at hb;omega
    | scr o2 h2=>rw [dp] at hb;omega
    | scrK _=>rw [dp] at hb;omega
  | @tup _ xs l o1 h1 l1 r1=>
    obtain ⟨us,u1,p1,z1⟩:=I.tuple (SqT.of h1)
    cases rb with
    | @tup _ ys m o2 h2 l2 r2=>
      obtain ⟨ws,u2,p2,z2⟩:=I.tuple (SqT.of h2)
      have s1:us.toArray.size=l.length:=by rw [aH,<- u1.length,l1]
      have s2:ws.toArray.size=m.length:=by rw [aH,<- u2.length,l2]
      have h := fT.tuples (A := A) (e := fun j => eqD (l.getD j .non) (m.getD j .non)) (show s.heap.IsTuple p us.toArray from p1) (show s.heap.IsTuple q ws.toArray from p2) hu (fun j j1 j2 => by
          obtain ⟨x,hx,rx⟩:=xC u1 j1
          obtain ⟨y,hy,ry⟩:=xC u2 j2
          have k1:j<l.length:=by rw [<- s1];exact j1
          have k2:j<m.length:=by rw [<- s2];exact j2
          rw [dp] at ha hb ih
          refine ih _ _ x y _ _ ?_ (r1 j x _ hx ?_) (r2 j y _ hy ?_) ?_ rx ry
          · rw [af,aj k1]
            have:=qR (bo k1);show dp l[j]<_;omega
          · rw [af,aj k1];rfl
          · rw [af,aj k2];rfl
          · rw [af,aj k2]
            have:=qR (bo k2);show dp m[j]<_;omega)
      rw [s1,s2] at h
      rw [eqD]
      by_cases e:l.length=m.length
      · rw [<- e,Nat.min_self,beq_self_eq_true,nv,<- xK l m e] at h
        exact h
      · rw [xm l m e]
        rw [show (l.length == m.length)=false by simpa using e,gI] at h
        exact h
    | @lst _ ys m o2 h2 l2 r2=>
      obtain ⟨ws,u2,p2,z2⟩:=I.list (SqL.of h2)
      rw [EZ]
      exact fT.tuple_list p1 p2.isList hu
    | rng o2 h2=>rw [dp] at hb;omega
    | scr o2 h2=>rw [dp] at hb;omega
    | scrK _=>rw [dp] at hb;omega
  | rng o2 h2=>rw [dp] at ha;omega
  | scr o2 h2=>rw [dp] at ha;omega
  | scrK _=>rw [dp] at ha;omega
theorem Ep (I:Inv X pins σ H s) (A:bt)(hu:A.units+41<mr)(a b:Dat)(v u:V)(v' u':aq)(ha:dp a<=40)(ra:Rep H O v a)(rb:Rep H O' u b)(hb:dp b<=40)(rv:zE v v')(ru:zE u u'):fT A s v' u' (!(eqD a b)):=by
  have ih:∀ (c d:Dat) (v u:V) (v' u':aq),dp c<dp a->Rep H O v c->Rep H O' u d->dp d<1000->zE v v'->zE u u'->bX A.in1 s v' u' (eqD c d):=fun c d v u v' u' hc rc rd hd rv ru=>DA I 40 A.in1 (by show A.units+1+40<_;omega) c d v u v' u' (by omega) (by omega) rc rd hd rv ru
  replace hu:A.units<mr:=by omega
  by_cases hr:∃ p q,v=.ref p/\u=.ref q
  · obtain ⟨p,q,rfl,rfl⟩:=hr
    cases rv
    cases ru
    exact Da I ih ra rb (by omega) (by omega) hu
  · cases ra <;> cases rb <;> first
      | with_reducible exact absurd ⟨_,_,rfl,rfl⟩ hr
      | (rw [dp] at ha;omega)
      | (rw [dp] at hb;omega)
      | ((first | (obtain ⟨t0,rfl⟩:=rv) | cases rv);(first | (obtain ⟨t1,rfl⟩:=ru) | cases ru);simp only [eqD,iK,hX];first | walk_at "sc" | walk_at "sq")
theorem qt (hu:X.A.units+64<mr):OpR X (dS .Eq) (LR id):=by
 intro pins s σ H x y v u Q I rx ry h
 obtain ⟨O,O',a,b,ra,rb,ha,hb,k⟩:=h
 exact Mh I X.A (by omega) a b x y v u ha ra rb hb rx ry _ _ _ _ ⟨.bl _,H,I,rfl,k⟩
theorem jH (hu:X.A.units+64<mr):OpR X (dS .NotEq) (LR not):=by
 intro pins s σ H x y v u Q I rx ry h
 obtain ⟨O,O',a,b,ra,rb,ha,hb,k⟩:=h
 exact Ep I X.A (by omega) a b x y v u ha ra rb hb rx ry _ _ _ _ ⟨.bl _,H,I,rfl,k⟩
end
noncomputable def Ji (x:AV)(M:MH):Option Dat:=match x with
 | .d x=>some x
 | .ref a=>match M a with
  | some (.lst l)=>(pur l).map .lst
  | _=>none
 | .tp _=>none
theorem yr (x:Dat)(M:MH):Ji (.d x) M=some x:=rfl
theorem Xg {H:Hp}{O:Own}{M:MH}{v:V}{x:AV}{d:Dat}(w:Wf H O M)(r:zo H O M v x)(h:Ji x M=some d):∃ O',Rep H O' v d:=by
 cases x with
 | tp l=>cases h
 | d x=>cases h;exact ⟨O,r⟩
 | ref a=>
  unfold Ji at h
  dsimp only at h
  cases e:M a with
  | none=>rw [e] at h;cases h
  | some o=>
   rw [e] at h
   cases o with
   | lst l=>
    dsimp only at h
    cases ep:pur l with
    | none=>rw [ep] at h;cases h
    | some ds=>
     rw [ep] at h
     cases h
     obtain ⟨xs,hx,rx⟩:=w.mo a _ e
     rw [kf ep] at rx
     have rp:=rx.pure
     refine ⟨QM O a,?_⟩
     rw [r.1]
     exact Rep.lst (fun z=>z.1 rfl) hx rp.1 fun i x d e1 e2=>(rp.2 i x d e1 e2).imp (xS a)
   | _=>cases h
noncomputable def Bb (f:Bool->Bool):AR2:=fun x y M Q=>∃ a b,Ji x M=some a/\Ji y M=some b/\dp a<=40/\dp b<=40/\Q (.d (.bl (f (eqD a b)))) M
theorem GT {f:Bool->Bool}:vJ (LR f) (Bb f):=⟨fun w r1 r2 ⟨a,b,e1,e2,h1,h2,q⟩ k=>by
 obtain ⟨O1,p1⟩:=Xg w r1 e1
 obtain ⟨O2,p2⟩:=Xg w r2 e2
 exact ⟨O1,O2,a,b,p1,p2,h1,h2,k _ _ _ _ _ q .refl w .bl⟩⟩
theorem Jw (i:Int):dp (.int i)=0:=by simp [dp]
theorem JA (ns:List Int):dp (.lst (ns.map .int))<=1:=by
 rw [dp]
 have:dps (ns.map Dat.int)<=0:=xE fun d hd=>by
  obtain ⟨i,_,rfl⟩:=bn.mp hd
  rw [Jw];exact aF _
 omega
theorem Qz:∀ (ns ms:List Int),kI (ns.map .int) (ms.map .int)=decide (ns=ms)
 | [],[]=>by simp [kI]
 | [],_ :: _=>by simp [kI]
 | _ :: _,[]=>by simp [kI]
 | a :: r,b :: r'=>by
  rw [aX,aX,kI,Qz r r',show eqD (.int a) (.int b)=(a == b) by simp [eqD]]
  by_cases h:a=b <;> simp [h]
theorem AZ (ns ms:List Int):eqD (.lst (ns.map .int)) (.lst (ms.map .int))=decide (ns=ms):=by rw [eqD,Qz]
theorem jk {vs:List V}{x:AV}(r:zj H O M vs [x]):∃ v,vs=[v]/\zo H O M v x:=by
 obtain ⟨v1,r',rfl,a1,r2⟩:=r.cons_inv
 rw [r2.nil_inv];exact ⟨v1,rfl,a1⟩
theorem yq {vs:List V}{x y:AV}(r:zj H O M vs [x,y]):∃ v u,vs=[v,u]/\zo H O M v x/\zo H O M u y:=by
 obtain ⟨v1,r',rfl,a1,r2⟩:=r.cons_inv
 obtain ⟨v2,rfl,a2⟩:=jk r2
 exact ⟨v1,v2,rfl,a1,a2⟩
noncomputable def Lj:List AV->MH->AK->Prop:=fun xs M Q=>∃ x l,xs=[x]/\qK x M=some l/\Q (.d (.int (l.length:Nat))) M
theorem F0:Q2 (fun xs H Q=>∃ p ys,xs=[V.ref p]/\(SqL K H p ys \/ SqT K H p ys)/\Q (V.int ys.length) H) Lj:=⟨fun w r ⟨x,l,e,h,q⟩ k=>by
 subst e
 obtain ⟨v,rfl,rv⟩:=jk r
 obtain ⟨a,xs,rfl,h1,r1⟩:=QQ w rv h
 exact ⟨a,xs,rfl,h1.elim (fun h=>.inl (SqL.of h)) (fun h=>.inr (SqT.of h)),by rw [r1.1];exact k _ _ _ _ _ q .refl w .int⟩⟩
noncomputable def bI2 (f:Int->Int->Int):List AV->MH->AK->Prop:=fun xs M Q=>∃ i j,xs=[.d (.int i),.d (.int j)]/\Q (.d (.int (f i j))) M
theorem Nc {f:Int->Int->Int}:Q2 (fun xs H Q=>∃ i j,xs=[V.int i,V.int j]/\Q (V.int (f i j)) H) (bI2 f):=⟨fun w r ⟨i,j,e,q⟩ k=>by
 subst e
 obtain ⟨v,u,rfl,rv,ru⟩:=yq r
 exact ⟨i,j,by rw [zQ rv,zQ ru],k _ _ _ _ _ q .refl w .int⟩⟩
noncomputable def Fp:List AV->MH->AK->Prop:=fun xs M Q=>∃ x l ds,xs=[x]/\qK x M=some l/\pur l=some ds/\Q (.d (.tup ds)) M
theorem Au:Q2 (fun xs H Q=>∃ p ys,xs=[V.ref p]/\((SqL K H p ys/\∀ l,H l=none->Q (V.ref l) (upd H l (HO.tup ys))) \/ SqT K H p ys/\Q (V.ref p) H)) Fp:=⟨fun w r ⟨x,l,ds,e,h,hp,q⟩ k=>by
 subst e
 obtain ⟨v,rfl,rv⟩:=jk r
 rw [kf hp] at h
 rcases jd h with h' | ⟨m,rfl,e2⟩
 ·obtain ⟨a,xs,rfl,h1,r1⟩:=qz w rv h'
  exact ⟨a,xs,rfl,.inl ⟨SqL.of h1,fun p hp=>k _ _ _ _ _ q (qj w hp _) (jS w hp _) (QK w hp r1)⟩⟩
 ·obtain rfl:ds=m:=by have:=congrArg pur e2;rw [zM,zM] at this;cases this;rfl
  obtain ⟨a,xs,rfl,h1,r1⟩:=jU (l:=ds.map .d) rv rfl
  exact ⟨a,xs,rfl,.inr ⟨SqT.of h1,k _ _ _ _ _ q .refl w rv⟩⟩⟩
structure VY (r:List V->Hp->VK->Prop)(a:List AV->MH->(List AV->Prop)->Prop):Prop where
 go:∀ {vs:List V} {xs:List AV} {H:Hp} {O:Own} {M:MH} {Q:VK} {Q':List AV->Prop},Wf H O M->zj H O M vs xs->a xs M Q'->(∀ l ys,Q' l->zj H O M ys l->∀ p,H p=none->Q (.ref p) (upd H p (.lst ys)))->r vs H Q
noncomputable def fCB (r:List AV->MH->(List AV->Prop)->Prop)(b:AA):AF:=fun ρ M Q=>b ρ M fun xs M1=>r xs M1 fun l=>Q l M1
theorem Jl {r:List V->Hp->VK->Prop}{ra:List AV->MH->(List AV->Prop)->Prop} {b:AA}(hr:VY r ra)(h:jc u b):ZW (tCB r u) (fCB ra b):=
 ⟨fun w e q k=>h.go w e q fun x M1 v H1 O1 q1 k1 w1 r1=>hr.go w1 r1 q1 fun l ys q3 r3 p hp=>
  k l M1 p ys _ _ q3 (k1.trans (qw w1 hp _)) (j9 w1 hp _ (fun _ z=>nomatch z)) (.inl rfl) (w1.fresh hp).2 (xu w1 k1 hp) zi (r3.ext (qw w1 hp _))⟩
noncomputable def HI:List AV->MH->(List AV->Prop)->Prop:=fun xs M Q=>∃ x l,xs=[x]/\qK x M=some l/\Q l
theorem Wp:VY (fun xs H Q=>∃ p ys,xs=[V.ref p]/\(SqL K H p ys \/ SqT K H p ys)/\∀ l,H l=none->Q (V.ref l) (upd H l (HO.lst ys))) HI:=⟨fun w r ⟨x,l,e,h,q⟩ k=>by
 subst e
 obtain ⟨v,rfl,rv⟩:=jk r
 obtain ⟨a,xs,rfl,h1,r1⟩:=QQ w rv h
 exact ⟨a,xs,rfl,h1.elim (fun h=>.inl (SqL.of h)) (fun h=>.inr (SqT.of h)),k _ _ q r1⟩⟩
theorem xl {H:Hp}{O:Own}{M:MH}:∀ {ns:List Int} {xs:List V},zj H O M xs (ns.map fun i=>AV.d (.int i))->xs=ns.map V.int
 | [],xs,r=>r.nil_inv
 | i :: ns,xs,r=>by
  obtain ⟨v,r',rfl,a1,r2⟩:=r.cons_inv
  rw [zQ a1,xl r2];rfl
noncomputable def tyA (x:AV)(M:MH):Option String:=match x with
 | .d .non=>some "NoneType"
 | .d (.bl _)=>some "bool"
 | .d (.int _)=>some "int"
 | .d (.str _)=>some "str"
 | .d (.lst _)=>some "list"
 | .d (.tup _)=>some "tuple"
 | .tp _=>some "tuple"
 | .ref a=>match M a with
  | some (.lst _)=>some "list"
  | some (.dK _)=>some "dict"
  | some (.dT _)=>some "dict"
  | _=>none
 | _=>none
theorem Bq {K:az}{H:Hp}{O:Own}{M:MH}{v:V}{x:AV}{t:String}(w:Wf H O M)(r:zo H O M v x)(h:tyA x M=some t):xH K H v (.type t):=by
 cases x with
 | tp l=>obtain ⟨a,xs,e,_,h1,_⟩:=r;rw [e];cases h;exact .tup h1
 | d x=>
  cases (show Rep H O v x from r) with
  | non=>cases h;exact .non
  | bl=>cases h;exact .bl _
  | int=>cases h;exact .int _
  | str=>cases h;exact .str _
  | lst o e=>cases h;exact .lst e
  | tup o e=>cases h;exact .tup e
  | ty=>cases h
  | rng _ _=>cases h
  | scr _ _=>cases h
  | scrK _=>cases h
 | ref a=>
  unfold tyA at h
  dsimp only at h
  rw [r.1]
  cases e:M a with
  | none=>rw [e] at h;cases h
  | some o=>
   rw [e] at h
   have:=w.mo a o e
   cases o with
   | lst l=>cases h;obtain ⟨xs,hx,_⟩:=this;exact .lst hx
   | dK l=>cases h;obtain ⟨xs,hx,_⟩:=this;exact .dK hx
   | dT l=>cases h;obtain ⟨xs,hx,_⟩:=this;exact .dT hx
   | ins C fs=>cases h
   | exc C fs=>cases h
   | tb R=>cases h
noncomputable def OQ:List AV->MH->AK->Prop:=fun xs M Q=>∃ x t c b,xs=[x,.d (.ty c)]/\tyA x M=some t/\isT t c=some b/\Q (.d (.bl b)) M
theorem G8:Q2 (fun xs H Q=>∃ x t c b,xs=[x,V.ty c]/\xH K H x (aq.type t)/\isT t c=some b/\Q (V.bl b) H) OQ:=⟨fun w r ⟨x,t,c,b,e,h,hb,q⟩ k=>by
 subst e
 obtain ⟨v,u,rfl,rv,ru⟩:=yq r
 exact ⟨v,t,c,b,by rw [Fa ru],Bq w rv h,hb,k _ _ _ _ _ q .refl w .bl⟩⟩
theorem Vm {H:Hp}{O:Own}{M:MH}:∀ {ns:List String} {xs:List V},zj H O M xs ((ns.map Dat.ty).map .d)->xs=ns.map V.ty
 | [],xs,r=>r.nil_inv
 | i :: ns,xs,r=>by
  obtain ⟨v,r',rfl,a1,r2⟩:=r.cons_inv
  rw [Fa a1,Vm r2];rfl
noncomputable def Xe:List Dat->Option (List String)
 | []=>some []
 | .ty n :: r=>(Xe r).map (n :: ·)
 | _=>none
theorem VR:∀ {l:List Dat} {cs:List String},Xe l=some cs->l=cs.map Dat.ty
 | [],cs,h=>by cases h;rfl
 | .ty n :: r,cs,h=>by
  unfold Xe at h
  cases e:Xe r with
  | none=>rw [e] at h;cases h
  | some m=>rw [e] at h;cases h;rw [VR e];rfl
 | .non :: _,_,h=>by cases h
 | .bl _ :: _,_,h=>by cases h
 | .int _ :: _,_,h=>by cases h
 | .str _ :: _,_,h=>by cases h
 | .lst _ :: _,_,h=>by cases h
 | .tup _ :: _,_,h=>by cases h
 | .rng _ _ _ :: _,_,h=>by cases h
 | .scr _ _ :: _,_,h=>by cases h
noncomputable def HQ:List AV->MH->AK->Prop:=fun xs M Q=>∃ x t l cs b,xs=[x,.d (.tup l)]/\Xe l=some cs/\tyA x M=some t/\Zg t cs=some b/\Q (.d (.bl b)) M
theorem Ej:Q2 (fun xs H Q=>∃ x t p cs b,xs=[x,V.ref p]/\H p=some (HO.tup (bS V.ty cs))/\xH K H x (aq.type t)/\Zg t cs=some b/\Q (V.bl b) H) HQ:=⟨fun w r ⟨x,t,l,cs,b,e,hc,h,hb,q⟩ k=>by
 subst e
 obtain ⟨v,u,rfl,rv,ru⟩:=yq r
 rw [VR hc] at ru
 obtain ⟨a,xs,rfl,h1,r1⟩:=jU (l:=(cs.map Dat.ty).map .d) ru rfl
 rw [Vm r1] at h1
 exact ⟨v,t,a,cs,b,rfl,h1,Bq w rv h,hb,k _ _ _ _ _ q .refl w .bl⟩⟩
theorem Vz {H:Hp}{O:Own}{M:MH}:∀ {ns:List Bool} {xs:List V},zj H O M xs (ns.map fun i=>AV.d (.bl i))->xs=ns.map V.bl
 | [],xs,r=>r.nil_inv
 | i :: ns,xs,r=>by
  obtain ⟨v,r',rfl,a1,r2⟩:=r.cons_inv
  rw [xt a1,Vz r2];rfl
noncomputable def OG (f:List Bool->Bool):List AV->MH->AK->Prop:=fun xs M Q=>∃ x bs,xs=[x]/\qN x M=some (bS (fun b=>AV.d (.bl b)) bs)/\Q (.d (.bl (f bs))) M
theorem Hb {f:List Bool->Bool}:Q2 (fun xs H Q=>∃ p bs,xs=[V.ref p]/\SqL K H p (bS V.bl bs)/\Q (V.bl (f bs)) H) (OG f):=⟨fun w r ⟨x,bs,e,h,q⟩ k=>by
 subst e
 obtain ⟨v,rfl,rv⟩:=jk r
 obtain ⟨a,xs,rfl,h1,r1⟩:=qz w rv h
 rw [Vz r1] at h1
 exact ⟨a,bs,rfl,SqL.of h1,k _ _ _ _ _ q .refl w .bl⟩⟩
noncomputable def Ia:List AV->MH->AK->Prop:=fun xs M Q=>∃ b,xs=[.d (.int b)]/\Q (.d (.rng 0 b 1)) M
theorem Dn:Q2 (fun xs H Q=>∃ b,xs=[V.int b]/\∀ (p:ay),H p=none->Q (V.ref p) (upd H p (wH p 0 b 1))) Ia:=⟨fun w r ⟨b,e,q⟩ k=>by
 subst e
 obtain ⟨v,rfl,rv⟩:=jk r
 exact ⟨b,by rw [zQ rv],fun p hp=>k _ _ _ _ _ q (qj w hp _) (jS w hp _) (Rep.rng (w.fresh hp).1 zi)⟩⟩
noncomputable def BZ:List AV->MH->(List AV->Prop)->Prop:=fun xs M Q=>∃ a b c n,xs=[.d (.rng a b c)]/\cy a b c=true/\bR a b c=((n:Nat):Int)/\n<=100000/\Q ((zA a c n).map fun i=>AV.d (.int i))
theorem Z1:VY (fun xs H Q=>∃ p a b c n,xs=[.ref p]/\H p=some (wH p a b c)/\cy a b c=true/\bR a b c=((n:Nat):Int)/\n<=100000/\∀ l,H l=none->Q (.ref l) (upd H l (.lst ((zA a c n).map V.int)))) BZ:=⟨fun {vs xs H O M Q Q'} w r ⟨a,b,c,n,e,h1,h2,h3,q⟩ k=>by
 subst e
 obtain ⟨v,rfl,rv⟩:=jk r
 cases (show Rep H O v (.rng a b c) from rv) with
 | rng o h=>exact ⟨_,a,b,c,n,rfl,h,h1,h2,h3,k _ _ q (JD _)⟩⟩
noncomputable def flD:Dat->Option V
 | .non=>some .non
 | .bl b=>some (.bl b)
 | .int i=>some (.int i)
 | .str s=>some (.str s)
 | _=>none
noncomputable def ZX:List AV->Option (List V)
 | []=>some []
 | .d x :: r=>match flD x,ZX r with
  | some v,some l=>some (v :: l)
  | _,_=>none
 | _=>none
theorem XM {v x:V} (r:Rep H O v d)(h:flD d=some x):v=x/\kW v=true:=by
 cases r <;> cases h <;> exact ⟨rfl,rfl⟩
theorem Jm {H:Hp}{O:Own}{M:MH}:∀ {l:List AV} {xs vs:List V},zj H O M xs l->ZX l=some vs->xs=vs/\xs.all kW=true
 | [],xs,vs,r,h=>by cases h;rw [r.nil_inv];exact ⟨rfl,rfl⟩
 | .d d :: l,xs,vs,r,h=>by
  obtain ⟨v,r',rfl,a1,r2⟩:=r.cons_inv
  unfold ZX at h
  cases e1:flD d with
  | none=>rw [e1] at h;cases h
  | some z=>
   cases e2:ZX l with
   | none=>rw [e1,e2] at h;cases h
   | some zs=>
    rw [e1,e2] at h
    cases h
    obtain ⟨h1,h2⟩:=XM a1 e1
    obtain ⟨h3,h4⟩:=Jm r2 e2
    subst h1 h3
    exact ⟨rfl,by rw [eS,h2,h4];rfl⟩
 | .ref a :: l,xs,vs,r,h=>by cases h
structure Xm (r:V->List V->Hp->VK->Prop)(a:AV->List AV->MH->AK->Prop):Prop where
 go:∀ {x:V} {dx:AV} {vs:List V} {xs:List AV} {H:Hp} {O:Own} {M:MH} {Q:VK} {Q':AK},Wf H O M->zo H O M x dx->zj H O M vs xs->a dx xs M Q'->(∀ x M' v H' O',Q' x M'->Ext H O M H' O' M'->Wf H' O' M'->zo H' O' M' v x->Q v H')->r x vs H Q
noncomputable def aBM (r:AV->List AV->MH->AK->Prop)(a:AE)(b:AA):AE:=fun ρ M Q=>a ρ M fun x M1=>(∃ l,qN x M1=some l)/\b ρ M1 fun xs M2=>r x xs M2 Q
variable {ra:AV->List AV->MH->AK->Prop}
theorem IZ {r:V->List V->Hp->VK->Prop} {t:TE} {a:AE}{b:AA}(hr:Xm r ra)(h1:zH t a)(h2:jc u b):zH (tBM K "list" r t u) (aBM ra a b):=
 ⟨fun w e q k=>h1.go w e q fun x M1 v H1 O1 ⟨⟨l,hl⟩,q1⟩ k1 w1 r1=>⟨by
  obtain ⟨a,xs,rfl,hx,_⟩:=qz w1 r1 hl
  exact .inl ⟨rfl,xs,SqL.of hx⟩,h2.go w1 (e.ext k1) q1 fun y M2 u H2 O2 q2 k2 w2 r2=>hr.go w2 (r1.ext k2) r2 q2 fun z M3 v3 H3 O3 q3 k3 w3 r3=>k z M3 v3 H3 O3 q3 ((k1.trans k2).trans k3) w3 r3⟩⟩
noncomputable def OZ (r:AV->List AV->MH->AK->Prop)(a:AE):AE:=fun ρ M Q=>a ρ M fun x M1=>(∃ l,qN x M1=some l)/\r x [] M1 Q
theorem HC {r:V->List V->Hp->VK->Prop} {t:TE}{a:AE}(hr:Xm r ra)(h1:zH t a):zH (LQ K "list" r t) (OZ ra a):=
 ⟨fun w e q k=>h1.go w e q fun x M1 v H1 O1 ⟨⟨l,hl⟩,q1⟩ k1 w1 r1=>⟨by
  obtain ⟨a,xs,rfl,hx,_⟩:=qz w1 r1 hl
  exact .inl ⟨rfl,xs,SqL.of hx⟩,hr.go w1 r1 .nil q1 fun z M3 v3 H3 O3 q3 k3 w3 r3=>k z M3 v3 H3 O3 q3 (k1.trans k3) w3 r3⟩⟩
theorem Zy {l l':List AV}{xs':List V}(w:Wf H O M)(hm:M p=some (.lst l))(r:zj H O M xs' l'):Ext H O M (upd H p (.lst xs')) O (mup M p (.lst l'))/\Wf (upd H p (.lst xs')) O (mup M p (.lst l')):=
 have np:=qc hm
 ⟨xT w np _ _,Yw w np (fun _ z=>nomatch z) ⟨_,zi,r.ext (xT w np _ _)⟩⟩
noncomputable def YR:AV->List AV->MH->AK->Prop:=fun x xs M Q=>∃ p l y,x=.ref p/\xs=[y]/\M p=some (.lst l)/\l.length<aT/\Q (.d .non) (mup M p (.lst (l ++ [y])))
theorem XW:Xm wc YR:=⟨fun w r1 r2 ⟨p,l,y,e1,e2,hm,hs,q⟩ k=>by
 subst e1 e2
 obtain ⟨v,rfl,rv⟩:=jk r2
 obtain ⟨xs,hx,rx⟩:=w.mo p _ hm
 obtain ⟨k1,w1⟩:=Zy w hm (rx.snoc rv)
 exact ⟨p,xs,v,r1.1,rfl,hx,by rw [rx.1];exact hs,k _ _ _ _ _ q k1 w1 .non⟩⟩
noncomputable def VN:AV->List AV->MH->AK->Prop:=fun x xs M Q=>∃ p l y m,x=.ref p/\xs=[y]/\M p=some (.lst l)/\qN y M=some m/\l.length+m.length<=aT/\Q (.d .non) (mup M p (.lst (l ++ m)))
theorem Yg:Xm wo VN:=⟨fun w r1 r2 ⟨p,l,y,m,e1,e2,hm,hy,hs,q⟩ k=>by
 subst e1 e2
 obtain ⟨v,rfl,rv⟩:=jk r2
 obtain ⟨xs,hx,rx⟩:=w.mo p _ hm
 obtain ⟨b,ys,rfl,hb,rb⟩:=qz w rv hy
 obtain ⟨k1,w1⟩:=Zy w hm (rx.append rb)
 exact ⟨p,b,xs,ys,r1.1,rfl,hx,hb,by rw [rx.1,rb.1];exact hs,k _ _ _ _ _ q k1 w1 .non⟩⟩
noncomputable def OJ:AV->List AV->MH->AK->Prop:=fun x xs M Q=>∃ p l y,x=.ref p/\xs=[]/\M p=some (.lst l)/\l[l.length - 1]?=some y/\Q y (mup M p (.lst l.dropLast))
theorem zj.dropLast {l:List AV}(a:zj H O M xs l):zj H O M xs.dropLast l.dropLast:=by
 rw [mC,mC,a.1];exact a.take _
theorem Gr:Xm Ly OJ:=⟨fun w r1 r2 ⟨p,l,y,e1,e2,hm,hy,q⟩ k=>by
 subst e1 e2
 obtain ⟨xs,hx,rx⟩:=w.mo p _ hm
 obtain ⟨v,hv,rv⟩:=rx.get hy
 obtain ⟨k1,w1⟩:=Zy w hm rx.dropLast
 exact ⟨p,xs,v,r1.1,r2.nil_inv,hx,by rw [rx.1];exact hv,k _ _ _ _ _ q k1 w1 (rv.ext k1)⟩⟩
noncomputable def B8:AV->List AV->MH->AK->Prop:=fun x xs M Q=>∃ l vs d v,qN x M=some l/\xs=[.d d]/\ZX l=some vs/\flD d=some v/\Q (.d (.int ((vs.countP fun y=>eqV y v:Nat)))) M
theorem Wx:Xm Yt B8:=⟨fun w r1 r2 ⟨l,vs,d,v,hl,e,hs,hv,q⟩ k=>by
 subst e
 obtain ⟨u,rfl,ru⟩:=jk r2
 obtain ⟨a,xs,rfl,h1,p1⟩:=qz w r1 hl
 obtain ⟨rfl,f1⟩:=XM ru hv
 obtain ⟨rfl,f2⟩:=Jm p1 hs
 exact ⟨a,xs,u,rfl,rfl,h1,f2,f1,k _ _ _ _ _ q .refl w .int⟩⟩
noncomputable def Zj (r:ay):MO->Prop
 | .lst l=>∃ x ∈ l,x.Has r
 | .dK kvs=>∃ x ∈ kvs.map (·.2),x.Has r
 | .dT kvs=>∃ x ∈ kvs.map (·.2),x.Has r
 | .ins _ fs=>∃ x ∈ fs.map (·.2),x.Has r
 | .exc _ _=>False
 | .tb _=>False
inductive Dee (M M2:MH):AV->Dat->Prop
 | d {x:Dat}:Dee M M2 (.d x) x
 | lst {p:ay} {l:List AV} {ds:List Dat}:M p=some (.lst l)->M2 p=none->l.length=ds.length->(∀ (i:Nat) a b,l[i]?=some a->ds[i]?=some b->Dee M M2 a b)->Dee M M2 (.ref p) (.lst ds)
structure vI (M0 M':MH)(x x':AV)(M'':MH):Prop where
 sub:∀ q,M'' q=M' q \/ (M0 q=none/\M'' q=none)
 cl:∀ q o,M'' q=some o->M0 q=some o \/ ∀ r,Zj r o->M'' r ≠ none
 res:(x'=x/\∀ p,x.Has p->M'' p ≠ none) \/ (∃ p l ds,x=.ref p/\M' p=some (.lst l)/\pur l=some ds/\M'' p=none/\x'=.d (.lst ds)) \/ ∃ d,Dee M' M'' x d/\x'=.d d
theorem Dee.rep {H:Hp}{O:Own}{M M2:MH}(w:Wf H O M){x:AV}{d:Dat}(h:Dee M M2 x d):∀ {v:V},zo H O M v x->Rep H (fun a=>O a/\¬ (M a ≠ none/\M2 a=none)) v d:=by
 induction h with
 | d=>exact fun r=>Rep.imp (fun a u h e=>⟨e,fun z=>h z.1⟩) r
 | @lst p l ds hm hn hl _ ih=>
  intro v r
  obtain ⟨xs,hx,rx⟩:=w.mo p _ hm
  rw [r.1]
  refine Rep.lst (fun z=>z.2 ⟨qc hm,hn⟩) hx (rx.1.trans hl) fun i x d e1 e2=>?_
  have hi:=(aA.mp e2).1
  have ha:l[i]?=some (l[i]'(by omega)):=aj (by omega)
  exact ih i _ d ha e2 (rx.2 i x _ e1 ha)
theorem JH {H0 H : Hp}{O0 O : Own}{M0 M' M'' : MH}{x x' : AV}{v : V}(w0 : Wf H0 O0 M0)(w : Wf H O M')(k : Ext H0 O0 M0 H O M')(r : zo H O M' v x)(f : vI M0 M' x x' M'') :
    ∃ O'',Wf H O'' M''/\Ext H0 O0 M0 H O'' M''/\zo H O'' M'' v x'/\∀ a,O a->M' a=none->O'' a/\M'' a=none:=by
  have ks:∀ a u,¬ O a->H a=some u->H a=some u/\¬ (O a/\¬ (M' a ≠ none/\M'' a=none)):=fun a u h e=>⟨e,fun z=>h z.1⟩
  have k0:∀ a,M0 a ≠ none->M'' a=M' a:=fun a h=>(f.sub a).elim (fun z=>z) (fun z=>absurd z.1 h)
  have m0:∀ a,M0 a ≠ none->M'' a ≠ none:=fun a h=>by rw [k0 a h];exact k.mst a h
  have tpk:∀ {v:V} {m:List (Dat ⊕ ay)},zo H O M' v (.tp m)->(∀ r,cv r ∈ m->M'' r ≠ none)->zo H (fun a=>O a/\¬ (M' a ≠ none/\M'' a=none)) M'' v (.tp m):=fun {v m} ⟨a,xs,h1,h2,h3,h4,h5⟩ hr=>⟨a,xs,h1,fun z=>h2 z.1,h3,h4,fun i y d e1 e2=>by
    have:=h5 i y d e1 e2
    cases d with
    | inl d=>exact Rep.imp ks this
    | inr q=>exact ⟨this.1,hr q (bh e2)⟩⟩
  have avs:∀ {xs:List V} {l:List AV},zj H O M' xs l->(∀ r,(∃ x ∈ l,x.Has r)->M'' r ≠ none)->zj H (fun a=>O a/\¬ (M' a ≠ none/\M'' a=none)) M'' xs l:=fun {xs l} rr hr=>⟨rr.1,fun i y d e1 e2=>by
    have:=rr.2 i y d e1 e2
    cases d with
    | d d=>exact Rep.imp ks this
    | ref a=>exact ⟨this.1,hr a ⟨_,bh e2,rfl⟩⟩
    | tp m=>exact tpk this fun r h=>hr r ⟨_,bh e2,h⟩⟩
  have refs0:∀ q o,M0 q=some o->∀ r,Zj r o->M0 r ≠ none:=fun q o e r hr=>by
    have:=w0.mo q o e
    cases o with
    | lst l=>
      obtain ⟨xs,_,rr⟩:=this
      obtain ⟨x,hx,hh⟩:=hr
      obtain ⟨i,hi⟩:=bQ hx
      obtain ⟨y,_,ry⟩:=rr.get hi
      exact ry.has hh
    | dK l=>
      obtain ⟨xs,_,rr⟩:=this
      obtain ⟨x,hx,hh⟩:=hr
      obtain ⟨i,hi⟩:=bQ hx
      obtain ⟨y,_,ry⟩:=rr.2.get hi
      exact ry.has hh
    | dT l=>
      obtain ⟨xs,_,rr⟩:=this
      obtain ⟨x,hx,hh⟩:=hr
      obtain ⟨i,hi⟩:=bQ hx
      obtain ⟨y,_,ry⟩:=rr.2.get hi
      exact ry.has hh
    | ins C l=>
      obtain ⟨dx,xs,_,rr,_⟩:=this
      obtain ⟨x,hx,hh⟩:=hr
      obtain ⟨i,hi⟩:=bQ hx
      obtain ⟨y,_,ry⟩:=rr.2.get hi
      exact ry.has hh
    | exc C l=>exact hr.elim
    | tb R=>exact hr.elim
  refine ⟨fun a=>O a/\¬ (M' a ≠ none/\M'' a=none),⟨fun q o e=>?_,fun a h=>?_,fun a h=>w.al a h.1⟩,⟨fun a u h e=>?_,fun a h e=>?_,m0⟩,?_,fun a h e=>⟨⟨h,fun z=>z.1 e⟩,(f.sub a).elim (fun z=>z.trans e) (fun z=>z.2)⟩⟩
  · have e' : M' q = some o := by
      rcases f.sub q with z | z
      · rw [<- z];exact e
      · rw [z.2] at e;cases e
    have hr:∀ r,Zj r o->M'' r ≠ none:=by
      rcases f.cl q o e with z | z
      · exact fun r hr=>m0 r (refs0 q o z r hr)
      · exact z
    have:=w.mo q o e'
    cases o with
    | lst l=>obtain ⟨xs,h1,rr⟩:=this;exact ⟨xs,h1,avs rr hr⟩
    | dK l=>obtain ⟨xs,h1,rr⟩:=this;exact ⟨xs,h1,rr.1,avs rr.2 hr⟩
    | dT l=>obtain ⟨xs,h1,rr⟩:=this;exact ⟨xs,h1,rr.1,avs rr.2 hr⟩
    | ins C l=>
      obtain ⟨dx,xs,h1,rr,h2,h3,h4⟩:=this
      refine ⟨dx,xs,h1,⟨rr.1,avs rr.2 hr⟩,⟨h2,fun z=>z.1 h3⟩,?_,h4⟩
      rcases f.sub dx with z | z
      · rw [z];exact h3
      · exact z.2
    | exc C l=>
      obtain ⟨d,h1,h2⟩:=this
      refine ⟨d,h1,?_⟩
      rcases h2 with h2 | ⟨dx,e1,h2,h3,h4⟩
      · exact .inl h2
      · refine .inr ⟨dx,e1,h2,⟨h3,fun z=>z.1 h4⟩,?_⟩
        rcases f.sub dx with z | z
        · rw [z];exact h4
        · exact z.2
    | tb R=>obtain ⟨ps,h1,h2⟩:=this;exact ⟨ps,h1,h2.imp id fun ⟨c,oc,u,a1,a2,a3⟩=>⟨c,oc,u,a1,fun z=>a2 z.1,a3⟩⟩
  · refine ⟨w.own a ?_,fun z=>h z.2⟩
    rcases f.sub a with z | z
    · rw [<- z];exact h
    · exact absurd z.2 h
  · obtain ⟨x1,x2⟩:=k.fix a u h e
    exact ⟨x1,fun z=>x2 z.1⟩
  · obtain ⟨x1,x2,x3⟩:=k.prv a h e
    refine ⟨x1,⟨x2,fun z=>z.1 x3⟩,?_⟩
    rcases f.sub a with z | z
    · rw [z];exact x3
    · exact z.2
  · rcases f.res with ⟨rfl,hp⟩ | ⟨p,l,ds,rfl,hm,hp,hn,rfl⟩ | ⟨d,hd,rfl⟩
    · cases x' with
      | d d=>exact Rep.imp ks r
      | ref a=>exact ⟨r.1,hp a rfl⟩
      | tp m=>exact tpk r hp
    · obtain ⟨xs,hx,rx⟩:=w.mo p _ hm
      rw [kf hp] at rx
      have rp:=rx.pure
      rw [r.1]
      exact Rep.lst (fun z=>z.2 ⟨qc hm,hn⟩) hx rp.1 fun i x d e1 e2=>(rp.2 i x d e1 e2).imp ks
    · exact hd.rep w r
theorem kE {M0 M' M'':MH}{x x':AV} (w0:Wf H0 O0 M0)(w:Wf H O M')(k:Ext H0 O0 M0 H O M')(r:zo H O M' v x)(f:vI M0 M' x x' M'') :
  ∃ O'',Wf H O'' M''/\Ext H0 O0 M0 H O'' M''/\zo H O'' M'' v x':=let ⟨O2,a,b,c,_⟩:=JH w0 w k r f;⟨O2,a,b,c⟩
def Fr (M0 M:MH):Prop:=∀ q,M0 q ≠ none->M q=M0 q
theorem Fr.refl:Fr M M:=fun _ _=>rfl
theorem Fr.mup {M0 M:MH}(f:Fr M0 M){p:ay}(h:M0 p=none)(o:MO):Fr M0 (mup M p o):=fun q hq=>by rw [zl (fun z=>hq (by rw [z];exact h))];exact f q hq
theorem Fr.sub {M0 M:MH}(f:Fr M0 M)(q:ay):M0 q=M q \/ (M0 q=none/\M0 q=none):=by
 cases e:M0 q with
 | none=>exact .inr ⟨rfl,rfl⟩
 | some o=>exact .inl (by rw [f q (by rw [e];exact fun z=>nomatch z),e])
variable {M0:MH}
theorem qp (f:Fr M0 M)(d:Dat):vI M0 M (.d d) (.d d) M0:=⟨f.sub,fun q o e=>.inl e,.inl ⟨rfl,fun p z=>nomatch z⟩⟩
variable {ds:List Dat}
theorem wf (f:Fr M0 M) {l:List AV} (h0:M0 p=none)(h:M p=some (.lst l))(hp:pur l=some ds):vI M0 M (.ref p) (.d (.lst ds)) M0:=⟨f.sub,fun q o e=>.inl e,.inr (.inl ⟨p,l,ds,rfl,h,hp,h0,rfl⟩)⟩
theorem y4 {l:List AV} (h:pur l=some ds)(r:ay):¬ ∃ x ∈ l,x.Has r:=by
 rw [kf h];rintro ⟨x,z,k⟩
 obtain ⟨d,_,e⟩:=bn.mp z
 subst e;exact k
theorem QH (f:Fr M0 M) {l:List AV} (h0:M0 p=none)(h:M p=some (.lst l))(hp:pur l=some ds):vI M0 M (.ref p) (.ref p) (mup M0 p (.lst l)):=by
 refine ⟨fun q=>?_,fun q o e=>?_,.inl ⟨rfl,fun q z=>by cases z;rw [ze];exact fun z=>nomatch z⟩⟩
 ·by_cases c:q=p
  ·rw [c,ze,h];exact .inl rfl
  ·rw [zl c];exact f.sub q
 ·by_cases c:q=p
  ·rw [c,ze] at e
   cases e
   exact .inr fun r hr=>absurd hr (y4 hp r)
  ·rw [zl c] at e;exact .inl e
noncomputable def zJ (N:List Str)(xs:List AV):ASt:=xs.map some ++ aG (N.length - xs.length) none
theorem xr {vs:List V}{xs:List AV}(r:zj H O M vs xs)(N:List Str):Er H O M (qB N vs) (zJ N xs):=by
 unfold qB zJ
 refine ⟨by simp [r.1],fun i x h=>?_⟩
 by_cases c:i<xs.length
 ·rw [cV (by simpa using c),aE] at h
  cases e:xs[i]? with
  | none=>rw [e] at h;cases h
  | some y=>
   rw [e] at h
   cases h
   obtain ⟨v,hv,rv⟩:=r.get e
   exact ⟨v,by rw [cV (by rw [am,r.1];exact c),aE,hv];rfl,rv⟩
 ·rw [dC (by simp;omega),eX] at h
  split at h <;> cases h
noncomputable def rtA (M0:MH)(Q:AK):AK:=fun x M'=>∃ x' M'',vI M0 M' x x' M''/\Q x' M''
theorem dfA {x:Str} {a:ASp}(at_:At K mg x st)(S:zn N ps (zd st))
  (hb:∀ (kV doc pm:aq) (an:Option ay) (cdv ct:aq) (us:List aq),us.length=ps.length->fm (b7 x x (qq st) (zN st) (zd st) .none kV doc pm an cdv ct) ⟨us,[]⟩=pure (ps.zip us))
  (len:∀ xs M Q,a xs M Q->xs.length=ps.length)
  (hbody:∀ (f:ay) (cdv:aq) (A:bt) (outer:List Env) (s:ax) (H:Hp) (E:XK),qm k (A.deeper (fK x (zd st) s.heap.objs.size f cdv)) ->
   ∃ t,PSs (jF CX0 P w K mg base N x (zd st) f cdv A outer s H E).nox (zN st) t/\∃ b,jo t b/\∀ xs M Q,a xs M Q->b M { nx:=fun _ M'=>rtA M Q (.d .non) M',rt:=rtA M Q } (zJ N xs) M):Df P w K mg base x ps (k+1) (cSp a):=by
 refine vU at_ S hb (fun vs H Q E h=>?_) (fun f cdv A outer s H vs Q E hr h=>?_)
 ·obtain ⟨xs,M,O,Q',w,r,q,_⟩:=h
  rw [r.1];exact len xs M Q' q
 ·obtain ⟨t,ht,b,hb,hq⟩:=hbody f cdv A outer s H E hr
  refine ⟨t,ht,?_⟩
  obtain ⟨xs,M,O,Q',w,r,q,kk⟩:=h
  refine hb.go w w (xr r N) .refl (hq xs M Q' q) ⟨fun σ H' O' ρ M' w' e' x' q'=>?_,fun v y H' O' M' w' x' r' q'=>?_,fun _ _ _ _ _ _ _ _ z=>z.elim,fun _ _ _ _ _ _ _ _ z=>z.elim⟩
  ·obtain ⟨y',M'',f,q2⟩:=q'
   obtain ⟨O'',w2,k2,r2⟩:=kE w w' x' (show zo H' O' M' .non (.d .non) from .non) f
   exact kk _ _ _ _ _ q2 k2 w2 r2
  ·obtain ⟨y',M'',f,q2⟩:=q'
   obtain ⟨O'',w2,k2,r2⟩:=kE w w' x' r' f
   exact kk _ _ _ _ _ q2 k2 w2 r2
structure Jv (tr:ay->TR)(a:ATR):Prop where
 go:∀ D,Z2 D (tr D) a
theorem As {t:TE}{a:AE}(h:zH t a):Jv (ww t) (yS a):=⟨fun D=>Zn h⟩
theorem WW {tr:ay->TR} (hi:ZT wi ai)(hg:yv g ag)(ht:kq tt at_)(hr:Jv tr atr):Jv (QW wi g tt tr) (Yv ai ag at_ atr):=⟨fun D=>Qy hi hg ht (hr.go D)⟩
theorem Yq {tr:ay->TR} (hi:ZT wi ai)(hg:yv g ag)(ht:kq tt at_)(hr:Jv tr atr):ZW (ZK ts wi g tt tr) (Vh ts ai ag at_ atr):=Zq hi hg ht hr.go
theorem BR {t u:TE}{a b:AE}(h1:zH t a)(h2:zH u b):zH (tOp Hj t u) (aFz (fOp NF a b)):=wl (Vi Ko h1 h2)
theorem Al {b:AA}(h:jc u b):zH (tCB (fun xs H Q=>∃ p a b c n,xs=[.ref p]/\H p=some (wH p a b c)/\cy a b c=true/\bR a b c=((n:Nat):Int)/\n<=100000/\∀ l,H l=none->Q (.ref l) (upd H l (.lst ((zA a c n).map V.int)))) u) (aFz (fCB BZ b)):=wl (Jl Z1 h)
variable {q:AS->Prop}
theorem ex2 {t:TS} {b:AS}(h:jo t b)(k:q b):∃ b,jo t b/\q b:=⟨b,h,k⟩
section
variable {X:Cx}{K:az}
theorem MY {tg l:Expr} (h:X.K=K)(hl:PE X l tl):PI X tg l (iLT K tl):=h ▸ jJ hl
end
theorem NQ {τ:Type}(R:τ->ASt)(f:AV->AV) {N:List AV->ASt->MH->Prop}{l:List AV} (h0:∃ o,ρ=R o)(hG:G M)(hl:l.length<=100000)
  (hs:∀ (o:τ) (x:AV) (Q:AV->ASt->MH->Prop),x ∈ l->(∀ o',Q (f x) (R o') M)->ag x (R o) M fun ρ2 M2=>ae ρ2 M2 fun y M3=>Q y ρ2 M3) (hN:∀ o,N (l.map f) (R o) M):Xd ag KQ (yS ae) G N l [] ρ M:=by
 have hsl:100000<aT:=by rw [dq];decide
 refine ⟨fun i acc ρ' M'=>i<=l.length/\acc=(l.take i).map f/\M'=M/\∃ o,ρ'=R o,⟨cn _,rfl,rfl,h0⟩,?_,?_⟩
 ·rintro i x acc ρ' M' hx ⟨hi,rfl,rfl,o,rfl⟩
  have hil:=(aA.mp hx).1
  refine ⟨hG,?_⟩
  refine hs o x (fun y ρ2 M3=>((l.take i).map f).length<aT/\(i+1<=l.length/\(l.take i).map f ++ [y]=(l.take (i+1)).map f/\M3=M'/\∃ o,ρ2=R o)) (bh hx) fun o'=>⟨by rw [am,bZ];omega,hil,?_,rfl,o',rfl⟩
  rw [cZ,hx,aQ];rfl
 ·rintro acc ρ' M' ⟨_,rfl,rfl,o,rfl⟩
  rw [dr]
  exact ⟨hG,hN o⟩
theorem Bc {α:Type}(F:α->Dat)(l:List α):pur (l.map fun a=>AV.d (F a))=some (l.map F):=by
 have:(l.map fun a=>AV.d (F a))=(l.map F).map .d:=by rw [bv];rfl
 rw [this,zM]
theorem QF {τ:Type}(R:τ->ASt)(p:AV->Bool)(f:AV->AV) {N:List AV->ASt->MH->Prop}{l:List AV} (h0:∃ o,ρ=R o)(hG:G M)(hl:l.length<=100000)
  (hs:∀ (o:τ) (x:AV) (Q:Option AV->ASt->MH->Prop),x ∈ l->(∀ o',Q (if p x then some (f x) else none) (R o') M)->ag x (R o) M fun ρ2 M2=>at_ ρ2 M2 fun b M3=>if b=true then ae ρ2 M3 fun y M4=>Q (some y) ρ2 M4 else Q none ρ2 M3)
  (hN:∀ o,N ((l.filter p).map f) (R o) M):Xd ag at_ (yS ae) G N l [] ρ M:=by
 have hsl:100000<aT:=by rw [dq];decide
 refine ⟨fun i acc ρ' M'=>i<=l.length/\acc=((l.take i).filter p).map f/\M'=M/\∃ o,ρ'=R o,⟨cn _,rfl,rfl,h0⟩,?_,?_⟩
 ·rintro i x acc ρ' M' hx ⟨hi,rfl,rfl,o,rfl⟩
  have hil:=(aA.mp hx).1
  have tk:l.take (i+1)=l.take i ++ [x]:=by rw [cZ,hx];rfl
  have hlen:(((l.take i).filter p).map f).length<=i:=by
   rw [am]
   exact bf (eI _ _) (by rw [bZ];omega)
  refine ⟨hG,?_⟩
  refine hs o x (fun y ρ2 M3=>match y with | some y=>(((l.take i).filter p).map f).length<aT/\(i+1<=l.length/\((l.take i).filter p).map f ++ [y]=((l.take (i+1)).filter p).map f/\M3=M'/\∃ o,ρ2=R o) | none=>i+1<=l.length/\((l.take i).filter p).map f=((l.take (i+1)).filter p).map f/\M3=M'/\∃ o,ρ2=R o) (bh hx) fun o'=>?_
  rw [tk,List.filter_append]
  cases e:p x with
  | true=>rw [if_pos rfl];exact ⟨by omega,hil,by rw [List.filter_cons_of_pos e,aQ];rfl,rfl,o',rfl⟩
  | false=>rw [if_neg (by decide)];exact ⟨hil,by rw [List.filter_cons_of_neg (by rw [e];decide),List.filter_nil,bP],rfl,o',rfl⟩
 ·rintro acc ρ' M' ⟨_,rfl,rfl,o,rfl⟩
  rw [dr]
  exact ⟨hG,hN o⟩
theorem NH:isT "int" "int"=some true:=by decide +kernel
theorem Le:isT "int" "bool"=some false:=by decide +kernel
theorem IN:isT "int" "str"=some false:=by decide +kernel
theorem MZ:isT "int" "list"=some false:=by decide +kernel
theorem Ms:isT "int" "tuple"=some false:=by decide +kernel
theorem MF:isT "bool" "int"=some true:=by decide +kernel
theorem Mt:isT "bool" "bool"=some true:=by decide +kernel
theorem Lv:isT "bool" "str"=some false:=by decide +kernel
theorem L7:isT "bool" "list"=some false:=by decide +kernel
theorem Ln:isT "bool" "tuple"=some false:=by decide +kernel
theorem Mc:isT "str" "int"=some false:=by decide +kernel
theorem Ll:isT "str" "bool"=some false:=by decide +kernel
theorem Nd:isT "str" "str"=some true:=by decide +kernel
theorem Mx:isT "str" "list"=some false:=by decide +kernel
theorem Nx:isT "str" "tuple"=some false:=by decide +kernel
theorem NV:isT "NoneType" "int"=some false:=by decide +kernel
theorem Mm:isT "NoneType" "bool"=some false:=by decide +kernel
theorem Nj:isT "NoneType" "str"=some false:=by decide +kernel
theorem NL:isT "NoneType" "list"=some false:=by decide +kernel
theorem NM:isT "NoneType" "tuple"=some false:=by decide +kernel
theorem LP:isT "list" "int"=some false:=by decide +kernel
theorem Lr:isT "list" "bool"=some false:=by decide +kernel
theorem Mf:isT "list" "str"=some false:=by decide +kernel
theorem NX:isT "list" "list"=some true:=by decide +kernel
theorem Lz:isT "list" "tuple"=some false:=by decide +kernel
theorem MQ:isT "tuple" "int"=some false:=by decide +kernel
theorem L6:isT "tuple" "bool"=some false:=by decide +kernel
theorem NI:isT "tuple" "str"=some false:=by decide +kernel
theorem Ml:isT "tuple" "list"=some false:=by decide +kernel
theorem LH:isT "tuple" "tuple"=some true:=by decide +kernel
theorem Nr:Zg "int" ["list","tuple"]=some false:=by decide +kernel
theorem LD:Zg "bool" ["list","tuple"]=some false:=by decide +kernel
theorem Mr:Zg "str" ["list","tuple"]=some false:=by decide +kernel
theorem Nm:Zg "NoneType" ["list","tuple"]=some false:=by decide +kernel
theorem NW:Zg "list" ["list","tuple"]=some true:=by decide +kernel
theorem IV:Zg "tuple" ["list","tuple"]=some true:=by decide +kernel
theorem D9:Xe []=some []:=rfl
theorem V3 {n:String}{r:List Dat}:Xe (.ty n :: r)=(Xe r).map (n :: ·):=rfl
theorem N7 (M:MH):tyA (.d .non) M=some "NoneType":=rfl
theorem Oq (b:Bool)(M:MH):tyA (.d (.bl b)) M=some "bool":=rfl
theorem OI (i:Int)(M:MH):tyA (.d (.int i)) M=some "int":=rfl
theorem Oe (s:Str)(M:MH):tyA (.d (.str s)) M=some "str":=rfl
theorem Og (l:List Dat)(M:MH):tyA (.d (.lst l)) M=some "list":=rfl
theorem OM (l:List Dat)(M:MH):tyA (.d (.tup l)) M=some "tuple":=rfl
theorem Wn (x:Dat)(r:List AV):pur (.d x :: r)=match pur r with | some l=>some (x :: l) | none=>none:=rfl
theorem NR (i j:Int):eqS (.int i) (.int j)=some (decide (i=j)):=rfl
theorem LF (i j:Bool):eqS (.bl i) (.bl j)=some (decide (i=j)):=rfl
theorem Lg (i j:Str):eqS (.str i) (.str j)=some (decide (i=j)):=rfl
theorem G5:jX (.d .non)=true:=rfl
theorem FG (i:Int):jX (.d (.int i))=false:=rfl
theorem GB (i:List Dat):jX (.d (.lst i))=false:=rfl
theorem Gd (i:List Dat):jX (.d (.tup i))=false:=rfl
theorem G0 (i:ay):jX (.ref i)=false:=rfl
theorem Gi (i:Str):jX (.d (.str i))=false:=rfl
theorem Ga (i:Bool):jX (.d (.bl i))=false:=rfl
theorem Yx (w:Wf H O M)(k:Kp [] H H'):Ext H O M H' O M/\Wf H' O M:=by
 have e:Ext H O M H' O M:=⟨fun a o h e=>⟨k a o (by simp) e,h⟩,fun a h e=>⟨by
  obtain ⟨o,ho,_⟩:=w.al a h
  rw [ho];exact k a o (by simp) ho,h,e⟩,fun _ h=>h⟩
 refine ⟨e,⟨fun a o h=>jb.ext e ?_ (w.mo a o h),w.own,fun a h=>?_⟩⟩
 ·obtain ⟨u,hu,_⟩:=w.al a (w.own a (by rw [h];exact fun z=>nomatch z))
  rw [hu];exact k a u (by simp) hu
 ·obtain ⟨o,ho,hn⟩:=w.al a h
  exact ⟨o,k a o (by simp) ho,hn⟩
theorem IW (w:Wf H O M) {l:List AV}(hb:M b=some (.lst l))(k:Kp [b] H H') (h:H' b=some (.lst (ns.map V.int))) :
  Ext H O M H' O (mup M b (.lst (ns.map fun i=>.d (.int i))))/\Wf H' O (mup M b (.lst (ns.map fun i=>.d (.int i)))):=by
 have hOb:=w.own b (qc hb)
 have kk:∀ a o,a ≠ b->H a=some o->H' a=some o:=fun a o ha e=>k a o (by simpa using ha) e
 have e:Ext H O M H' O (mup M b (.lst (ns.map fun i=>.d (.int i)))):=⟨fun a o h e=>⟨kk a o (fun z=>h (by rw [z];exact hOb)) e,h⟩,fun a ha e=>by
  have hne:a ≠ b:=fun z=>by rw [z,hb] at e;cases e
  obtain ⟨o,ho,_⟩:=w.al a ha
  exact ⟨by rw [ho];exact kk a o hne ho,ha,by rw [zl hne];exact e⟩,fun a ha=>by
  by_cases c:a=b
  ·rw [c,ze];exact fun z=>nomatch z
  ·rw [zl c];exact ha⟩
 refine ⟨e,⟨fun a o ho=>?_,fun a ha=>?_,fun a ha=>?_⟩⟩
 ·by_cases c:a=b
  ·subst c;rw [ze] at ho;cases ho;exact ⟨_,h,JD ns⟩
  ·rw [zl c] at ho
   refine jb.ext e ?_ (w.mo a o ho)
   obtain ⟨u,hu,_⟩:=w.al a (w.own a (qc ho))
   rw [hu];exact kk a u c hu
 ·by_cases c:a=b
  ·rw [c];exact hOb
  ·rw [zl c] at ha;exact w.own a ha
 ·by_cases c:a=b
  ·rw [c];exact ⟨_,h,fun xs z=>nomatch z⟩
  ·obtain ⟨o,ho,hn⟩:=w.al a ha
   exact ⟨o,kk a o c ho,hn⟩
theorem Kh (ho:¬ O p)(h:H p=some (.lst (ns.map V.int))):Rep H O (.ref p) (.lst (ns.map .int)):=
 Rep.lst ho h (by simp) fun i x d e1 e2=>by
  rw [aE] at e1 e2
  cases e:ns[i]? with
  | none=>rw [e] at e1;cases e1
  | some n=>rw [e] at e1 e2;cases e1;cases e2;exact .int
theorem Eo {x:AV} (w:Wf H O M)(r:zo H O M v x)(h:qK x M=some (ns.map fun i=>.d (.int i))):∃ a,v=.ref a/\(H a=some (.lst (ns.map V.int)) \/ H a=some (.tup (ns.map V.int))):=by
 obtain ⟨a,xs,rfl,h1,r1⟩:=QQ w r h
 rw [xl r1] at h1
 exact ⟨a,rfl,h1⟩
theorem B3 {x:AV} (w:Wf H O M)(r:zo H O M v x)(h:qN x M=some (ns.map fun i=>.d (.int i))):∃ a,v=.ref a/\H a=some (.lst (ns.map V.int)):=by
 obtain ⟨a,xs,rfl,h1,r1⟩:=qz w r h
 rw [xl r1] at h1
 exact ⟨a,rfl,h1⟩
theorem Df.imp' {x:Str} {sp sp':Sp} (D:Df P w K mg base x ps k sp)(h:∀ vs H Q E,sp' vs H Q E->sp vs H Q E):Df P w K mg base x ps k sp':=
 let ⟨f,fd,F,r⟩:=D
 ⟨f,fd,F.imp h,r⟩
mutual
noncomputable def wdt:Dat->Nat
 | .lst l=>max l.length (Lx l)
 | .tup l=>max l.length (Lx l)
 | _=>0
noncomputable def Lx:List Dat->Nat
 | []=>0
 | a :: r=>max (wdt a) (Lx r)
end
theorem Ow (b:Bool):dp (.bl b)=0:=by simp [dp]
theorem zY (b:Str):dp (.str b)=0:=by simp [dp]
theorem Lc:dp .non=0:=by simp [dp]
theorem Li (a b:Bool):eqD (.bl a) (.bl b)=decide (a=b):=by rw [eqD];cases a <;> cases b <;> rfl
theorem Bv (a b:Int):eqD (.int a) (.int b)=decide (a=b):=by rw [eqD];by_cases h:a=b <;> simp [h]
theorem vE (a b:Str):eqD (.str a) (.str b)=decide (a=b):=by rw [eqD];by_cases h:a=b <;> simp [h]
theorem NB:eqD .non .non=true:=by simp [eqD]
theorem AU (i:Int):eqD .non (.int i)=false:=by simp [eqD]
theorem LZ (i:Int):eqD (.int i) .non=false:=by simp [eqD]
theorem Lo (i:Int)(s:Str):eqD (.int i) (.str s)=false:=by simp [eqD]
theorem Mz (i:Int)(s:Str):eqD (.str s) (.int i)=false:=by simp [eqD]
theorem Lh (s:Str):eqD (.str s) .non=false:=by simp [eqD]
theorem Nk (s:Str):eqD .non (.str s)=false:=by simp [eqD]
theorem BU {x:AV} {l:List AV}(h:qN x M=some l) (hp:M p=none)(o:MO):qN x (mup M p o)=some l:=by
 rcases Zv h with ⟨m,rfl,rfl⟩ | ⟨a,rfl,e⟩
 ·rfl
 ·exact jj (by rw [zl (fun z=>by rw [z,hp] at e;cases e)];exact e)
theorem yO {x:AV} {l:List AV}(h:qK x M=some l) (hp:M p=none)(o:MO):qK x (mup M p o)=some l:=by
 rcases jd h with h' | ⟨m,rfl,rfl⟩
 ·have:=BU h' hp o
  rcases Zv h' with ⟨m,rfl,rfl⟩ | ⟨a,rfl,e⟩
  ·rfl
  ·exact this
 ·rfl
theorem KO (ns:List Int):bS AV.d (bS Dat.int ns)=bS (fun i=>AV.d (.int i)) ns:=by rw [bv];rfl
theorem Ig (ns:List Bool):bS AV.d (bS Dat.bl ns)=bS (fun i=>AV.d (.bl i)) ns:=by rw [bv];rfl
theorem jw (ns:List Int):pur (bS (fun i=>AV.d (.int i)) ns)=some (ns.map Dat.int):=by rw [<- KO,zM]
theorem Gy (ns:List Bool):pur (bS (fun i=>AV.d (.bl i)) ns)=some (ns.map Dat.bl):=by rw [<- Ig,zM]
theorem GU {α β:Type}(f:α->β)(l:List α)(i:Int):atI (l.map f) i=(atI l i).map f:=by
 unfold atI
 rw [am]
 cases ixN l.length i with
 | none=>rfl
 | some j=>exact aE ..
theorem qV {i:Int}(h0:0<=i)(h1:i<n):ixN n i=some i.toNat:=by unfold ixN;rw [if_pos h0,if_pos h1]
theorem L5 {α:Type}{l:List α}{i:Int}(h0:0<=i)(h1:i<l.length)(d:α):atI l i=some (l.getD i.toNat d):=by
 unfold atI
 rw [qV h0 h1]
 show l[i.toNat]?=_
 rw [af,aj (by omega)];rfl
theorem K4 {i:Int}(h0:0<=i)(h1:i<ns.length):atI (ns.map fun i=>AV.d (.int i)) i=some (.d (.int (ns.getD i.toNat 0))):=by rw [GU,L5 h0 h1 0];rfl
theorem VE {α β:Type}(f:α->β)(xs:List α)(lo hi st:Option Int):slA (xs.map f) lo hi st=(slA xs lo hi st).map f:=by
 unfold slA
 rw [am]
 generalize dL _ _ _=ks
 induction ks with
 | nil=>rfl
 | cons k r ih=>
  rw [cw,cw,aE]
  cases xs[k]? with
  | none=>exact ih
  | some v=>exact congrArg _ ih
theorem AJ (xs:List V):slA xs none (some 0) (some (-1))=(xs.drop 1).reverse:=BV xs
theorem WU (ns:List Int):slA ns none (some 0) (some (-1))=(ns.drop 1).reverse:=by
 have h:=AJ (ns.map V.int)
 rw [VE,<- fA,<- fR] at h
 exact (List.map_inj_right (fun _ _ z=>V.int.inj z)).mp h
theorem vq {α:Type}(xs:List α)(k:Nat):yH xs (some (k:Int)) none=xs.drop k:=by
 unfold yH
 rw [HT.sIx_nat,HT.sIx_none,eu (by rw [b8];omega)]
 by_cases h:k<=xs.length
 ·rw [Nat.min_eq_left h]
 ·rw [oi (by omega),List.drop_length,gL (by omega)]
theorem FC {α:Type}(xs:List α)(k:Nat):yH xs none (some (k:Int))=xs.take k:=by
 unfold yH
 rw [HT.sIx_nat,HT.sIx_none,List.drop_zero,Nat.sub_zero]
 by_cases h:k<=xs.length
 ·rw [Nat.min_eq_left h]
 ·rw [oi (by omega),eu (aF _),eu (by omega)]
theorem zk {a qk:AS}{B:MH}{D:jA} (h:∀ r,r=qk->yX a r B D ρ M):yX a qk B D ρ M:=h qk rfl
theorem Fr.non {M M':MH}(f:Fr M M'){p:ay}(h:M' p=none):M p=none:=by
 cases e:M p with
 | none=>rfl
 | some o=>rw [f p (by rw [e];exact fun z=>nomatch z),e] at h;cases h
noncomputable abbrev ilD (os:List Int):Dat:=.lst (os.map .int)
theorem Gc (ns:List Int)(M:MH):qN (.d (ilD ns)) M=some (ns.map fun i=>.d (.int i)):=by rw [Ba,KO]
theorem we (ns:List Int)(M:MH):qK (.d (ilD ns)) M=some (ns.map fun i=>.d (.int i)):=by rw [kO,KO]
def BxM (M:MH)(b:ay)(N:Nat):Prop:=∃ x y z:Int,M b=some (.lst [.d (.int x),.d (.int y),.d (.int z)])/\0<=x/\0<=y/\y<2147483648/\0<=z/\z<=N
theorem BxM.mono {N N':Nat}(h:BxM M b N)(hn:N<=N'):BxM M b N':=by
 obtain ⟨x,y,z,h1,h2,h3,h4,h5,h6⟩:=h
 exact ⟨x,y,z,h1,h2,h3,h4,h5,by omega⟩
theorem BxM.ne {N:Nat}(h:BxM M b N):M b ≠ none:=by obtain ⟨x,y,z,h1,_⟩:=h;exact qc h1
theorem BxM.bx {N:Nat}(w:Wf H O M)(h:BxM M b N):Bx H b N:=by
 obtain ⟨x,y,z,h1,h2⟩:=h
 obtain ⟨xs,hx,rx⟩:=w.mo b _ h1
 rw [xl (ns:=[x,y,z]) rx] at hx
 exact ⟨x,y,z,hx,h2⟩
def BxS (M M':MH)(b:ay)(N:Nat):Prop:=BxM M' b N/\∃ o,M'=mup M b o
theorem BxS.at {N:Nat}(h:BxS M M' b N){q:ay}(hq:q ≠ b):M' q=M q:=by
 obtain ⟨_,o,rfl⟩:=h
 exact zl hq
theorem Fj (w:Wf H O M) {N N':Nat}(hb:BxM M b N)(k:Kp [b] H H')(h:Bx H' b N'):∃ M',BxS M M' b N'/\Ext H O M H' O M'/\Wf H' O M':=by
 obtain ⟨x,y,z,h1,_⟩:=hb
 obtain ⟨x',y',z',g1,g2⟩:=h
 obtain ⟨e1,e2⟩:=IW w h1 k (ns:=[x',y',z']) g1
 exact ⟨_,⟨⟨x',y',z',ze,g2⟩,_,rfl⟩,e1,e2⟩
mutual
noncomputable def pdD:Dat->cz
 | .bl b=>.bool b
 | .int i=>.int i
 | .str x=>.str x
 | .lst l=>.list (xf l)
 | .tup l=>.tuple (xf l)
 | _=>.none
noncomputable def xf:List Dat->List cz
 | []=>[]
 | a :: r=>pdD a :: xf r
end
section
variable {X:Cx}{pins:List (ay × Obj)}{s:ax}{σ:St}{H:Hp}{O:Own}
mutual
theorem MI:∀ d:Dat,(pdD d).hasDict=false
 | .non=>by simp [pdD,cz.hasDict]
 | .bl _=>by simp [pdD,cz.hasDict]
 | .int _=>by simp [pdD,cz.hasDict]
 | .str _=>by simp [pdD,cz.hasDict]
 | .ty _=>by simp [pdD,cz.hasDict]
 | .rng _ _ _=>by simp [pdD,cz.hasDict]
 | .scr _ _=>by simp [pdD,cz.hasDict]
 | .lst l=>by rw [pdD,cz.hasDict];exact QV l
 | .tup l=>by rw [pdD,cz.hasDict];exact QV l
theorem QV:∀ l:List Dat,cz.hasDictAll (xf l)=false
 | []=>by simp [xf,cz.hasDictAll]
 | a :: r=>by rw [xf,cz.hasDictAll,MI a,QV r];rfl
end
mutual
theorem Ef:∀ d:Dat,(pdD d).depth<=dp d
 | .non=>by simp [pdD,cz.depth]
 | .bl _=>by simp [pdD,cz.depth]
 | .int _=>by simp [pdD,cz.depth]
 | .str _=>by simp [pdD,cz.depth]
 | .ty _=>by simp [pdD,cz.depth]
 | .rng _ _ _=>by simp [pdD,cz.depth]
 | .scr _ _=>by simp [pdD,cz.depth]
 | .lst l=>by rw [pdD,cz.depth,dp];exact cU (vc l)
 | .tup l=>by rw [pdD,cz.depth,dp];exact cU (vc l)
theorem vc:∀ l:List Dat,cz.depthAll (xf l)<=dps l
 | []=>by simp [xf,cz.depthAll]
 | a :: r=>by rw [xf,cz.depthAll,dps];exact Nat.max_le.mpr ⟨bf (Ef a) (Nat.le_max_left _ _),bf (vc r) (oh _ _)⟩
end
end
section
variable {X:Cx}
end
structure Sh (b:Nat)(d:Dat):Prop where
 s:(pdD d).showable=true
 l:(pdD d).shown.length<=b
theorem Sh.mono {b c:Nat} (h:Sh b d)(k:b<=c):Sh c d:=⟨h.s,bf h.l k⟩
theorem MV {i:Int}(h:i.natAbs<10 ^ 20):Sh 22 (.int i):=by
 have h1:i.natAbs.log2<1920:=by
  by_cases z:i.natAbs=0
  ·rw [z];decide
  ·exact (Nat.log2_lt z).mpr (Nat.lt_trans h (by decide +kernel))
 refine ⟨by rw [pdD,cz.showable];exact decide_eq_true h1,?_⟩
 rw [pdD,cz.shown]
 have:=int_text_length_le10 (a:=i) (k:=20) (by decide) h
 have e:(au (toString i)).length=(toString i).length:=PySem.ofString_length _
 show (au (toString i)).length<=22
 omega
theorem Y5 {l:List Dat}(h:∀ d ∈ l,(pdD d).showable=true):cz.showableAll (xf l)=true:=by
 induction l with
 | nil=>simp [xf,cz.showableAll]
 | cons a r ih=>rw [xf,cz.showableAll,h a (by simp),ih fun d hd=>h d (by simp [hd])];rfl
theorem yI {b:Nat}{l:List Dat}(h:∀ d ∈ l,(pdD d).shown.length<=b):((cz.shownAll (xf l)).map (·.length)).sum<=l.length * b/\(cz.shownAll (xf l)).length=l.length:=by
 induction l with
 | nil=>simp [xf,cz.shownAll]
 | cons a r ih=>
  obtain ⟨h1,h2⟩:=ih fun d hd=>h d (by simp [hd])
  have h3:=h a (by simp)
  rw [xf,cz.shownAll]
  simp only [aX,dg,aK]
  refine ⟨?_,by rw [h2]⟩
  rw [Nat.add_mul,Nat.one_mul]
  omega
theorem Na {b n:Nat}{l:List Dat}(hn:l.length<=n)(h:∀ d ∈ l,Sh b d):Sh (n * b+2 * n+3) (.lst l):=by
 obtain ⟨h1,h2⟩:=yI (fun d hd=>(h d hd).l)
 refine ⟨by rw [pdD,cz.showable];exact Y5 fun d hd=>(h d hd).s,?_⟩
 rw [pdD,cz.shown]
 have:=listText_len_le (cz.shownAll (xf l))
 have hm:l.length * b<=n * b:=mT b hn
 omega
theorem LB {b n:Nat}{l:List Dat}(hn:l.length<=n)(h:∀ d ∈ l,Sh b d):Sh (n * b+2 * n+3) (.tup l):=by
 obtain ⟨h1,h2⟩:=yI (fun d hd=>(h d hd).l)
 refine ⟨by rw [pdD,cz.showable];exact Y5 fun d hd=>(h d hd).s,?_⟩
 rw [pdD,cz.shown]
 have:=tupleText_len_le (cz.shownAll (xf l))
 have hm:l.length * b<=n * b:=mT b hn
 omega
def Kn (ρ:ASt)(j:Nat)(p:ay):Prop:=match ρ[j]? with
 | some (some y)=>y.Has p
 | _=>False
noncomputable def OT (i:Nat)(t:TS):TS:=t
theorem VF {ss:List cJ}{t:TS}(i:Nat)(h:PSs X ss t):PSs X ss (OT i t):=h
noncomputable def Bs (i:Nat)(a:AS):AS:=fun B D ρ M=>∃ p l ds,ρ[i]?=some (some (.ref p))/\M p=some (.lst l)/\pur l=some ds/\B p=none/\(∀ j:Nat,j ≠ i->¬ Kn ρ j p)/\(∀ q o,q ≠ p->M q=some o->B q=some o \/ ¬ Zj p o)/\a B D (ρ.set i (some (.d (.lst ds)))) (mdel M p)
theorem BB {t:TS}{a:AS}(h:jo t a):jo (OT i t) (Bs i a):=⟨fun {H0 O0 M0 D D' σ H O ρ M} w0 w e x q E=>by
 obtain ⟨p,l,ds,hi,hm,hp,hb,ho,hr,q⟩:=q
 obtain ⟨xs,hx,rx⟩:=w.mo p _ hm
 have rx0:=rx
 rw [kf hp] at rx
 have rp:=rx.pure
 have ks:=xS (H:=H) (O:=O) p
 have refs0:∀ q o,M0 q=some o->¬ Zj p o:=fun q o eq hr'=>by
  have:=w0.mo q o eq
  cases o with
  | lst l=>obtain ⟨xs,_,rr⟩:=this;obtain ⟨x,hx',hh⟩:=hr';obtain ⟨i,hi⟩:=bQ hx';obtain ⟨y,_,ry⟩:=rr.get hi;exact ry.has hh hb
  | dK l=>obtain ⟨xs,_,rr⟩:=this;obtain ⟨x,hx',hh⟩:=hr';obtain ⟨i,hi⟩:=bQ hx';obtain ⟨y,_,ry⟩:=rr.2.get hi;exact ry.has hh hb
  | dT l=>obtain ⟨xs,_,rr⟩:=this;obtain ⟨x,hx',hh⟩:=hr';obtain ⟨i,hi⟩:=bQ hx';obtain ⟨y,_,ry⟩:=rr.2.get hi;exact ry.has hh hb
  | ins C l=>obtain ⟨dx,xs,_,rr,_⟩:=this;obtain ⟨x,hx',hh⟩:=hr';obtain ⟨i,hi⟩:=bQ hx';obtain ⟨y,_,ry⟩:=rr.2.get hi;exact ry.has hh hb
  | exc C l=>exact hr'.elim
  | tb R=>exact hr'.elim
 have av:∀ {v:V} {y:AV},zo H O M v y->¬ y.Has p->zo H (QM O p) (mdel M p) v y:=fun {v y} r hy=>by
  cases y with
  | d y=>exact Rep.imp ks r
  | ref a=>exact ⟨r.1,by rw [jr (fun z=>hy (show a=p from z))];exact r.2⟩
  | tp m=>
   obtain ⟨a,xs,h1,h2,h3,h4,h5⟩:=r
   refine ⟨a,xs,h1,fun z=>h2 z.2,h3,h4,fun i x d e1 e2=>?_⟩
   have:=h5 i x d e1 e2
   cases d with
   | inl d=>exact Rep.imp ks this
   | inr q=>exact ⟨this.1,by rw [jr (fun z=>hy (by rw [<- z];exact bh e2))];exact this.2⟩
 have avs:∀ {vs:List V} {ys:List AV},zj H O M vs ys->(¬ ∃ x ∈ ys,x.Has p)->zj H (QM O p) (mdel M p) vs ys:=fun r hy=>⟨r.1,fun i v y e1 e2=>av (r.2 i v y e1 e2) fun z=>hy ⟨_,bh e2,z⟩⟩
 have hOd:∀ dx b,O dx->M dx=none->H dx=some b->(∀ xs,b ≠ .lst xs)->QM O p dx/\mdel M p dx=none:=fun dx b h1 h2 h3 h4=>⟨⟨KU h3 hx (h4 _),h1⟩,by unfold mdel;split;rfl;exact h2⟩
 refine h.go w0 ⟨fun q o eq=>?_,fun a ha=>?_,fun a (ha:QM O p a)=>w.al a ha.2⟩ ⟨?_,fun j y hj=>?_⟩ ⟨fun a o ha eo=>⟨(x.fix a o ha eo).1,fun (z:QM O p a)=>(x.fix a o ha eo).2 z.2⟩,fun a ha eo=>?_,fun a ha=>?_⟩ q E
 ·have hq:q ≠ p:=fun z=>by rw [z,vD] at eq;cases eq
  rw [jr hq] at eq
  have hno:¬ Zj p o:=(hr q o hq eq).elim (fun z=>refs0 q o z) (fun z=>z)
  have:=w.mo q o eq
  cases o with
  | lst l=>obtain ⟨xs,h1,rr⟩:=this;exact ⟨xs,h1,avs rr hno⟩
  | dK l=>obtain ⟨xs,h1,rr⟩:=this;exact ⟨xs,h1,rr.1,avs rr.2 hno⟩
  | dT l=>obtain ⟨xs,h1,rr⟩:=this;exact ⟨xs,h1,rr.1,avs rr.2 hno⟩
  | ins C l=>obtain ⟨dx,xs,h1,rr,h2,h3,h4⟩:=this;exact ⟨dx,xs,h1,⟨rr.1,avs rr.2 hno⟩,(hOd dx _ h2 h3 h4 (fun _ z=>nomatch z)).1,(hOd dx _ h2 h3 h4 (fun _ z=>nomatch z)).2,h4⟩
  | exc C l=>
   obtain ⟨d,h1,h2⟩:=this
   refine ⟨d,h1,?_⟩
   rcases h2 with h2 | ⟨dx,e1,h2,h3,h4⟩
   ·exact .inl h2
   ·exact .inr ⟨dx,e1,h2,(hOd dx _ h3 h4 h2 (fun _ z=>nomatch z)).1,(hOd dx _ h3 h4 h2 (fun _ z=>nomatch z)).2⟩
  | tb R=>obtain ⟨ps,h1,h2⟩:=this;exact ⟨ps,h1,h2.imp id fun ⟨c,oc,u,a1,a2,a3⟩=>⟨c,oc,u,a1,fun z=>a2 z.2,a3⟩⟩
 ·have hq:a ≠ p:=fun z=>ha (by rw [z,vD])
  rw [jr hq] at ha
  exact ⟨hq,w.own a ha⟩
 ·rw [bp];exact e.len
 ·rw [bj] at hj
  by_cases c:i=j
  ·rw [if_pos c] at hj
   split at hj
   ·cases hj
    obtain ⟨v,hv,rv⟩:=e.get i _ hi
    rw [<- c]
    exact ⟨v,hv,by rw [rv.1];exact Rep.lst (fun z=>z.1 rfl) hx rp.1 fun i x d e1 e2=>(rp.2 i x d e1 e2).imp ks⟩
   ·cases hj
  ·rw [if_neg c] at hj
   obtain ⟨v,hv,rv⟩:=e.get j y hj
   exact ⟨v,hv,av rv (fun z=>ho j (fun z'=>c z'.symm) (by unfold Kn;rw [hj];exact z))⟩
 ·obtain ⟨x1,x2,x3⟩:=x.prv a ha eo
  have hne:a ≠ p:=fun z=>by rw [z,hm] at x3;cases x3
  exact ⟨x1,⟨hne,x2⟩,by rw [jr hne];exact x3⟩
 ·have hq:a ≠ p:=fun z=>ha (by rw [z];exact hb)
  rw [jr hq];exact x.mst a ha⟩
theorem GO {a b:ASp}(h:∀ xs M Q,b xs M Q->a xs M (rtA M Q))(vs:List V)(H:Hp)(Q:VK)(E:XK)(q:cSp b vs H Q E):cSp a vs H Q E:=by
 obtain ⟨xs,M,O,Q',w,r,q,k⟩:=q
 refine ⟨xs,M,O,_,w,r,h xs M Q' q,fun x M' v H' O' q' e' w' r'=>?_⟩
 obtain ⟨y',M'',f,q2⟩:=q'
 obtain ⟨O'',w2,k2,r2⟩:=kE w w' e' r' f
 exact k _ _ _ _ _ q2 k2 w2 r2
structure SB (M0 M:MH)(b:ay)(N:Nat):Prop where
 bx:BxM M b N
 fr:∀ q,M0 q ≠ none->q ≠ b->M q=M0 q
 b0:M0 b ≠ none
theorem SB.refl {N:Nat}(h:BxM M b N):SB M M b N:=⟨h,fun _ _ _=>rfl,h.ne⟩
theorem SB.go {N N':Nat}(s:SB M0 M b N)(t:BxS M M' b N'):SB M0 M' b N':=⟨t.1,fun q hq hb=>(t.at hb).trans (s.fr q hq hb),s.b0⟩
theorem SB.mono {N N':Nat}(s:SB M0 M b N)(h:N<=N'):SB M0 M b N':=⟨s.bx.mono h,s.fr,s.b0⟩
theorem BxM.put {N:Nat}(h:BxM M b N)(n:b ≠ p)(o:MO):BxM (mup M p o) b N:=by
 obtain ⟨x,y,z,h1,h2⟩:=h
 exact ⟨x,y,z,by rw [zl n];exact h1,h2⟩
theorem SB.new {M0 M:MH}{b p:ay}{N:Nat}(s:SB M0 M b N)(hp:M p=none):M0 p=none/\p ≠ b:=by
 have hb:p ≠ b:=fun z=>s.bx.ne (by rw [<- z];exact hp)
 refine ⟨?_,hb⟩
 cases e:M0 p with
 | none=>rfl
 | some o=>rw [s.fr p (by rw [e];exact fun z=>nomatch z) hb,e] at hp;cases hp
theorem SB.put {N:Nat}(s:SB M0 M b N)(h0:M0 p=none)(hb:p ≠ b)(o:MO):SB M0 (mup M p o) b N:=
 ⟨s.bx.put (Ne.symm hb) o,fun q hq hqb=>by rw [zl (fun z=>hq (by rw [z];exact h0))];exact s.fr q hq hqb,s.b0⟩
theorem SB.fin {N:Nat}(s:SB M0 M b N)(d:Dat):∃ M'',vI M0 M (.d d) (.d d) M''/\BxS M0 M'' b N:=by
 obtain ⟨x,y,z,h1,h2⟩:=s.bx
 refine ⟨mup M0 b (.lst [.d (.int x),.d (.int y),.d (.int z)]),⟨fun q=>?_,fun q o e=>?_,.inl ⟨rfl,fun p z=>nomatch z⟩⟩,⟨x,y,z,ze,h2⟩,_,rfl⟩
 ·by_cases c:q=b
  ·rw [c,ze,h1];exact .inl rfl
  ·rw [zl c]
   cases e:M0 q with
   | none=>exact .inr ⟨rfl,rfl⟩
   | some o=>exact .inl (by rw [s.fr q (by rw [e];exact fun z=>nomatch z) c,e])
 ·by_cases c:q=b
  ·rw [c,ze] at e
   cases e
   exact .inr fun r hr=>absurd hr (y4 (ds:=[.int x,.int y,.int z]) rfl r)
  ·rw [zl c] at e;exact .inl e
theorem SB.rt {N:Nat}{Q:AK} (s:SB M0 M b N)(q:∀ M',BxS M0 M' b N->Q (.d d) M'):rtA M0 Q (.d d) M:=by
 obtain ⟨M'',f,t⟩:=s.fin d
 exact ⟨_,_,f,q M'' t⟩
theorem ZQ {Q:AK} (f:Fr M0 M)(q:Q (.d d) M0):rtA M0 Q (.d d) M:=⟨_,_,qp f d,q⟩
theorem SB.frm {M M2 M':MH} {N:Nat}(f:Fr M M2)(hb:M b=none)(s:SB M2 M' b N):Fr M M':=fun q hq=>by
 have h1:q ≠ b:=fun z=>hq (by rw [z];exact hb)
 rw [s.fr q (by rw [f q hq];exact hq) h1,f q hq]
section
variable {X:Cx}
end
section
open PySem.SeqAt
open PySem.AutoSeq1 (wpAny_loadPart')
open PySem.MeetsSeq PySem.MeetsSeq2 PySem.MeetsSeq3 PySem.SeqRoads2
end
section
variable {X:Cx}
end
section
variable {X:Cx}{pins:List (ay × Obj)}{σ:St}{H:Hp}{s:ax}{a b:ay}{kvs:List (List Key × V)}{k:List Key}{v:V}{r:aq}{A:bt}{E:aq->ax->Prop}
end
section
variable {prog:ba}{w:bE}{A:bt}{E:aq->ax->Prop}{s:ax}
theorem KZ {vs:List aq}{Q:List aq->ax->Prop}(hl:IsTup s.heap l vs.toArray)
  (h:Q vs { s with heap:=(s.heap.push (lw "list" #[] 0)).update s.heap.objs.size (ff (· ++ vs.toArray)) }) (hsz:vs.length<=aT:=by size_fits) :
  aL (aN prog w) A (collect (.ref l)) Q E s:=by
 obtain ⟨o,ho,hc,n,hd⟩:=id hl
 unfold collect
 refine aw (mU (ft entry_proto_collect' ?_))
 show aL _ _ (do again (.builtin "list.__iadd__" ⟨[<- oB [],.ref l],[]⟩)) _ _ s
 refine aw (wpAny_newList (aJ ⟨iL _ (by decide +kernel),ft entry_list_iadd' ?_⟩))
 show aL _ _ (fF (.ref s.heap.objs.size) (.ref l) (.ref s.heap.objs.size)) _ _ { s with heap:=s.heap.push (lw "list" #[] 0) }
 unfold fF
 have ho':(s.heap.push (lw "list" #[] 0)).get? l=some o:=aD _ ho
 refine aw (iz (T:="tuple") ⟨o,ho',hc⟩ ?_)
 have ht:(aq.type "tuple" == aq.type "tuple")=true:=by rfl
 rw [if_pos (by rw [ht];simp)]
 refine aw (listItems_at ho' hd ?_)
 refine aw (listItems_at (xs:=#[]) (n:=0) (aS _ rfl) rfl ?_)
 rw [if_neg (by simp)]
 refine aw (listUpdate_at (xs:=#[]) (n:=0) (aS _ rfl) rfl ?_ (cn _) (by show (#[] ++ vs.toArray).size<=aT+1;simp only [Array.size_append,aH,fk];omega))
 refine aJ ?_
 show aL (aN prog w) A (do
   let o <- load s.heap.objs.size
   match o.data with
   | .seq xs _=>pure xs.toList
   | _=>unsupported "internal:collect") Q E { s with heap:=(s.heap.push (lw "list" #[] 0)).update s.heap.objs.size (ff (· ++ vs.toArray)) }
 refine aw (nA (get?_update_seq (aS _ rfl) _) ?_)
 show aL _ _ (pure ((#[]:Array aq) ++ vs.toArray).toList) Q E _
 rw [show ((#[]:Array aq) ++ vs.toArray).toList=vs by simp]
 exact aJ h
theorem QU {vs:List aq} {Q:aq->ax->Prop}(hl:IsTup s.heap l vs.toArray)(hI:lV vs ns)(h64:vs.length<64)
  (h:∀ (out:Array aq) (ns':List Int),lV out.toList ns'->ns'.Perm ns->ns'.Pairwise (·<=·)->Q (.ref (s.heap.objs.size+1)) { s with heap:=sortedAll s.heap vs out }) :
  aL (aN prog w) A (call (.builtin "sorted") [.ref l]) Q E s:=by
 refine Calls.call_function_entry kind_sorted plain_sorted entry_sorted (args_sorted1 _) ?_
 unfold Builtin.«sorted»
 refine aw (m:=checkCount "sorted" 1 1 _) (aJ ?_)
 refine aw (KZ hl ?_)
 refine aw (wpAny_newList ?_)
 have hsz:((s.heap.push (lw "list" #[] 0)).update s.heap.objs.size (ff (· ++ vs.toArray))).objs.size=s.heap.objs.size+1:=by
  rw [Heap.size_update,size_push']
 have hoL:(((s.heap.push (lw "list" #[] 0)).update s.heap.objs.size (ff (· ++ vs.toArray))).push (lw "list" vs.toArray 0)).get? (s.heap.objs.size+1)=some (lw "list" vs.toArray 0):=by
  rw [<- hsz];exact aS _ rfl
 show aL _ _ _ _ _ { s with heap:=((s.heap.push (lw "list" #[] 0)).update s.heap.objs.size (ff (· ++ vs.toArray))).push (lw "list" vs.toArray 0) }
 rw [hsz]
 refine aw (cQ (eY slot_list_sort ⟨_,hoL,rfl⟩ entry_list_sort (list_sort_tree hoL hI h64 fun out ns' a1 a2 a3=>⟨_,rfl,?_⟩) (args_list_sort _)))
 exact aJ ⟨_,rfl,h out ns' a1 a2 a3⟩
end
section
variable {X:Cx}
theorem va:ju X (.builtin "sorted") (fun xs H Q=>∃ p ns,xs=[.ref p]/\SqT X.K H p (bS V.int ns)/\ns.length<64/\∀ l ns',H l=none->ns'.Perm ns->ns'.Pairwise (·<=·)->Q (.ref l) (upd H l (.lst (bS V.int ns')))):=by
 intro pins s σ H xs us Q I r h
 obtain ⟨p,ns,rfl,hq,h64,q⟩:=h
 obtain ⟨u,rfl,rx⟩:=ki r
 cases rx
 obtain ⟨its,rv,pl,hz⟩:=I.tuple hq
 have hlen:=rv.length
 rw [am] at hlen
 refine QU pl (Ye rv) (by omega) fun out ns' a1 a2 a3=>?_
 obtain ⟨k,he⟩:=sortedAll_at s.heap its out
 refine ⟨.ref (s.heap.objs.size+1),_,I.laid (t':=s.toks) (fun _ _=>sortedAll_old) (h9 _) (show zV X.prog X.w _ _ _ (.lst (bS V.int ns')) from ⟨?_,out.toList,k,vB a1,by simpa [lw] using he⟩),rfl,q _ _ (I.hok.fresh (h9 _)) a2 a3⟩
 rw [am,a2.length_eq]
 exact lO (Ar (by omega))
end
noncomputable def wI:List AV->MH->(List AV->Prop)->Prop:=fun xs M Q=>∃ ns,xs=[.d (.tup (ns.map .int))]/\ns.length<64/\∀ ns',ns'.Perm ns->dM (fun x1 x2=>x1<=x2) ns'->Q (bS (fun i=>AV.d (.int i)) ns')
theorem yL:VY (fun xs H Q=>∃ p ns,xs=[V.ref p]/\SqT K H p (bS V.int ns)/\ns.length<64/\∀ (l:ay) (ns':List Int),H l=none->ns'.Perm ns->dM (fun x1 x2=>x1<=x2) ns'->Q (V.ref l) (upd H l (HO.lst (bS V.int ns')))) wI:=⟨fun w r ⟨ns,e,hl,q⟩ k=>by
 subst e
 obtain ⟨v,rfl,rv⟩:=jk r
 obtain ⟨a,xs,rfl,h1,r1⟩:=jU (M:=fun _=>none) (x:=.d (.tup (ns.map .int))) rv rfl
 rw [bv] at r1
 rw [xl r1] at h1
 exact ⟨a,ns,rfl,SqT.of h1,hl,fun l ns' hp h2 h3=>k _ _ (q ns' h2 h3) (JD ns') l hp⟩⟩
theorem Yc {b:AA}(h:jc u b):zH (tCB (fun xs H Q=>∃ p ns,xs=[V.ref p]/\SqT K H p (bS V.int ns)/\ns.length<64/\∀ (l:ay) (ns':List Int),H l=none->ns'.Perm ns->dM (fun x1 x2=>x1<=x2) ns'->Q (V.ref l) (upd H l (HO.lst (bS V.int ns')))) u) (aFz (fCB wI b)):=wl (Jl yL h)
theorem Lb:MtR X "list.pop" Ly:=NS
theorem wa {α τ:Type}(R:τ->ASt)(g f:α->AV)(xs:List α) {N:List AV->ASt->MH->Prop} (h0:∃ o,ρ=R o)(hG:G M)(hl:xs.length<=100000)
  (hs:∀ (o:τ) (x:α) (Q:AV->ASt->MH->Prop),x ∈ xs->(∀ o',Q (f x) (R o') M)->ag (g x) (R o) M fun ρ2 M2=>ae ρ2 M2 fun y M3=>Q y ρ2 M3) (hN:∀ o,N (xs.map f) (R o) M):Xd ag KQ (yS ae) G N (xs.map g) [] ρ M:=by
 have hsl:100000<aT:=by rw [dq];decide
 refine ⟨fun i acc ρ' M'=>i<=xs.length/\acc=(xs.take i).map f/\M'=M/\∃ o,ρ'=R o,⟨cn _,rfl,rfl,h0⟩,?_,?_⟩
 ·rintro i x acc ρ' M' hx ⟨hi,rfl,rfl,o,rfl⟩
  rw [aE] at hx
  cases e:xs[i]? with
  | none=>rw [e] at hx;cases hx
  | some y=>
   rw [e] at hx
   cases hx
   have hil:=(aA.mp e).1
   refine ⟨hG,?_⟩
   refine hs o y (fun z ρ2 M3=>((xs.take i).map f).length<aT/\(i+1<=xs.length/\(xs.take i).map f ++ [z]=(xs.take (i+1)).map f/\M3=M'/\∃ o,ρ2=R o)) (bh e) fun o'=>⟨by rw [am,bZ];omega,hil,?_,rfl,o',rfl⟩
   rw [cZ,e,aQ];rfl
 ·rintro acc ρ' M' ⟨_,rfl,rfl,o,rfl⟩
  rw [am,dr]
  exact ⟨hG,hN o⟩
noncomputable def fl2 (o:Obj):Option aq:=match o.data with
 | .fields vs=>vs[2]?
 | _=>none
def SmD (h h':Heap):Prop:=∀ b o,h.get? b=some o->∃ o',h'.get? b=some o'/\o'.dict=o.dict/\fl2 o'=fl2 o
theorem SmD.refl (h:Heap):SmD h h:=fun _ o e=>⟨o,e,rfl,rfl⟩
theorem SmD.trans {h h1 h2:Heap}(a:SmD h h1)(b:SmD h1 h2):SmD h h2:=fun c o e=>
 let ⟨_,e1,d1,f1⟩:=a c o e
 let ⟨o2,e2,d2,f2⟩:=b c _ e1
 ⟨o2,e2,d2.trans d1,f2.trans f1⟩
theorem SmD.push (h:Heap)(o:Obj):SmD h (h.push o):=fun _ u e=>⟨u,aD _ e,rfl,rfl⟩
theorem SmD.up {h:Heap} {f:Obj->Obj}(k:∀ o,(f o).dict=o.dict/\fl2 (f o)=fl2 o/\(o.isFreed=false->(f o).isFreed=false)):SmD h (h.update a f):=fun b o e=>by
 by_cases c:a=b
 ·subst c
  exact ⟨_,dJ f e ((k o).2.2 (Heap.get?_some_iff.mp e).2),(k o).1,(k o).2.1⟩
 ·exact ⟨o,(ej _ _ c).trans e,rfl,rfl⟩
structure Kd {α:Type}(t:Sem α):Prop where
 out:∀ (M:ou) (G:PySem.Ctx) (R:α->Pos->ax->Prop) (Ee:aq->Pos->ax->Prop) (p:Pos) (s:ax),Sem.wp M G t R Ee p s->Sem.wp M G t (fun a p' s'=>R a p' s'/\SmD s.heap s'.heap) Ee p s
section
variable {α β:Type}
theorem Jb (a:α):Kd (Pure.pure a:Sem α):=⟨fun _ _ _ _ _ s h=>⟨h,SmD.refl _⟩⟩
theorem Mw (x:String):Kd (unsupported x:Sem α):=⟨fun _ _ _ _ _ _ h=>h⟩
theorem Vy {m:Sem α}{f:α->Sem β}(hm:Kd m)(hf:∀ a,Kd (f a)):Kd (m >>= f):=⟨fun M G R Ee p s h=>by
 rw [Sem.wp_bind'] at h ⊢
 refine Sem.wp_mono M G m (fun a p1 s1 h1=>?_) (fun _ _ _ z=>z) p s (hm.out M G _ Ee p s h)
 refine Sem.wp_mono M G (f a) (fun b p2 s2 h2=>⟨h2.1,h1.2.trans h2.2⟩) (fun _ _ _ z=>z) p1 s1 ((hf a).out M G R Ee p1 s1 h1.1)⟩
theorem IP {c:Prop}[Decidable c]{t u:Sem α}(ht:Kd t)(hu:Kd u):Kd (if c then t else u):=by split <;> assumption
theorem Hu (a:ay):Kd (PySem.load a):=⟨fun _ _ R _ p s h=>by
 unfold PySem.load at h ⊢
 rw [Sem.wp_load] at h ⊢
 obtain ⟨o,e,h⟩:=h
 exact ⟨o,e,h,SmD.refl _⟩⟩
theorem W0 {f:Obj->Obj}(k:∀ o,(f o).dict=o.dict/\fl2 (f o)=fl2 o/\(o.isFreed=false->(f o).isFreed=false)):Kd (PySem.update a f):=⟨fun _ _ R _ p s h=>by
 unfold PySem.update at h ⊢
 rw [Sem.wp_update] at h ⊢
 exact ⟨h.1,h.2,SmD.up k⟩⟩
theorem Fq:Kd PySem.stack:=⟨fun M G R Ee p s h=>by
 unfold PySem.stack at h ⊢
 rw [Sem.wp_stack] at h ⊢
 exact ⟨h,SmD.refl _⟩⟩
theorem Fl (o:Obj):Kd (PySem.alloc o):=⟨fun _ _ R _ p s h=>by
 unfold PySem.alloc at h ⊢
 rw [Sem.wp_alloc] at h ⊢
 exact ⟨h,SmD.push _ _⟩⟩
theorem BH (v:aq)(i:Nat):Kd (PySem.field v i):=⟨fun _ G R Ee p s h=>by
 obtain ⟨a,o,vs,x,e1,e2,e3,e4,q⟩:=(wp_field_iff G v i R Ee p s).mp h
 exact (wp_field_iff G v i _ Ee p s).mpr ⟨a,o,vs,x,e1,e2,e3,e4,q,SmD.refl _⟩⟩
theorem WH (hi:i ≠ 2)(x:aq)(o:Obj):(eV (·.setIfInBounds i x) o).dict=o.dict/\fl2 (eV (·.setIfInBounds i x) o)=fl2 o/\(o.isFreed=false->(eV (·.setIfInBounds i x) o).isFreed=false):=by
 obtain ⟨c,d,dt,sl⟩:=o
 cases dt
 case fields vs=>exact ⟨rfl,Array.getElem?_setIfInBounds_ne hi,fun h=>h⟩
 all_goals exact ⟨rfl,rfl,fun h=>h⟩
theorem KB (v:aq)(i:Nat)(x:aq)(hi:i ≠ 2):Kd (PySem.setField v i x):=⟨fun _ G R Ee p s h=>by
 obtain ⟨a,o,vs,e1,e2,e3,e4,q⟩:=(wp_setField_iff G v i x R Ee p s).mp h
 exact (wp_setField_iff G v i x _ Ee p s).mpr ⟨a,o,vs,e1,e2,e3,e4,q,SmD.up (WH hi x)⟩⟩
end
local macro_rules | `(tactic| walk_at "kd")=>`(tactic| repeat' with_reducible first
  | assumption
  | exact Jb _
  | exact Mw _
  | exact BH _ _
  | exact KB _ _ _ (by decide)
  | exact Hu _
  | exact Fq
  | exact Fl _
  | apply IP
  | apply Vy
  | intro _
  | split)
theorem V0 (env:Env)(outer:List Env):Kd (behindIsImport env outer):=by
 unfold behindIsImport
 walk_at "kd"
theorem Wc:Kd underTheClaimsCaller:=by
 unfold underTheClaimsCaller
 walk_at "kd"
theorem Hz (env:Env)(i:Bool)(l:List Env):Kd (keptBack env i l):=by
 have:=Wc
 cases l <;> unfold keptBack <;> walk_at "kd"
theorem Km:∀ l:List Env,Kd (readyFrames l)
 | []=>Jb _
 | env :: outer=>by
  have ih:=Km outer
  have h1:=V0 env outer
  have h2:=fun i=>Hz env i outer
  unfold readyFrames
  walk_at "kd"
  all_goals first | exact h2 _ | exact W0 fun o=>⟨rfl,rfl,fun z=>by obtain ⟨c,d,dt,sl⟩:=o;cases dt <;> exact z⟩ | skip
theorem Xc (l:List Env):Kd (frameObject l):=by
 cases l with
 | nil=>exact Jb _
 | cons env outer=>
  have:=Km (env :: outer)
  unfold frameObject
  walk_at "kd"
theorem Jq:Kd frameEnvs:=by
 unfold frameEnvs
 walk_at "kd"
theorem Xz (env:Env):Kd (PySem.frameOf env):=by
 have h1:=Jq
 have h2:=Xc
 unfold PySem.frameOf
 walk_at "kd"
 all_goals first | exact h2 _ | skip
theorem A8 (f:ay)(b:Bool):Kd (entryPlaceOf f b):=by
 unfold entryPlaceOf
 walk_at "kd"
theorem D4 (a b c d e:aq)(l:List aq):Kd (EntryCells.newEntry a b c d e l):=by
 unfold EntryCells.newEntry newFields newObj newObjAsIs
 walk_at "kd"
theorem JI (e:aq)(env:Env):Kd (gU e env):=by
 have h1:=Xz env
 have h2:=A8
 have h3:=D4
 unfold gU
 walk_at "kd"
 all_goals first | exact h2 _ _ | exact h3 _ _ _ _ _ _ | skip
theorem xU (e:aq)(f:Option ay):Kd (lJ e f):=by
 unfold lJ
 walk_at "kd"
theorem ZE (env:Env)(e:aq):Kd (leaving env e):=Vy (JI e env) fun _=>xU e none
theorem Kd.any {α:Type}{t:Sem α}(k:Kd t){M:ou} {Q:α->ax->Prop}{E:aq->ax->Prop} (h:aL M A t Q E s):aL M A t (fun a s'=>Q a s'/\SmD s.heap s'.heap) E s:=
 fun G p hG=>k.out M G _ _ p s (h G p hG)
theorem zV.here {P:ba}{w:bE}{H:Hp}{h:Heap}{a:ay}{o:HO}(x:zV P w H h a o):∃ u,h.get? a=some u:=by
 cases o with
 | lst xs=>obtain ⟨_,_,_,_,e⟩:=x;exact ⟨_,e⟩
 | tup xs=>obtain ⟨_,_,_,o,e,_⟩:=x;exact ⟨_,e⟩
 | dK kvs=>obtain ⟨_,_,_,_,o,_,_,e,_⟩:=x;exact ⟨_,e⟩
 | dT kvs=>obtain ⟨_,_,_,_,o,_,_,e,_⟩:=x;exact ⟨_,e⟩
 | set S n=>obtain ⟨o,_,_,_,e,_⟩:=x;exact ⟨_,e⟩
 | ins C dx fs=>obtain ⟨_,_,_,e,_⟩:=x;exact ⟨_,e⟩
 | own y=>exact x
 | xd fs=>obtain ⟨_,⟨_,_,_,e,_⟩,_⟩:=x;exact ⟨_,e⟩
 | rng lo hi=>obtain ⟨_,_,_,e⟩:=x;exact ⟨_,e⟩
 | frz ob u=>obtain ⟨e,_⟩:=x;exact ⟨_,e⟩
 | tbl ps=>exact ⟨_,x⟩
 | met f y=>exact ⟨_,x⟩
 | ext φ=>exact x.2.1
structure yn (P:ba)(w:bE)(outer:List Env)(H:Hp)(s:ax)(B:Heap)(H':Hp)(s':ax):Prop where
 os:s'.os=s.os
 bare:iw s'.gens
 stay:B.StaysIn s'.heap
 cov:∀ b o,s.heap.get? b=some o->b ∉ frs outer->∃ o',B.get? b=some o'/\(H b=none->o'=o)
 slot:∀ b o,s.heap.get? b=some o->b ∈ frs outer->∃ sl,s'.heap.get? b=some { o with slots:=sl }
 frf:∀ b ∈ frs outer,H b=none
 free:∀ b o,s.heap.get? b=some o->H b=none->H' b=none
 tups:∀ b xs,H b=some (.tup xs)->H' b=some (.tup xs)
 frzs:∀ b o u,H b=some (.frz o u)->H' b=some (.frz o u)
 tbls:∀ b ps,H b=some (.tbl ps)->∃ more,H' b=some (.tbl (ps ++ more))
 hok:HOk P w H' B
section
variable {P:ba}{w:bE}{outer:List Env}{H H':Hp}{s s':ax}{B h':Heap}
theorem yn.un (a:yn P w outer H s B H' s'):Un (frs outer) [] H H' s.heap s'.heap where
 keep:=fun b o e n hb _=>by
  obtain ⟨o',e1,e2⟩:=a.cov b o e hb
  rw [e2 n] at e1
  exact a.stay b o e1
 slot:=fun b o e _ hb _=>a.slot b o e hb
 free:=fun b o e n _=>a.free b o e n
 there:=fun b o e _=>by
  by_cases hb:b ∈ frs outer
  ·obtain ⟨sl,z⟩:=a.slot b o e hb
   exact ⟨_,z⟩
  ·obtain ⟨o',e1,_⟩:=a.cov b o e hb
   exact ⟨_,a.stay b o' e1⟩
 tups:=a.tups
 frzs:=a.frzs
 tbls:=a.tbls
theorem yn.ok (a:yn P w outer H s B H' s'):HOk P w H' s'.heap:=a.hok.kept a.stay
theorem yn.step (a:yn P w outer H s B H' s'){B0:Heap}(fr:s'.heap.FunFrames B0 outer)(k:B.StaysIn h')(u:s'.heap.UpToSlots h'):yn P w outer H s B H' { s' with heap:=h' }:=
 ⟨a.os,a.bare,k,a.cov,fun b o e hb=>by
  obtain ⟨sl,z⟩:=a.slot b o e hb
  obtain ⟨_,o2,e2,nf⟩:=fr.mem hb
  rw [z] at e2;cases e2
  obtain ⟨sl2,z2⟩:=u b _ z nf
  exact ⟨sl2,z2⟩,a.frf,a.free,a.tups,a.frzs,a.tbls,a.hok⟩
end
section
variable {X:Cx}{pins:List (ay × Obj)}{σ:St}{H H':Hp}{s s':ax}{B h':Heap}
theorem Inv.ltS (I:Inv X pins σ H s) {o:Obj}(e:X.s₀.heap.get? b=some o):b ≠ X.env.locals:=fun z=>by
 have h:=bA (aM e) I.ok.above
 rw [z] at h
 exact de _ h
theorem Inv.notStk (I:Inv X pins σ H s) {o:Obj}(e:X.s₀.heap.get? b=some o)(hb:b ∉ frs X.outer):b ∉ frs X.stack:=fun z=>(aO.mp (I.stkSub b z)).elim (I.ltS e) hb
theorem vf {X:Cx}(hs:X.stack=X.env :: X.outer){b:ay}(hb:b ∈ frs X.outer):b ∈ frs X.stack:=by
 rw [hs];unfold frs;rw [cw]
 cases X.env.frame with
 | none=>exact hb
 | some f=>exact aZ _ hb
theorem yn.out (I:Inv X pins σ H s)(hs:X.stack=X.env :: X.outer)(hex:X.ex=[])(a:yn X.prog X.w X.stack H s B H' s'):yn X.prog X.w X.outer X.H₀ X.s₀ B H' s':=by
 have nx:∀ b,b ∉ X.ex:=fun b=>by rw [hex];simp
 refine ⟨a.os.trans I.os,a.bare,a.stay,fun b o e hb=>?_,fun b o e hb=>?_,I.ok.frf,fun b o e n=>?_,fun b xs e=>a.tups b xs (I.base.tups b xs e),fun b o u e=>a.frzs b o u (I.base.frzs b o u e),fun b ps e=>?_,a.hok⟩
 ·obtain ⟨o1,e1⟩:=I.base.there b o e (nx b)
  obtain ⟨o',e2,e3⟩:=a.cov b o1 e1 (I.notStk e hb)
  refine ⟨o',e2,fun n=>?_⟩
  have:=I.base.keep b o e n hb (nx b)
  rw [e1] at this;cases this
  exact e3 (I.base.free b o e n (nx b))
 ·obtain ⟨sl,e1⟩:=I.base.slot b o e (I.ok.frf b hb) hb (nx b)
  obtain ⟨sl2,e2⟩:=a.slot b _ e1 (vf hs hb)
  exact ⟨sl2,e2⟩
 ·obtain ⟨o1,e1⟩:=I.base.there b o e (nx b)
  exact a.free b o1 e1 (I.base.free b o e n (nx b))
 ·obtain ⟨m1,e1⟩:=I.base.tbls b ps e
  obtain ⟨m2,e2⟩:=a.tbls b _ e1
  exact ⟨m1 ++ m2,by rw [e2,ny]⟩
noncomputable def jn (X:Cx)(s:ax)(x:ay):Heap:=PySem.W.hideAll s.heap (x :: frs X.stack)
theorem Y4 (I:Inv X pins σ H s){x:ay}(hx:H x=none):HOk X.prog X.w H (jn X s x):=fun a o e=>by
 refine (I.hok a o e).stay (fun b u hb q=>fW _ q fun z=>?_) (fun _ q=>q) fun _ _ q=>q
 have:H b=none:=by
  rcases aO.mp z with rfl | z
  ·exact hx
  ·exact I.stkFree b z
 rcases hb with rfl | hb
 ·rw [e] at this;cases this
 ·rw [hb] at this;cases this
theorem Xs (I:Inv X pins σ H s)(hs:X.stack=X.env :: X.outer)(hex:X.ex=[]){x:ay}(hx0:X.s₀.heap.get? x=none)(hx:H x=none)(st:(jn X s x).StaysIn h')(us:s.heap.UpToSlots h') :
  yn X.prog X.w X.outer X.H₀ X.s₀ (jn X s x) H { s with heap:=h' }:=by
 have nx:∀ b,b ∉ X.ex:=fun b=>by rw [hex];simp
 have hid:∀ b o o',X.s₀.heap.get? b=some o->b ∉ frs X.outer->s.heap.get? b=some o'->(jn X s x).get? b=some o':=fun b o o' e hb e1=>fW _ e1 fun z=>by
  rcases aO.mp z with rfl | z
  ·rw [hx0] at e;cases e
  ·exact I.notStk e hb z
 refine ⟨I.os,I.bare,st,fun b o e hb=>?_,fun b o e hb=>?_,I.ok.frf,fun b o e n=>I.base.free b o e n (nx b),I.base.tups,I.base.frzs,I.base.tbls,Y4 I hx⟩
 ·obtain ⟨o1,e1⟩:=I.base.there b o e (nx b)
  refine ⟨o1,hid b o o1 e hb e1,fun n=>?_⟩
  have:=I.base.keep b o e n hb (nx b)
  rw [e1] at this;cases this;rfl
 ·obtain ⟨sl,e1⟩:=I.base.slot b o e (I.ok.frf b hb) hb (nx b)
  obtain ⟨_,o2,e2,nf⟩:=I.stack.mem (vf hs hb)
  rw [e1] at e2;cases e2
  obtain ⟨sl2,e3⟩:=us b _ e1 nf
  exact ⟨sl2,e3⟩
end
def Two (d:Option ay)(H:Hp):Prop:=∃ dx fs,d=some dx/\H dx=some (.xd fs)/\2<=fs.length
structure Air (P:ba)(w:bE)(outer:List Env)(H:Hp)(s:ax)(x C:ay)(d:Option ay)(H':Hp)(s':ax):Prop where
 ex:∃ B a0,yn P w outer H s B H' s'/\fU B outer x (.ref C) a0 s'.heap
 dct:∃ o,s'.heap.get? x=some o/\o.dict=d/\(fl2 o=some .none \/ Two d H')
noncomputable def CX1 (P:ba)(w:bE):CXT:=fun outer H s E e s'=>∃ x C d H',e=.ref x/\Air P w outer H s x C d H' s'/\E (.ref C) d H'
theorem CX1.imp {s s':ax}{E E':XK}{e:aq}(h:CX1 P w outer H s E e s')(k:∀ c d H',E c d H'->E' c d H'):CX1 P w outer H s E' e s':=
 let ⟨x,C,d,H',e1,a,q⟩:=h
 ⟨x,C,d,H',e1,a,k _ _ _ q⟩
structure DX (X:Cx)(E:XK):Prop where
 stk:X.stack=X.env :: X.outer
 ex:X.ex=[]
 fr:X.env.frame=some X.env.locals
 xe:X.xe=fun e s'=>aL (aN X.prog X.w) X.A (leaving X.env e) (fun _ s''=>CX1 X.prog X.w X.outer X.H₀ X.s₀ E e s'') (fun e' s''=>CX1 X.prog X.w X.outer X.H₀ X.s₀ E e' s'') s'
section
variable {X:Cx}{E:XK}{pins:List (ay × Obj)}{σ:St}{H H':Hp}{s s':ax}
theorem DX.pass (D:DX X E):xh (CX1 X.prog X.w) X E:=by
 intro pins σ H s e s' I h
 obtain ⟨x,C,d,H',rfl,⟨⟨B,a0,a,fl⟩,o,ho,hd,h2⟩,q⟩:=h
 rw [D.xe]
 have hs:=D.stk
 rw [hs] at fl
 refine aR ((ZE X.env (.ref x)).any (wpAny_leaves_onW (E:=fun _ _=>False) (Q:=fun _ s2=>∃ h',s2={ s' with heap:=h' }/\fU B X.outer x (.ref C) a0 h'/\s'.heap.UpToSlots h') (by rw [<- hs];exact I.ok.frames) D.fr fl fun h' f1 us=>⟨h',rfl,f1,us⟩)) (fun _ s2 h2=>?_) fun _ _ z=>z.elim
 obtain ⟨⟨h',rfl,f1,us⟩,sd⟩:=h2
 obtain ⟨o',ho',hd',hf'⟩:=sd x o ho
 exact ⟨x,C,d,H',rfl,⟨⟨B,a0,(a.out I hs D.ex).step (B0:=B) (by
  obtain ⟨_,_,f3,_⟩:=fl
  exact f3.2.2) f1.1 us,f1⟩,o',ho',hd'.trans hd,h2.imp (fun z=>hf'.trans z) id⟩,q⟩
theorem DX.raise (D:DX X E)(I:Inv X pins σ H s){x C:ay}{d:Option ay}{oe:Obj}{vs:Array aq}{a0:aq}{h1:Heap}(k:∀ b o,b ≠ x->s.heap.get? b=some o->h1.get? b=some o)(kx:∀ o,s.heap.get? x=some o->∃ vs,o.data=.fields vs)
  (he:h1.get? x=some oe) (hc:oe.cls=.ref C) (hd:oe.dict=d) (hf:oe.data=.fields vs) (hv1:vs[1]?=some .none) (hv0:vs[0]?=some a0) (hv2:vs[2]?=some .none \/ Two d H) (hx0:X.s₀.heap.get? x=none) (hx:H x=none) (q:E (.ref C) d H):X.xe (.ref x) { s with heap:=h1 }:=by
 rw [D.xe]
 have hs:=D.stk
 have st1:(jn X s x).StaysIn h1:=fun b o e=>k b o (fun z=>by rw [z,jn,dQ _ (bJ)] at e;cases e) (iB _ e)
 have us1:s.heap.UpToSlots h1:=fun b o e nf=>by
  by_cases c:b=x
  ·rw [c] at e
   obtain ⟨vs,z⟩:=kx o e
   exact absurd z (nf vs)
  ·exact ⟨o.slots,k b o c e⟩
 have fr0:s.heap.FunFrames (jn X s x) (X.env :: X.outer):=by
  have:=I.stack
  rw [hs] at this
  exact ma this fun env he b hb=>aZ _ (by rw [hs];exact e8.mpr ⟨env,he,hb⟩)
 have fr1:h1.FunFrames (jn X s x) (X.env :: X.outer):=fr0.of_keeps fun b o e nf=>by
  obtain ⟨sl,z⟩:=us1 b o e nf
  exact ⟨_,z,rfl⟩
 have xn:(jn X s x).get? x=none:=dQ _ bJ
 refine aR ((ZE X.env (.ref x)).any (wpAny_leaving_firstW (s:={ s with heap:=h1 }) (E:=fun _ _=>False) (base:=jn X s x) (Q:=fun _ s2=>∃ h',s2={ s with heap:=h' }/\Heap.LeftW (jn X s x) (X.env :: X.outer) x oe.cls a0 h1 h') (by rw [<- hs];exact I.ok.frames) fr1 D.fr he st1 xn hf hv1 hv0 fun h' hl=>⟨h',rfl,hl⟩)) (fun _ s2 h2=>?_) fun _ _ z=>z.elim
 obtain ⟨⟨h',rfl,l1,l2,l3,l4⟩,sd⟩:=h2
 obtain ⟨o',ho',hd',hf'⟩:=sd x oe he
 have hff:fl2 oe=vs[2]?:=by unfold fl2;rw [hf]
 rw [hc] at l3
 exact ⟨x,C,d,H,rfl,⟨⟨jn X s x,a0,Xs I hs D.ex hx0 hx l1 (us1.trans l4),l1,xn,l2.2.2,l3⟩,o',ho',hd'.trans hd,hv2.imp (fun z=>(hf'.trans hff).trans z) id⟩,q⟩
end
def Ze (CX:CXT)(X:Cx)(E:St->XK):Prop:=∀ (pins:List (ay × Obj)) (σ:St) (H:Hp) (s:ax) (e:aq) (s':ax),Inv X pins σ H s->CX X.stack H s (E σ) e s'->X.xe e s'
noncomputable def Jy (sp:Sp)(E:St->XK)(t:TA):TE:=fun σ H Q=>t σ H fun vs H1=>sp vs H1 Q (E σ)
def DfX (P:ba)(w:bE)(K:az)(mg:Str->Option aq)(base:Heap)(x:Str)(ps:List Str)(k:Nat)(sp:Sp):Prop:=
 ∃ f fd,jx P w K mg base (CX1 P w) k f fd ps sp/\jv K fd ps []/\dv K (.ref f)=true/\mg x=some (.ref f)
theorem DfX.mono {x:Str} (D:DfX P w K mg base x ps j sp)(h:j<=k):DfX P w K mg base x ps k sp:=
 let ⟨f,fd,F,r⟩:=D
 ⟨f,fd,F.mono h,r⟩
section
variable {X:Cx}{k:Nat}{x:Str}{ps:List Str}{sp:Sp}{E:St->XK}{p pos:Pos}{e:Expr}{es:List Expr}{t:TA}
theorem YE {CX:CXT}{f:ay}{fd:dz}{pins:List (ay × Obj)}{σ:St}{H:Hp}{s:ax}{Q:VK}{us:List aq}{vs:List V}(F:jx X.prog X.w X.K X.mg X.base CX k f fd ps sp)(hr:qm k X.A)(hb:jv X.K fd ps [])(hx:Ze CX X E)
  (I:Inv X pins σ H s) (r:zz vs us) (h:sp vs H Q (E σ)):aL (aN X.prog X.w) X.A (call (.ref f) us) (EP X pins σ Q) X.xe s:=by
 have hl:(us ++ []).length=ps.length:=by rw [bP,<- r.length];exact F.len _ _ _ _ h
 have b1:=hb s us I.kIn hl
 rw [bP] at b1
 refine iF (e9 (F.run X.A X.stack s H ⟨us,[]⟩ us vs Q (E σ) hr I.env0 b1 r h) fun r s' hq=>?_)
 cases r with
 | error e=>exact hx pins σ H s e s' I hq
 | ok fl=>
  cases fl with
  | ret u=>exact I.after hq
  | next=>exact ca hq
  | brk=>exact ca hq
  | cont=>exact ca hq
theorem Z6 (D:DfX X.prog X.w X.K X.mg X.base x ps k sp)(hr:qm k X.A)(hg:Gl X x)(hx:Ze (CX1 X.prog X.w) X E)(ha:PA X (e :: es) t)(hdb:(x == ("__debug__":Str))=false:=by decide)
  (he:aV (e :: es) X.env=(false,eval e X.env) :: aV es X.env:=by rfl) (hpl:(cH pos (aV es X.env)).any (·.1)=false:=by rfl):PE X (.Call (.Name x p) (e :: es) [] pos) (Jy sp E t):=by
 obtain ⟨f,fd,F,b,kp,m⟩:=D
 intro pins s σ H Q I h
 refine fb (kK I hg m ?_ hdb)
 refine fc (h₀:=X.base) I.ok.mod.kin kp (thn (ha pos pins s σ H _ I h) fun us s1 ⟨vs,H1,I1,r,q⟩=>⟨I1.kIn,?_⟩) he hpl
 exact YE F hr b hx I1 r q
theorem DX.passX {E0:XK}(D:DX X E0):Ze (CX1 X.prog X.w) X fun _=>E0:=fun pins σ H s e s' I h=>D.pass pins σ H s e s' I h
end
theorem Lm {x:Str} (a:At K mg x st)(S:zn N ps (zd st))
  (hb:∀ (kV doc pm:aq) (an:Option ay) (cdv ct:aq) (us:List aq),us.length=ps.length->fm (b7 x x (qq st) (zN st) (zd st) .none kV doc pm an cdv ct) ⟨us,[]⟩=pure (ps.zip us))
  (len:∀ vs H Q E,sp vs H Q E->vs.length=ps.length)
  (hbody:∀ (f:ay) (cdv:aq) (A:bt) (outer:List Env) (s:ax) (H:Hp) (vs:List V) (Q:VK) (E:XK),qm k (A.deeper (fK x (zd st) s.heap.objs.size f cdv))->sp vs H Q E ->
   ∃ t,(DX (jF (CX1 P w) P w K mg base N x (zd st) f cdv A outer s H E) E->PSs (jF (CX1 P w) P w K mg base N x (zd st) f cdv A outer s H E) (zN st) t)/\t { nx:=fun _ H'=>Q .non H',rt:=Q } (qB N vs) H):DfX P w K mg base x ps (k+1) sp:=by
 obtain ⟨f,fd,F,m⟩:=a
 refine ⟨f,fd,?_,F.binds hb,F.kp,m⟩
 obtain ⟨oc,od,kV,doc,pm,an,cdv,ct,osl,rfl,lk,hcd⟩:=F.ex
 refine Bi lk hcd S len fun A outer s H vs Q E hr hsp=>?_
 obtain ⟨t,ht,q⟩:=hbody f cdv A outer s H vs Q E hr hsp
 exact ⟨t,ht ⟨rfl,rfl,rfl,rfl⟩,q⟩
abbrev vG:List aq:=[.type "ValueError",.type "Exception",.type "BaseException",.type "object"]
section
variable {X:Cx}{E:XK}{C:ay}{x:Str}{np cpos pos:Pos}{e:Expr}{es:List Expr}{t:TA}
end
theorem Ho {h:Heap} {d:Option ay}{o:Obj}{vs:Array aq}(e:h.get? a=some o)(hc:o.cls=.ref C)(hd:o.dict=d)(hf:o.data=.fields vs):zV P w H h a (Ny a C d):=
 ⟨⟨o,e,hc,hd,vs,hf⟩,⟨o,e⟩,fun _ _ ⟨o,e,r⟩ k=>⟨o,k o e,r⟩⟩
section
variable {X:Cx}{pins:List (ay × Obj)}{σ:St}{H H':Hp}{s s':ax}
theorem Inv.track (I:Inv X pins σ H s){x:ay} (hx:H x=none)(h0:X.s₀.heap.get? x=none)(hl:x ≠ X.env.locals)(hc:∀ y c,X.env.cells.lookup y=some c->c ≠ x)(hp:∀ p ∈ X.pn ++ pins,p.1 ≠ x)(ok:zV X.prog X.w (upd H x o) s.heap x o):Inv X pins σ (upd H x o) s:=by
 refine ⟨I.ok,I.os,I.bare,⟨I.base.keep,I.base.slot,fun b u e n hb=>?_,I.base.there,fun b xs e=>?_,fun b u v e=>?_,fun b ps e=>?_⟩,I.loc,I.cell,?_,fun y c e=>?_,fun p hp'=>?_,fun b u e=>?_,I.len⟩
 ·rw [zh (fun z=>by rw [z,h0] at e;cases e)];exact I.base.free b u e n hb
 ·have:=I.base.tups b xs e;rw [zh (zm this hx)];exact this
 ·have:=I.base.frzs b u v e;rw [zh (zm this hx)];exact this
 ·obtain ⟨m,this⟩:=I.base.tbls b ps e;exact ⟨m,by rw [zh (zm this hx)];exact this⟩
 ·rw [zh (Ne.symm hl)];exact I.free
 ·rw [zh (hc y c e)];exact I.freeC y c e
 ·obtain ⟨e1,e2,e3⟩:=I.pin p hp'
  exact ⟨e1,by rw [zh (hp p hp')];exact e2,e3⟩
 ·by_cases c:b=x
  ·subst c;rw [zi] at e;cases e;exact ok
  ·rw [zh c] at e
   exact (I.hok b u e).stay (fun _ _ _ q=>q) (fun d q=>by rw [zh (zm q hx)];exact q) fun d xs q=>by rw [zh (zm q hx)];exact q
end
noncomputable abbrev Cx.tried (X:Cx)(pins:List (ay × Obj))(xe:aq->ax->Prop):Cx:={ X with pn:=X.pn ++ pins,xe:=xe }
noncomputable abbrev Cx.inside (X:Cx)(x:ay):Cx:={ X with A:=X.A.mark (some (.ref x)),calm:=false,xe:=fun _ _=>False }
theorem Cx.Ok.tried (ok:X.Ok)(pins:List (ay × Obj))(xe:aq->ax->Prop):(X.tried pins xe).Ok:=
 ⟨ok.mod,ok.kind,ok.glob,ok.blt,ok.above,ok.inj,ok.has,ok.cab,ok.hd,ok.frames,ok.stk,ok.exf,ok.bs,ok.bsz,ok.noex,ok.exfs,ok.funs,ok.frf⟩
variable {xe:aq->ax->Prop}
theorem Cx.Ok.untried (ok:(X.tried pins xe).Ok):X.Ok:=
 ⟨ok.mod,ok.kind,ok.glob,ok.blt,ok.above,ok.inj,ok.has,ok.cab,ok.hd,ok.frames,ok.stk,ok.exf,ok.bs,ok.bsz,ok.noex,ok.exfs,ok.funs,ok.frf⟩
theorem Cx.Ok.inside (ok:X.Ok)(x:ay):(X.inside x).Ok:=
 ⟨ok.mod,ok.kind,ok.glob,ok.blt,ok.above,ok.inj,ok.has,ok.cab,(fun z=>nomatch z),ok.frames,ok.stk,ok.exf,ok.bs,ok.bsz,ok.noex,ok.exfs,ok.funs,ok.frf⟩
section
variable {X:Cx}{pins pins':List (ay × Obj)}{σ:St}{H:Hp}{s s':ax}{xe:aq->ax->Prop}
theorem Inv.tried (I:Inv X pins σ H s)(xe:aq->ax->Prop):Inv (X.tried pins xe) [] σ H s:=⟨I.ok.tried pins xe,I.os,I.bare,I.base,I.loc,I.cell,I.free,I.freeC,fun p hp=>I.pin p (by rw [bP] at hp;exact hp),I.hok,I.len⟩
theorem Inv.untried (I:Inv (X.tried pins xe) pins' σ H s):Inv X pins σ H s:=⟨I.ok.untried,I.os,I.bare,I.base,I.loc,I.cell,I.free,I.freeC,fun p hp=>I.pin p (eO _ hp),I.hok,I.len⟩
theorem Inv.inside (I:Inv X pins σ H s)(x:ay):Inv (X.inside x) pins σ H s:=⟨I.ok.inside x,I.os,I.bare,I.base,I.loc,I.cell,I.free,I.freeC,I.pin,I.hok,I.len⟩
theorem Inv.outside {x:ay}(ok:X.Ok)(I:Inv (X.inside x) pins σ H s):Inv X pins σ H s:=⟨ok,I.os,I.bare,I.base,I.loc,I.cell,I.free,I.freeC,I.pin,I.hok,I.len⟩
theorem SP.untried {D:kA}{f:Flow}(h:SP (X.tried pins xe) [] D f s'):SP X pins D f s':=by
 cases f with
 | next=>obtain ⟨σ',H',I,q⟩:=h;exact ⟨σ',H',I.untried,q⟩
 | brk=>obtain ⟨σ',H',I,q⟩:=h;exact ⟨σ',H',I.untried,q⟩
 | cont=>obtain ⟨σ',H',I,q⟩:=h;exact ⟨σ',H',I.untried,q⟩
 | ret u=>obtain ⟨v,σ',H',I,r,q⟩:=h;exact ⟨v,σ',H',I.untried,r,q⟩
theorem Air.here (I:Inv X pins σ H s)(hs:X.stack=X.env :: X.outer)(hf:X.env.frame=some X.env.locals)(hex:X.ex=[]){B:Heap}{a0:aq}{x C:ay}{d:Option ay} (a:yn X.prog X.w X.stack H s B H' s')(fl:fU B X.stack x (.ref C) a0 s'.heap)(hd:∃ o,s'.heap.get? x=some o/\o.dict=d/\(fl2 o=some .none \/ Two d H')) :
  H' x=none/\Inv X pins σ (upd H' x (Ny x C d)) s':=by
 obtain ⟨f1,f2,f3,oe,vs,T,oT,ts,he,⟨hc,_⟩,hdt,_⟩:=fl
 obtain ⟨o',ho',hd',_⟩:=hd
 rw [he] at ho';cases ho'
 have hx:H' x=none:=by
  cases z:H' x with
  | none=>rfl
  | some o=>obtain ⟨u,e⟩:=(a.hok x o z).here;rw [f2] at e;cases e
 have I1:Inv X pins σ H' s':=I.call' (ch:=[]) a.os a.un a.ok a.bare (fun b z=>absurd z (by simp))
 have nB:∀ b o,s.heap.get? b=some o->b ∉ frs X.stack->b ≠ x:=fun b o e hb z=>by
  obtain ⟨o',e1,_⟩:=a.cov b o e hb
  rw [z,f2] at e1;cases e1
 refine ⟨hx,I1.track hx ?_ (fun z=>?_) (fun y c e z=>?_) (fun p hp z=>?_) (Ho he hc hd' hdt)⟩
 ·cases z:X.s₀.heap.get? x with
  | none=>rfl
  | some o=>
   obtain ⟨o1,e1⟩:=I.base.there x o z (by rw [hex];simp)
   by_cases hb:x ∈ frs X.stack
   ·obtain ⟨_,o2,e2,nf⟩:=f3.mem hb
    rw [he] at e2;cases e2
    exact absurd hdt (nf vs)
   ·exact absurd rfl (nB x o1 e1 hb)
 ·obtain ⟨m,⟨o,es,ep,ho,hdd,_⟩,_⟩:=I1.loc
  rw [<- z,he] at ho;cases ho
  rw [hdt] at hdd;cases hdd
 ·obtain ⟨v,o,ho,hdd⟩:=I1.cell y c e
  rw [z,he] at ho;cases ho
  rw [hdt] at hdd;cases hdd
 ·obtain ⟨e1,e2,e3,e4,_⟩:=I.pin p hp
  refine nB p.1 p.2 e1 (fun w=>?_) z
  rcases aO.mp (I.stkSub p.1 w) with q | q
  ·exact e3 q
  ·exact e4 q
end
def wQ (X:Cx)(H:Hp)(s:ax)(B:Heap)(x C:ay)(d:Option ay)(a0:aq)(H':Hp)(s':ax):Prop:=
 yn X.prog X.w X.stack H s B H' s'/\fU B X.stack x (.ref C) a0 s'.heap/\∃ o,s'.heap.get? x=some o/\o.dict=d/\(fl2 o=some .none \/ Two d H')
section
variable {X:Cx}{pins:List (ay × Obj)}{σ:St}{H H':Hp}{s s':ax}{B:Heap}{x C:ay}{d:Option ay}{a0:aq}
theorem wQ.lands {M:ou}{E:aq->ax->Prop}{Q:Unit->ax->Prop}(h:wQ X H s B x C d a0 H' s')(k:∀ s2,wQ X H s B x C d a0 H' s2->Q () s2):aL M A (lJ (.ref x) none) Q E s':=by
 obtain ⟨a,fl,o,ho,hd,h2f⟩:=h
 refine aR ((xU (.ref x) none).any (lands_againW (E:=E) (Q:=fun _ s2=>∃ h',s2={ s' with heap:=h' }/\fU B X.stack x (.ref C) a0 h'/\s'.heap.UpToSlots h') fl fun h' f1 us=>⟨h',rfl,f1,us⟩)) (fun _ s2 h2=>?_) fun _ _ z=>z
 obtain ⟨⟨h',rfl,f1,us⟩,sd⟩:=h2
 obtain ⟨o',ho',hd',hf'⟩:=sd x o ho
 exact k _ ⟨a.step fl.2.2.1 f1.1 us,f1,o',ho',hd'.trans hd,h2f.imp (fun z=>hf'.trans z) id⟩
theorem wQ.noted {E:aq->ax->Prop}{Q:Unit->ax->Prop}(ok:X.Ok)(hs:X.stack=X.env :: X.outer)(hf:X.env.frame=some X.env.locals)(h:wQ X H s B x C d a0 H' s')(k:∀ s2,wQ X H s B x C d a0 H' s2->Q () s2) :
  aL (aN X.prog X.w) X.A (gU (.ref x) X.env) (fun _ s2=>aL (aN X.prog X.w) X.A (lJ (.ref x) none) Q E s2) E s':=by
 obtain ⟨a,fl,o,ho,hd,h2f⟩:=h
 have fl':=fl
 rw [hs] at fl'
 refine aR ((JI (.ref x) X.env).any (wpAny_looks_onW (E:=E) (Q:=fun _ s2=>∃ h',s2={ s' with heap:=h' }/\Heap.HeldW B (X.env :: X.outer) x (.ref C) a0 X.env.locals h'/\s'.heap.UpToSlots h') (by rw [<- hs];exact ok.frames) hf fl' fun h' f1 us=>⟨h',rfl,f1,us⟩)) (fun _ s2 h2=>?_) fun _ _ z=>z
 obtain ⟨⟨h',rfl,f1,us⟩,sd⟩:=h2
 obtain ⟨o',ho',hd',hf'⟩:=sd x o ho
 have a2:=a.step fl.2.2.1 f1.1 us
 refine aR ((xU (.ref x) none).any (wpAny_landsW (E:=E) (Q:=fun _ s3=>∃ h'',s3={ s' with heap:=h'' }/\fU B (X.env :: X.outer) x (.ref C) a0 h''/\h'.UpToSlots h'') f1 fun h'' f2 us2=>⟨h'',rfl,f2,us2⟩)) (fun _ s3 h3=>?_) fun _ _ z=>z
 obtain ⟨⟨h'',rfl,f2,us2⟩,sd2⟩:=h3
 obtain ⟨o'',ho'',hd'',hf''⟩:=sd2 x o' ho'
 refine k _ ⟨a2.step (s':={ s' with heap:=h' }) (by rw [hs];exact f1.2.2.1) f2.1 us2,by rw [hs];exact f2,o'',ho'',(hd''.trans hd').trans hd,h2f.imp (fun z=>(hf''.trans hf').trans z) id⟩
variable {body suite:List cJ}{b₀:cJ}{n tx:Str}{i:Nat}{T:ay}{np hpos pos:Pos}{tb:(St->XK)->TS}{th:TS}
end
open PySem.W (Looks InstAt findIn findObj subIn mroIn)
section
variable {prog:ba}{w:bE}{A:bt}{E:aq->ax->Prop}{h:Heap}{g:Array GenState}{d:Drawn}{t:Nat}{os:OsState}{K:az}{x C:ay}{ox:Obj}{od:Option Obj}{name:Str}
theorem FF {tk : Tok}{R : nD -> ax -> Prop}(X : K.In h)(I : InstAt h x ox C od)(hb : nw K (.ref C) (.type "BaseException") = some true)(k : aL (aN prog w) A.in1 (Builtin.«object.__getattribute__» ⟨[.ref x, .str name tk], []⟩)
      (fun fin s'=>match fin with | .done (.ret v)=>R (.ok (.ret v)) s' | _=>False) (fun _ _=>False) ⟨h,g,d,t,os⟩) :
    dX (aN prog w) A (.call (.builtin "BaseException.__getattribute__") ⟨[.ref x,.str name tk],[]⟩) R ⟨h,g,d,t,os⟩:=by
  have L0:=I.type (M:=aN prog w)
  have L1:=PySem.W.looks_subIn (M:=aN prog w) X hb
  have hk:builtinKind "BaseException.__getattribute__"=some .slot:=by decide +kernel
  have hsplit:splitId "BaseException.__getattribute__"=some ("BaseException","__getattribute__"):=by decide +kernel
  have ha:=F.args_bexc_ga (.ref x) (.str name tk)
  refine codeAny_call_builtin F.excAttr_ValueError.ga.plain F.entry_bexc_ga ?_
  simp only [checkBuiltinCall,hk,hsplit]
  have LI:iM (aN prog w) h (isInstance (.ref x) (.type "BaseException")) true:=L0.andThen L1
  refine aw (LI.at ?_)
  simp only [hX,gn,if_false]
  have fin:aL (aN prog w) A.in1 (Builtin.«object.__getattribute__» ⟨[.ref x,.str name tk],[]⟩) (fun fin s'=>match fin with | .done f=>R (.ok f) s' | .again c'=>c'.quiet=true/\dX (aN prog w) A c' R s') (fun e s'=>R (.error e) s') ⟨h,g,d,t,os⟩:=
    aR k (fun fin s' z=>by rcases fin with (_ | _ | _ | _) | _ <;> first | exact z | exact z.elim) fun _ _ z=>z.elim
  clear k L0 L1 LI
  repeat (any_goals (first | assumption | wp_step))
theorem OD {tk:Tok}{fill expr:Bool}{Q:aq->ax->Prop}(X:K.In h)(I:InstAt h x ox C od)(hb:nw K (.ref C) (.type "BaseException")=some true)
  (h1:fD K (.ref C) "__getattribute__"=some (some (.builtin "BaseException.__getattribute__"))) (h2:fD K (.ref C) "__getattr__"=some none)
  (k:aL (aN prog w) A.in1 (Builtin.«object.__getattribute__» ⟨[.ref x,.str name tk],[]⟩)
   (fun fin s'=>match fin with | .done (.ret v)=>aL (aN prog w) A (handedOut v) Q E s' | _=>False) (fun _ _=>False) ⟨h,g,d,t,os⟩) :
  aL (aN prog w) A (getAttrBy (.ref x) (.str name tk) fill expr) Q E ⟨h,g,d,t,os⟩:=by
 have L0:=I.type (M:=aN prog w)
 have L1:=fJ (M:=aN prog w) X h1
 have L2:=fJ (M:=aN prog w) X h2
 have f3:=F.excAttr_ValueError.ga.bind (.ref x)
 have hx0:(expr && onTheHeap (aq.builtin "BaseException.__getattribute__"))=false:=by cases expr <;> rfl
 have hx2:(aq.builtin "BaseException.__getattribute__" == aq.builtin "object.__getattribute__")=false:=by decide +kernel
 have hx1:(onTheHeap (aq.ref C) && aq.builtin "BaseException.__getattribute__" == aq.builtin "object.__getattribute__")=false:=by rw [hx2];rfl
 repeat (any_goals (first | assumption | with_reducible refine iM.at L0 ?_ | with_reducible refine iM.at L1 ?_ | with_reducible refine iM.at L2 ?_ | wp_step))
 exact FF X I hb k
structure Nt (K:az)(C:ay):Prop where
 bx:nw K (.ref C) (.type "BaseException")=some true
 ga:fD K (.ref C) "__getattribute__"=some (some (.builtin "BaseException.__getattribute__"))
 gt:fD K (.ref C) "__getattr__"=some none
 cl:fD K (.ref C) "__class__"=some (some (.builtin "object.__class__"))
 gs:gz K (.builtin "object.__class__") "__get__"=some (some (.builtin "getset_descriptor.__get__"))
 tk:mq K (.builtin "object.__class__")=some true
 mo:oy K C (.type "object")=some true
 is:(PySem.W.clsIn K C).isSome=true
end
inductive Dp (X:Cx):List Expr->List aq->Prop
 | nil:Dp X [] []
 | own {x:Str} {p:Pos} {C:ay} {es:List Expr} {cs:List aq}:Gl X x->X.mg x=some (.ref C)->(x == ("__debug__":Str))=false->Dp X es cs->Dp X (.Name x p :: es) (.ref C :: cs)
 | blt {x:Str} {p:Pos} {T:String} {es:List Expr} {cs:List aq}:Gl X x->X.mg x=none->bY x=some (.type T)->x ≠ "__name__"->(x == ("__debug__":Str))=false->Dp X es cs->Dp X (.Name x p :: es) (.type T :: cs)
section
variable {X:Cx}{e c:Expr}{es:List Expr}{cs:List aq}{t:TE}{p pos tp:Pos}{kk:Nat}
end
abbrev AXK:=ay->List (Str × V)->MH->Prop
abbrev xg:=List AV->MH->AK->AXK->Prop
def LK (H:Hp)(O:Own)(M:MH)(d:Option ay)(fs:List (Str × V)):Prop:=d=none/\fs=[] \/ ∃ dx,d=some dx/\H dx=some (.xd fs)/\O dx/\M dx=none
noncomputable def ja (a:xg):Sp:=fun vs H Q E=>∃ xs M O Q' E',Wf H O M/\zj H O M vs xs/\a xs M Q' E'/\(∀ x M' v H' O',Q' x M'->Ext H O M H' O' M'->Wf H' O' M'->zo H' O' M' v x->Q v H') /\
 ∀ C fs M' H' O' d,E' C fs M'->Ext H O M H' O' M'->Wf H' O' M'->LK H' O' M' d fs->E (.ref C) d H'
noncomputable def cE (H0:Hp)(O0:Own)(M0:MH)(E':AXK):XK:=fun c d H'=>∃ C fs M' O',c=.ref C/\E' C fs M'/\Ext H0 O0 M0 H' O' M'/\Wf H' O' M'/\LK H' O' M' d fs
structure EXs (H0:Hp)(O0:Own)(M0:MH)(E:St->XK)(EA:ASt->AXK):Prop where
 go:∀ σ ρ C fs M' H' O' d,EA ρ C fs M'->Ext H0 O0 M0 H' O' M'->Wf H' O' M'->Er H' O' M' σ ρ->LK H' O' M' d fs->E σ (.ref C) d H'
theorem Vk {E':AXK}:EXs H0 O0 M0 (fun _=>cE H0 O0 M0 E') (fun _=>E'):=⟨fun _ _ C fs M' H' O' d q k w _ x=>⟨C,fs,M',O',rfl,q,k,w,x⟩⟩
structure kr (HX:Hp)(OX:Own)(MX:MH)(t:TS)(a:AS):Prop where
 go:∀ {H0:Hp} {O0:Own} {M0:MH} {D:kA} {D':jA} {σ:St} {H:Hp} {O:Own} {ρ:ASt} {M:MH},Ext HX OX MX H0 O0 M0->Wf H0 O0 M0->Wf H O M->Er H O M σ ρ->Ext H0 O0 M0 H O M->a M0 D' ρ M->ED H0 O0 M0 D D'->t D σ H
section
variable {HX:Hp}{OX:Own}{MX:MH}{t u:TS}{a b:AS}{E:St->XK}{EA:ASt->AXK}{sp:xg}{ta:TA}{aa:AA}
theorem FQ (h:jo t a):kr HX OX MX t a:=⟨fun _ w0 w e x q E=>h.go w0 w e x q E⟩
theorem B5 (h1:kr HX OX MX t a)(h2:kr HX OX MX u b):kr HX OX MX (Wk t u) (yX a b):=
 ⟨fun kx w0 w e x q E=>h1.go kx w0 w e x q ⟨fun σ H O ρ M w e x q=>h2.go kx w0 w e x q E,E.rt,E.bk,E.ct⟩⟩
theorem EJ {c:TT} (hc:kq c ac)(h1:kr HX OX MX t a)(h2:kr HX OX MX u b):kr HX OX MX (Hl c t u) (wL ac a b):=
 ⟨fun kx w0 w e x q E=>hc.go w e q fun k M1 H1 O1 q1 k1 w1=>by
  cases k with
  | true=>exact h1.go kx w0 w1 (e.ext k1) (x.trans k1) q1 E
  | false=>exact h2.go kx w0 w1 (e.ext k1) (x.trans k1) q1 E⟩
theorem Fg (hi:ZT wi ai)(hg:yv g ag)(hb:kr HX OX MX t a):kr HX OX MX (GZ wi g t) (IU ai ag a):=⟨fun {H0 O0 M0 D D' σ H O ρ M} kx w0 w e x q E=>by
 rw [Jh]
 refine hi.go w e q fun l G M1 J H1 O1 q1 k1 w1 hj=>?_
 have E1:=E.tr (x.trans k1)
 have kx1:=kx.trans (x.trans k1)
 obtain ⟨Pv,p0,ps,pd⟩:=q1
 refine ⟨fun i m σ H=>m=l.length - i/\i<=l.length/\∃ O ρ M,Wf H O M/\Er H O M σ ρ/\Ext H1 O1 M1 H O M/\Pv i ρ M,⟨l.length,by simp,cn _,O1,ρ,M1,w1,e.ext k1,.refl,p0⟩,?_⟩
 rintro i m σ H ⟨rfl,hi,O,ρ,M,w,e,x,hf⟩
 by_cases hil:i<l.length
 ·have hy:l[i]?=some l[i]:=aj hil
  obtain ⟨hG,q2⟩:=ps i l[i] ρ M hy hf
  obtain ⟨j1,j2⟩:=(hj H O M x.fix x.mst w hG i).2 l[i] hy
  refine .inr ⟨j1,fun σ' H'=>∃ O ρ M,Wf H' O M/\Er H' O M σ' ρ/\Ext H1 O1 M1 H' O M/\Pv (i+1) ρ M,fun σ' H' z=>⟨l.length - (i+1),by omega,rfl,hil,z⟩,fun v H' hv=>?_⟩
  obtain ⟨k2,w2,r2⟩:=j2 v H' hv
  refine hg.go w2 (e.ext k2) r2 q2 fun σ3 H3 O3 ρ3 M3 q3 k3 w3 e3=>?_
  exact hb.go kx1 w1 w3 e3 ((x.trans k2).trans k3) q3 ⟨fun σ H O ρ M w e x q=>⟨O,ρ,M,w,e,x,q⟩,E1.rt,E1.nx,fun σ H O ρ M w e x q=>⟨O,ρ,M,w,e,x,q⟩⟩
 ·have e0:i=l.length:=by omega
  subst e0
  obtain ⟨hG,q2⟩:=pd ρ M hf
  exact .inl ⟨(hj H O M x.fix x.mst w hG l.length).1 rfl,E1.nx _ _ _ _ _ w e x q2⟩⟩
noncomputable def QX (sp:xg)(EA:ASt->AXK)(b:AA):AE:=fun ρ M Q=>b ρ M fun xs M1=>sp xs M1 Q (EA ρ)
theorem AC (hE:EXs HX OX MX E EA)(hu:jc ta aa) {Q':AK}(kx:Ext HX OX MX H O M)(w:Wf H O M)(e:Er H O M σ ρ)(q:QX sp EA aa ρ M Q')(k:∀ x M' v H' O',Q' x M'->Ext H O M H' O' M'->Wf H' O' M'->zo H' O' M' v x->Q v H'):Jy (ja sp) E ta σ H Q:=
 hu.go w e q fun xs M1 vs H1 O1 q1 k1 w1 r1=>⟨xs,M1,O1,Q',EA ρ,w1,r1,q1,fun x M2 v H2 O2 q2 k2 w2 r2=>k x M2 v H2 O2 q2 (k1.trans k2) w2 r2,fun C fs M' H' O' d q2 k2 w2 xd=>hE.go σ ρ C fs M' H' O' d q2 ((kx.trans k1).trans k2) w2 (e.ext (k1.trans k2)) xd⟩
theorem DN (hE:EXs HX OX MX E EA)(hu:jc ta aa)(hg:yv g ag):kr HX OX MX (JK (Jy (ja sp) E ta) g) (G4 (QX sp EA aa) ag):=
 ⟨fun kx _ w e x q D=>AC hE hu (kx.trans x) w e q fun y M1 v H1 O1 q1 k1 w1 r1=>hg.go w1 (e.ext k1) r1 q1 fun σ2 H2 O2 ρ2 M2 q2 k2 w2 e2=>D.nx _ _ _ _ _ w2 e2 ((x.trans k1).trans k2) q2⟩
end
section
variable {K:az}{i:Nat}{T:ay}{tb:(St->XK)->TS}{th:TS}{ab:(ASt->AXK)->AS}{ah:AS}
end
noncomputable def exA (M0:MH)(E:AXK):AXK:=fun C fs M'=>∃ M'',vI M0 M' (.d .non) (.d .non) M''/\E C fs M''
theorem PSs.wish' {st:List cJ}{t:TS}(k:∀ e s,xe e s->X.xe e s)(h:PSs (X.wish xe) st t):PSs X st t:=fun pins s σ H D I hw=>
 aR (h pins s σ H D (I.wish _) hw) (fun _ _ q=>q.unwish) fun e s z=>k e s z
theorem Mv {P : ba}{w : bE}{K : az}{mg : Str -> Option aq}{base : Heap}{x : Str}{st : cJ}{N ps : List Str}{k : Nat}{a : xg}(at_ : At K mg x st)(S : zn N ps (zd st))
    (hb:∀ (kV doc pm:aq) (an:Option ay) (cdv ct:aq) (us:List aq),us.length=ps.length->fm (b7 x x (qq st) (zN st) (zd st) .none kV doc pm an cdv ct) ⟨us,[]⟩=pure (ps.zip us))
    (len:∀ xs M Q E,a xs M Q E->xs.length=ps.length)
    (hbody:∀ (f:ay) (cdv:aq) (A:bt) (outer:List Env) (s:ax) (H:Hp) (HX:Hp) (OX:Own) (MX:MH) (E':AXK),qm k (A.deeper (fK x (zd st) s.heap.objs.size f cdv)) ->
      DX (jF (CX1 P w) P w K mg base N x (zd st) f cdv A outer s H (cE HX OX MX E')) (cE HX OX MX E') ->
      ∃ t,PSs (jF (CX1 P w) P w K mg base N x (zd st) f cdv A outer s H (cE HX OX MX E')) (zN st) t/\∃ b,kr HX OX MX t b/\∀ xs Q E0,E'=exA MX E0->a xs MX Q E0->b MX { nx:=fun _ M'=>rtA MX Q (.d .non) M',rt:=rtA MX Q } (zJ N xs) MX):DfX P w K mg base x ps (k+1) (ja a):=by
  refine Lm at_ S hb (fun vs H Q E h=>?_) (fun f cdv A outer s H vs Q E hr h=>?_)
  · obtain ⟨xs,M,O,Q',E',w,r,q,_⟩:=h
    rw [r.1];exact len xs M Q' E' q
  · obtain ⟨xs,M,O,Q',E',w0,r,q,kk,ke⟩:=h
    obtain ⟨t,ht,b,hb,hq⟩:=hbody f cdv A outer s H H O M (exA M E') hr ⟨rfl,rfl,rfl,rfl⟩
    refine ⟨t,fun D=>?_,?_⟩
    · have ce : ∀ c d H', cE H O M (exA M E') c d H' -> E c d H' := fun c d H' ⟨C, fs, M', O', e1, ⟨M'', f, q2⟩, k1, w1, xd⟩ => by
        subst e1
        obtain ⟨O'',w2,k2,-,ko⟩:=JH w0 w1 k1 (show zo H' O' M' .non (.d .non) from .non) f
        refine ke C fs M'' H' O'' d q2 k2 w2 ?_
        rcases xd with xd | ⟨dx,e1,h1,h2,h3⟩
        · exact .inl xd
        · exact .inr ⟨dx,e1,h1,(ko dx h2 h3).1,(ko dx h2 h3).2⟩
      refine PSs.wish' (fun e s' z=>?_) ht
      exact aR z (fun _ s'' y=>y.imp ce) fun e' s'' y=>y.imp ce
    · refine hb.go .refl w0 w0 (xr r N) .refl (hq xs Q' E' rfl q) ⟨fun σ H' O' ρ M' w' e' x' q'=>?_,fun v y H' O' M' w' x' r' q'=>?_,fun _ _ _ _ _ _ _ _ z=>z.elim,fun _ _ _ _ _ _ _ _ z=>z.elim⟩
      · obtain ⟨y',M'',f,q2⟩:=q'
        obtain ⟨O'',w2,k2,r2⟩:=kE w0 w' x' (show zo H' O' M' .non (.d .non) from .non) f
        exact kk _ _ _ _ _ q2 k2 w2 r2
      · obtain ⟨y',M'',f,q2⟩:=q'
        obtain ⟨O'',w2,k2,r2⟩:=kE w0 w' x' r' f
        exact kk _ _ _ _ _ q2 k2 w2 r2
theorem DX.po (D:DX X E):db (aN X.prog X.w) X.A X.env X.xe:=by rw [D.xe];exact db.leaving
theorem xq:Ze (CX1 X.prog X.w) X fun _=>E0:=fun _ _ _ _ _ _ _ ⟨_,_,_,_,_,_,z⟩=>z.elim
section
variable {X:Cx}{K:az}{body suite:List cJ}{b₀:cJ}{n tx:Str}{i:Nat}{T:ay}{np hpos pos tp p:Pos}{tb:(St->XK)->TS}{th:TS}{e c:Expr}{es:List Expr}{cs:List aq}{t:TE}{kk:Nat}
end
theorem X7 {sp:xg} {b:AA}(h:jc u b):zH (Jy (ja sp) (fun _=>E0) u) (QX sp (fun _ _ _ _=>False) b):=
 ⟨fun w e q k=>h.go w e q fun xs M1 vs H1 O1 q1 k1 w1 r1=>⟨xs,M1,O1,_,_,w1,r1,q1,fun x M2 v H2 O2 q2 k2 w2 r2=>k x M2 v H2 O2 q2 (k1.trans k2) w2 r2,fun _ _ _ _ _ _ z=>z.elim⟩⟩
theorem exX {HX:Hp}{OX:Own}{MX:MH}{t:TS} {b:AS}(h:kr HX OX MX t b)(k:q b):∃ b,kr HX OX MX t b/\q b:=⟨b,h,k⟩
section
variable {X:Cx}
end
end L2
namespace PySem
open Sem (wp)
section
variable {prog:ba}{w:bE}{A:bt}{E:aq->ax->Prop}{h:Heap}{g:Array GenState}{d:Drawn}{t:Nat}{os:OsState}
variable {nm q:Str}{C N:ay}{bs bm bmB:List aq}{hdct:Bool}{sn:List Str}{sub:List aq}{ab:Bool}{col:Option Bool}{dd:Option ay}{k0 k1 k2 k3 k5:Option aq}{B Bn newId nid initId inN:String}{bmN:List aq}
variable {mN:Str->Option aq} {fI:ay} {oI:Obj}
theorem Jj (Fn:fj Bn newId inN bmN)(hBn:bmB.contains (.type Bn)=true)(F:fj B nid initId bmB)(T:oC h bmB bm) {qk:List aq} {Q:Fin->ax->Prop}
  (hC:h.get? C=some (e6 nm q C N bs bm hdct sn sub ab col dd k0 k1 k2 k3 k5 newId)) (hn:h.Ns N mN) (hi:mN "__init__"=some (.ref fI)) (hfI:h.get? fI=some oI) (hfc:oI.cls=.type "function")
  (hq:∀ h' e,iO h h' e (.ref C) qk->aL (aN prog w) A (call (.ref fI) (.ref e :: qk)) (fun r s'=>r=.none/\Q (.done (.ret (.ref e))) s') E ⟨h',g,d,t,os⟩) (hrest:qk.length<=aT:=by size_fits) :
  aL (aN prog w) A (Builtin.«type.__call__» ⟨.ref C :: qk,[]⟩) Q E ⟨h,g,d,t,os⟩:=by
 repeat (first | with_reducible refine d3 hC ?_ | with_reducible refine wpAny_madeBy_exc hC ?_ | wp_step)
 refine codeAny_call_builtin_code (iL _ Fn.quiet) (wpAny_check_new_subU Fn hBn T hC ?_)
 refine codeAny_exc_new_subU Fn hBn F T hC ?_ hrest
 show aL _ _ _ _ _ _
 have hC₁:=aD { cls:=.ref C,data:=.fields #[.ref h.objs.size,.none,.none,.none,.bool false,.none] }
  (aD { cls:=.type "tuple",data:=.seq qk.toArray } hC)
 have hfI₁:=aD { cls:=.ref C,data:=.fields #[.ref h.objs.size,.none,.none,.none,.bool false,.none] }
  (aD { cls:=.type "tuple",data:=.seq qk.toArray } hfI)
 have hn₁:((h.push { cls:=.type "tuple",data:=.seq qk.toArray }).push { cls:=.ref C,data:=.fields #[.ref h.objs.size,.none,.none,.none,.bool false,.none] }).Ns N mN:=
  let ⟨o,es,ep,e,r⟩:=hn;⟨o,es,ep,aD _ (aD _ e),r⟩
 have hget:((h.push { cls:=.type "tuple",data:=.seq qk.toArray }).push
   { cls:=.ref C,data:=.fields #[.ref h.objs.size,.none,.none,.none,.bool false,.none] }).get? (h.objs.size+1)=some
   { cls:=.ref C,data:=.fields #[.ref h.objs.size,.none,.none,.none,.bool false,.none] }:=by heap_get
 have hcC:(aq.ref C :: bm).contains (.ref C)=true:=by simp
 have T₁:=T.keeps (h':=(h.push { cls:=.type "tuple",data:=.seq qk.toArray }).push { cls:=.ref C,data:=.fields #[.ref h.objs.size,.none,.none,.none,.bool false,.none] })
  fun b o e=>aD _ (aD _ e)
 unfold isInstance
 repeat (first | with_reducible refine d3 hget ?_ | (with_reducible refine ir hC₁ ?_;rw [hcC]) | wp_step)
 show aL _ _ (typeLookup (.ref C) _) _ _ _
 refine wpAny_typeLookup_tail hC₁ hn₁ T₁ F.mroIs F.init.lookup ?_
 rw [hi]
 refine cQ (aw ?_)
 unfold bindSpecial
 refine aw (iz (T:="function") ⟨_,hfI₁,hfc⟩ ?_)
 rw [if_pos (by decide)]
 refine aJ (aw (aR (hq _ (h.objs.size+1) ⟨fun b o hb=>aD _ (aD _ hb),fH (h9 _),h.objs.size,hget,fH (aF _),?_⟩) (fun r s' hr=>?_) fun _ _ x=>x))
 ·exact aD _ (Heap.get?_push_at rfl rfl)
 ·obtain ⟨rfl,hQ⟩:=hr
  wp_walk
  exact hQ
theorem YV (Fn:fj Bn newId inN bmN)(hBn:bmB.contains (.type Bn)=true)(F:fj B nid initId bmB)(T:oC h bmB bm) {qk:List aq} {Q:aq->ax->Prop}
  (hC:h.get? C=some (e6 nm q C N bs bm hdct sn sub ab col dd k0 k1 k2 k3 k5 newId)) (hn:h.Ns N mN) (hi:mN "__init__"=some (.ref fI)) (hfI:h.get? fI=some oI) (hfc:oI.cls=.type "function")
  (hq:∀ h' e,iO h h' e (.ref C) qk->aL (aN prog w) (A.under (.builtin "type.__call__" ⟨.ref C :: qk,[]⟩)) (call (.ref fI) (.ref e :: qk)) (fun r s'=>r=.none/\Q (.ref e) s') E ⟨h',g,d,t,os⟩) (hrest:qk.length<=aT:=by size_fits) :
  aL (aN prog w) A (call (.ref C) qk) Q E ⟨h,g,d,t,os⟩:=by
 have f1:=tc_lookup
 have f2:=tc_bind (.ref C)
 have hT:(⟨h,g,d,t,os⟩:ax).TypeIs (.ref C) "type":=⟨_,hC,rfl⟩
 refine iF (codeAny_of_tree ?_)
 show aL _ _ (callAny (.ref C) _) _ _ _
 repeat (any_goals (first | assumption | with_reducible refine d3 hC ?_ | wp_step))
 refine ⟨rfl,?_⟩
 refine codeAny_call_builtin_at (iL _ (by decide +kernel)) entry_typeCall (wpAny_check_type_call_sub hC (Jj (hrest:=hrest) Fn hBn F T hC hn hi hfI hfc fun h' e hm=>?_))
 exact hq h' e hm
end
section
variable {M:ou}{A:bt}{E:aq->ax->Prop}{env:Env}
variable {nm q:Str}{C N:ay}{bs bm:List aq}{hdct:Bool}{sn:List Str}{sub:List aq}{ab:Bool}{col:Option Bool}{dd:Option ay}{k0 k1 k2 k3 k5:Option aq}{newId:String}
theorem Q6 {s:ax}{x:Sem aq}{Q:Flow->ax->Prop}(hbase:bm.contains (.type "BaseException")=true)(hh:A.handled=none)
  (h:aL M A x (fun v s₁=>∃ e t dx,v=.ref e/\s₁.heap.get? C=some (e6 nm q C N bs bm hdct sn sub ab col dd k0 k1 k2 k3 k5 newId) /\
   s₁.heap.get? e=some { cls:=.ref C,data:=.fields #[.ref t,.none,.none,.none,.bool false,.none],dict:=dx }/\E (.ref e) s₁) E s) :
  aL M A (oj env (some x) none) Q E s:=by
 have hcB:(aq.ref C :: bm).contains (.type "BaseException")=true:=by rw [nI,hbase,Bool.or_true]
 unfold oj
 refine aw (aR h (fun v s₁ h₁=>?_) fun _ _ x=>x)
 obtain ⟨e,t,dx,rfl,hC,he,hE⟩:=h₁
 obtain ⟨hp,g,d,tk,os⟩:=s₁
 repeat (first | with_reducible refine d3 he ?_ | with_reducible refine d3 hC ?_ | (with_reducible refine ir hC ?_;rw [hcB]) | wp_step)
 exact wpAny_raiseNew_none hh hE
end
section
variable {prog:ba}{w:bE}{A:bt}{E:aq->ax->Prop}{s:ax}{env:Env}
variable {nm q:Str}{C N:ay}{bs bm bmB:List aq}{hdct:Bool}{sn:List Str}{sub:List aq}{ab:Bool}{col:Option Bool}{dd:Option ay}{k0 k1 k2 k3 k5:Option aq}{B Bn newId nid initId inN:String}{bmN:List aq}
theorem Dh (Fn:fj Bn newId inN bmN)(hBn:bmB.contains (.type Bn)=true)(F:fj B nid initId bmB){mN:Str->Option aq}{x:Str}{np cpos pos:Pos}{args:List Expr}{Q:Flow->ax->Prop}{fI:ay}{oI:Obj}
  (hbase:bm.contains (.type "BaseException")=true) (hh:A.handled=none) (hplain:(cH cpos (aV args env)).any (·.1)=false) (hi:mN "__init__"=some (.ref fI)) (hfc:oI.cls=.type "function")
  (h:aL (aN prog w) A (eval (.Name x np) env) (fun f s₁=>f=.ref C/\aL (aN prog w) A (evalArgs (.ref C) true (cH cpos (aV args env)) [])
   (fun a s₂=>a.kw=[]/\a.pos.length<=aT/\s₂.heap.get? C=some (e6 nm q C N bs bm hdct sn sub ab col dd k0 k1 k2 k3 k5 newId)/\s₂.heap.Ns N mN/\oC s₂.heap bmB bm/\s₂.heap.get? fI=some oI /\
    ∀ h' e,iO s₂.heap h' e (.ref C) a.pos->aL (aN prog w) (A.under (.builtin "type.__call__" ⟨.ref C :: a.pos,[]⟩)) (call (.ref fI) (.ref e :: a.pos)) (fun r s'=>r=.none /\
     s'.heap.get? C=some (e6 nm q C N bs bm hdct sn sub ab col dd k0 k1 k2 k3 k5 newId)/\(∃ t dx,s'.heap.get? e=some { cls:=.ref C,data:=.fields #[.ref t,.none,.none,.none,.bool false,.none],dict:=dx })/\E (.ref e) s') E { s₂ with heap:=h' }) E s₁) E s) :
  aL (aN prog w) A (exec (.Raise (some (.Call (.Name x np) args [] cpos)) none pos) env) Q E s:=by
 rw [arm_exec_Raise]
 refine aw (cD (Q6 (C:=C) (nm:=nm) (q:=q) (N:=N) (bs:=bs) (bm:=bm) (hdct:=hdct) (sn:=sn) (sub:=sub) (ab:=ab) (col:=col) (dd:=dd) (k0:=k0) (k1:=k1) (k2:=k2) (k3:=k3) (k5:=k5) (newId:=newId) hbase hh (aw (aR (wpAny_Call_ofName (aR h (fun f s₁ h₁=>?_) fun _ _ x=>x)) (fun v s₃ h₃=>aw (cD (aJ h₃))) fun _ _ x=>x))))
 obtain ⟨rfl,h₁⟩:=h₁
 unfold h8
 refine aw (cQ (aR h₁ (fun a s₂ h₂=>aw (cD ?_)) fun _ _ x=>x))
 obtain ⟨apos,akw⟩:=a
 obtain ⟨hkw,hlen,hC,hn,T,hf,h₂⟩:=h₂
 obtain rfl:akw=[]:=hkw
 obtain ⟨hp,g,d,tk,os⟩:=s₂
 simp only [hplain]
 refine aw (wpAny_keeperOf_exc hC ?_)
 refine aw (YV (hrest:=hlen) Fn hBn F T hC hn hi hf hfc fun h' e hm=>aR (h₂ h' e hm) (fun r s' hr=>⟨hr.1,aw (cQ (wpAny_point (aJ ?_)))⟩) fun _ _ x=>x)
 obtain ⟨_,hC',⟨t,dx,he⟩,hE⟩:=hr
 exact ⟨e,t,dx,rfl,hC',he,hE⟩
end
end PySem
namespace L2
open PySem PySem.Spec PyProof.Rows
open PySem.W (Looks InstAt findIn findObj subIn mroIn clsIn takerIn hasDictIn)
noncomputable def BO:aq->Bool
 | .ref _=>true
 | _=>false
noncomputable def AY (l:List aq):Bool:=l.dropWhile BO == vG
theorem E5 {a:aq}(h:BO a=true):∃ c,a=.ref c:=by cases a <;> first | exact ⟨_,rfl⟩ | cases h
theorem vM (self:aq):∀ l:List aq,refuseLoop self "__setattr__" l=refuseLoop self "__setattr__" (l.dropWhile BO)
 | []=>rfl
 | a :: r=>by
  by_cases h:BO a=true
  ·obtain ⟨c,rfl⟩:=E5 h
   rw [refuseLoop_ref,List.dropWhile_cons_of_pos h];exact vM self r
  ·rw [List.dropWhile_cons_of_neg h]
theorem Wz (self:aq){l:List aq}(h:AY l=true):refuseLoop self "__setattr__" l=pure ():=by
 rw [vM,show l.dropWhile BO=vG from eq_of_beq h];exact PySem.F.store_ValueError.passes self
structure ye (K:az)(C:ay)(name:Str):Prop where
 s:fD K (.ref C) "__setattr__"=some (some (.builtin "object.__setattr__"))
 t:m8 K C name=some none
 hd:fB K C=true
 mo:oy K C (.type "object")=some true
 ve:(clsIn K C).any (fun cd=>AY cd.mro)=true
section
variable {prog:ba}{w:bE}{A:bt}{E:aq->ax->Prop}{s:ax}{K:az}{x C:ay}{ox:Obj}{od:Option Obj}{name:Str}{v:aq}
theorem YL {tk:Tok}{R:nD->ax->Prop}(X:K.In s.heap)(I:InstAt s.heap x ox C od)(S:ye K C name)
  (h:∀ b,aL (aN prog w) A.in1 (Builtin.ObjectAttr.storeInOwnDict (.ref x) (.ref C) (.str name tk) name v b)
   (fun fin s'=>match fin with | .done f=>R (.ok f) s' | .again c'=>c'.quiet=true/\dX (aN prog w) A c' R s') (fun e s'=>R (.error e) s') s) :
  dX (aN prog w) A (.call (.builtin "object.__setattr__") ⟨[.ref x,.str name tk,v],[]⟩) R s:=by
 have SF:=PySem.F.store_object
 obtain ⟨cd,hc,ho⟩:=gR S.ve
 have sub:iM (aN prog w) s.heap (isInstance (.ref x) (.type "object")) true:=I.type.andThen (PySem.W.looks_mroIn X S.mo)
 refine codeAny_call_builtin SF.slot.plain SF.entry (@PySem.W.check_slot (aN prog w) _ _ s "object.__setattr__" "object" "__setattr__" (.ref x) [.str name tk,v] [] _ SF.kind SF.split sub (SF.args (.ref x) (.str name tk) v) ?_)
 obtain ⟨attr,ha,hr⟩:=Option.bind_eq_some_iff.mp S.t
 have hm:iM (aN prog w) s.heap (mroOf (.ref C)) cd.mro:=(fX X hc).andThen .now
 have L3:iM (aN prog w) s.heap (Builtin.ObjectAttr.storeTaker? attr) none:=by
  cases attr with
  | none=>exact .now
  | some a=>
   obtain ⟨b,hb,hb2⟩:=fh.mp hr
   cases b with
   | true=>cases hb2
   | false=>exact (PySem.W.looks_takesIn X hb).andThen .now
 rw [PySem.W.osa_eq,refuse_eq]
 refine aw (aw (I.type.here (aw (hm.here ?_))))
 rw [Wz _ ho]
 refine aJ (aw (I.type.here (aw ((fJ X ha).here (aw (L3.here ?_))))))
 exact h _
variable {vs:Array aq} {Q:Unit->ax->Prop}
theorem A0 (X:K.In s.heap)(hx:s.heap.get? x=some ox)(hc:ox.cls=.ref C)(hf:ox.data=.fields vs)(hd:ox.dict=none)(S:ye K C name)
  (h:∀ h' tk,h'.Ns1 s.heap.objs.size (fun y=>if y=name then some v else none)->h'.get? x=some { ox with dict:=some s.heap.objs.size }->(∀ b o,b ≠ x->s.heap.get? b=some o->h'.get? b=some o)->Q () { s with heap:=h',toks:=tk }) :
  aL (aN prog w) A (setAttr (.ref x) name v) Q E s:=by
 have I:InstAt s.heap x ox C none:=⟨hx,hc,by unfold mV;rw [hf],by rw [hd];trivial⟩
 obtain ⟨cd,hcd,hdd⟩:=gR S.hd
 obtain ⟨oc,odt,oda,osl⟩:=ox
 dsimp only at hc hf hd
 subst hc hf hd
 have hx₁:(s.heap.push { cls:=.type "dict",data:=.dict #[] }).get? x=some ⟨.ref C,none,.fields vs,osl⟩:=aD _ hx
 have hxs:x ≠ s.heap.objs.size:=bw (aM hx)
 refine i8 X I S.s (YL (s:={ s with toks:=s.toks+1 }) (od:=none) X I S fun b=>?_)
 refine aw (aJ (aw (aw (mJ hx (aw (hU.here (s:={ s with toks:=s.toks+1 }) (fX X hcd) ?_))))))
 rw [hdd]
 have htd:typeHasDict (aq.ref C)=true:=by simp [typeHasDict]
 dsimp only
 rw [if_neg (by decide),htd,if_neg (by decide)]
 refine aw (wpAny_alloc' ?_)
 refine aw (wpAny_update' hx₁ ?_)
 refine aJ ?_
 have hgd:((s.heap.push { cls:=.type "dict",data:=.dict #[] }).update x fun o=>{ cls:=o.cls,dict:=some s.heap.objs.size,data:=o.data,slots:=o.slots }).get? s.heap.objs.size
  =some { cls:=.type "dict",data:=.dict #[] }:=
  (Heap.get?_update_ne _ _ _ _ hxs.symm).trans (Heap.get?_push_at rfl rfl)
 have hnd:((s.heap.push { cls:=.type "dict",data:=.dict #[] }).update x fun o=>{ cls:=o.cls,dict:=some s.heap.objs.size,data:=o.data,slots:=o.slots }).Ns s.heap.objs.size (fun _=>none):=
  ⟨_,#[],_,hgd,rfl,fun e he=>absurd he (by simp),fun _=>rfl⟩
 show aL _ _ (gY s.heap.objs.size (.str name s.toks) name v) _ _ _
 unfold gY Builtin.ObjectAttr.newKeyGuard
 refine aw (aJ (aw (nM (Heap.Ns1.of_empty hnd) fun h' hn' hs=>?_)))
 obtain ⟨oD,esD,epD,hoD,hdD,hcD⟩:=hn'.count (Within.cons name v Within.nil)
 refine aw (lE hoD (by rw [hdD];exact lF (bf hcD (by rw [aK,fk,dq];omega))) ?_)
 refine aJ (h h' _ hn' ?_ fun b o hb e=>?_)
 ·refine (hs.2 x hxs).trans (dJ _ hx₁ rfl)
 ·exact (hs.2 b (bw (aM e))).trans ((Heap.get?_update_ne _ _ _ _ hb).trans (aD _ e))
theorem FR {dx:ay} {mA:Str->Option aq}{ns:List Str} (X:K.In s.heap)(hx:s.heap.get? x=some ox)(hc:ox.cls=.ref C)(hf:ox.data=.fields vs)(hd:ox.dict=some dx)(hn:s.heap.Ns1 dx mA)(S:ye K C name)(hw:Within mA ns)(hsz:ns.length<=1000)
  (h:∀ h' tk,h'.Ns1 dx (fun y=>if y=name then some v else mA y)->eg dx s.heap h'->Q () { s with heap:=h',toks:=tk }) :
  aL (aN prog w) A (setAttr (.ref x) name v) Q E s:=by
 obtain ⟨u,hu⟩:∃ u,s.heap.get? dx=some u:=let ⟨o,_,_,e,_⟩:=hn;⟨o,e⟩
 have I:InstAt s.heap x ox C (some u):=⟨hx,hc,by unfold mV;rw [hf],by rw [hd];exact hu⟩
 obtain ⟨cd,hcd,hdd⟩:=gR S.hd
 obtain ⟨oc,odt,oda,osl⟩:=ox
 dsimp only at hc hf hd
 subst hc hf hd
 refine i8 X I S.s (YL (s:={ s with toks:=s.toks+1 }) (od:=some u) X I S fun b=>?_)
 refine aw (aJ (aw (aw (mJ hx (aw (hU.here (s:={ s with toks:=s.toks+1 }) (fX X hcd) ?_))))))
 rw [hdd]
 refine aJ (a:=some dx) (aw (aJ (aw ?_)))
 refine nM (s:={ s with toks:=s.toks+1 }) hn fun h' hn2 hs2=>?_
 obtain ⟨oD,esD,epD,hoD,hdD,hcD⟩:=hn2.count (iu.cons name v hw)
 refine aw (lE hoD (by rw [hdD];exact lF (bf hcD (by rw [aK,dq];omega))) ?_)
 exact aJ (h h' _ hn2 hs2)
end
open PySem.W (Looks InstAt findIn findObj subIn mroIn clsIn takerIn hasDictIn)
noncomputable def Wh (C t:ay)(d:Option ay):Obj:={ cls:=.ref C,data:=.fields #[.ref t,.none,.none,.none,.bool false,.none],dict:=d }
noncomputable def j8 (a C t:ay)(d:Option ay):HO:=.ext fun h=>h.get? a=some (Wh C t d)
noncomputable def XdE (dx:ay)(fs:List (Str × V)):HO:=.ext fun h=>∃ mA,h.Ns1 dx mA/\(∀ f,yu (fs.lookup f) (mA f))/\Within mA (fs.map (·.1))
variable {P:ba} {w:bE} {H:Hp}
theorem Jo {h:Heap}{a C t:ay}{d:Option ay}(e:h.get? a=some (Wh C t d)):zV P w H h a (j8 a C t d):=⟨e,⟨_,e⟩,fun _ _ e k=>k _ e⟩
theorem Dj {h:Heap}{dx:ay}{fs:List (Str × V)}{mA:Str->Option aq}(n:h.Ns1 dx mA)(r:∀ f,yu (fs.lookup f) (mA f))(wi:Within mA (fs.map (·.1))):zV P w H h dx (XdE dx fs):=by
 refine ⟨⟨mA,n,r,wi⟩,?_,fun h1 h2 ⟨mA,⟨o,es,ep,e,c⟩,r⟩ k=>⟨mA,⟨o,es,ep,k _ e,c⟩,r⟩⟩
 obtain ⟨o,_,_,e,_⟩:=n
 exact ⟨o,e⟩
section
variable {X:Cx}{pins:List (ay × Obj)}{σ:St}{H:Hp}{s:ax}
theorem Inv.drop (I:Inv X pins σ H s){x:ay}(mu:Mut (H x))(h0:X.s₀.heap.get? x=none):Inv X pins σ (fun b=>if b=x then none else H b) s:=by
 have ne1:∀ {b:ay} {y:ay},H b=some (.own y)->b ≠ x:=fun e z=>by rw [z] at e;rw [e] at mu;exact mu
 have ne2:∀ {b:ay} {xs:List V},H b=some (.tup xs)->b ≠ x:=fun e z=>by rw [z] at e;rw [e] at mu;exact mu
 refine ⟨I.ok,I.os,I.bare,⟨I.base.keep,I.base.slot,fun b u e n hb=>?_,I.base.there,fun b xs e=>?_,fun b u v e=>?_,fun b ps e=>?_⟩,I.loc,I.cell,?_,fun y c e=>?_,fun p hp'=>?_,fun b u e=>?_,I.len⟩
 ·show (if b=x then none else H b)=none
  split
  ·rfl
  ·exact I.base.free b u e n hb
 ·have:=I.base.tups b xs e
  show (if b=x then none else H b)=_
  rw [if_neg (ne2 this)];exact this
 ·have:=I.base.frzs b u v e
  show (if b=x then none else H b)=_
  rw [if_neg (fun z=>by rw [z] at this;rw [this] at mu;exact mu)];exact this
 ·obtain ⟨m,this⟩:=I.base.tbls b ps e
  refine ⟨m,?_⟩
  show (if b=x then none else H b)=_
  rw [if_neg (fun z=>by rw [z] at this;rw [this] at mu;exact mu)];exact this
 ·show (if _=x then none else H _)=none
  split
  ·rfl
  ·exact I.free
 ·show (if _=x then none else H _)=none
  split
  ·rfl
  ·exact I.freeC y c e
 ·obtain ⟨e1,e2,e3⟩:=I.pin p hp'
  refine ⟨e1,?_,e3⟩
  show (if _=x then none else H _)=none
  split
  ·rfl
  ·exact e2
 ·have e:(if b=x then none else H b)=some u:=e
  split at e
  ·cases e
  ·exact (I.hok b u e).stay (fun _ _ _ q=>q) (fun d q=>by show (if _=x then none else H _)=_;rw [if_neg (ne1 q)];exact q) fun d xs q=>by show (if _=x then none else H _)=_;rw [if_neg (ne2 q)];exact q
noncomputable def Qv (K:az)(ta tv:TE)(f:Str):TS:=fun D σ H=>tv σ H fun y H1=>ta σ H1 fun x H2=>∃ a C t,x=.ref a/\ye K C f /\
 ((H2 a=some (j8 a C t none)/\∀ dx,H2 dx=none->dx ≠ a->D.nx σ (upd (upd H2 a (j8 a C t (some dx))) dx (XdE dx [(f,y)]))) \/
  ∃ dx fs,H2 a=some (j8 a C t (some dx))/\H2 dx=some (XdE dx fs)/\fs.length<1000/\D.nx σ (upd H2 dx (XdE dx (jE f y fs))))
variable {o value:Expr}{f:Str}{ta tv:TE}{pos pos':Pos}
theorem xZ (ha:PE X o ta)(hv:PE X value tv)(hs:mY value (some (.Attribute o f pos')) pos.line X.env=pure false):PS X (.Assign [.Attribute o f pos'] value pos) (Qv X.K ta tv f):=by
 intro pins s σ H D I h
 refine gN (thn (hv pins s σ H _ I h) fun u s1 ⟨y,H1,I1,ry,q⟩=>thn (ha pins s1 σ H1 _ I1 q) fun ov s2 ⟨x,H2,I2,rx,a,C,t,ex,S,q2⟩=>?_) hs
 subst ex
 obtain rfl:ov=aq.ref a:=rx
 rcases q2 with ⟨ea,q2⟩ | ⟨dx,fs,ea,ed,hl,q2⟩
 ·have ho:s2.heap.get? a=some (Wh C t none):=(I2.hok a _ ea).1
  refine A0 I2.kIn ho rfl rfl rfl S fun h' tk hn hx k=>?_
  have dn:H2 s2.heap.objs.size=none:=I2.hok.fresh (aF _)
  have da:s2.heap.objs.size ≠ a:=e7 (aM ho)
  have hd:∀ b o,s2.heap.get? b=some o->b ≠ s2.heap.objs.size:=fun b o e=>bw (aM e)
  have na:∀ {b:ay} {u:HO},H2 b=some u->(∀ φ,u ≠ .ext φ)->b ≠ a:=fun e n z=>by rw [z,ea] at e;cases e;exact n _ rfl
  have I3:Inv X pins σ (upd (upd H2 a (j8 a C t (some s2.heap.objs.size))) s2.heap.objs.size (XdE s2.heap.objs.size [(f,y)])) { s2 with heap:=h',toks:=tk }:=by
   refine I2.un ⟨fun b o e n _ _=>k b o (fun z=>by rw [z,ea] at n;cases n) e,fun b o e n _ _=>⟨o.slots,k b o (fun z=>by rw [z,ea] at n;cases n) e⟩,fun b o e n _=>?_,fun b o e _=>?_,fun b xs e=>?_,fun b o u e=>?_,fun b ps e=>?_⟩ fun b u' e=>?_
   ·rw [zh (hd b o e),zh (fun z=>by rw [z,ea] at n;cases n)];exact n
   ·by_cases c:b=a
    ·exact ⟨_,c ▸ hx⟩
    ·exact ⟨o,k b o c e⟩
   ·rw [zh (zm e dn),zh (na e fun _ z=>nomatch z)];exact e
   ·rw [zh (zm e dn),zh (na e fun _ z=>nomatch z)];exact e
   ·exact ⟨#[],by rw [zh (zm e dn),zh (na e fun _ z=>nomatch z),Array.append_empty];exact e⟩
   ·by_cases c:b=s2.heap.objs.size
    ·subst c
     rw [zi] at e
     cases e
     refine Dj hn (fun g=>?_) fun g hg=>?_
     ·have e1:dH g [(f,y)]=if g=f then some y else none:=j4 f g y []
      rw [e1]
      by_cases q:g=f
      ·rw [if_pos q,if_pos q];exact ry
      ·rw [if_neg q,if_neg q];trivial
     ·by_cases q:g=f
      ·rw [q];simp
      ·exact absurd (if_neg q) hg
    ·rw [zh c] at e
     by_cases c2:b=a
     ·subst c2
      rw [zi] at e
      cases e
      exact Jo hx
     ·rw [zh c2] at e
      refine (I2.hok b u' e).stay (fun d v hd' q=>k d v (fun z=>?_) q) (fun d q=>?_) fun d xs q=>?_
      ·rcases hd' with rfl | hd'
       ·exact c2 z
       ·exact na hd' (fun _ z=>nomatch z) z
      ·rw [zh (zm q dn),zh (na q fun _ z=>nomatch z)];exact q
      ·rw [zh (zm q dn),zh (na q fun _ z=>nomatch z)];exact q
  exact ⟨σ,_,I3,q2 _ dn da⟩
 ·have ho:s2.heap.get? a=some (Wh C t (some dx)):=(I2.hok a _ ea).1
  obtain ⟨⟨mA,hn,r,wi⟩,_,_⟩:=I2.hok dx _ ed
  refine FR I2.kIn ho rfl rfl rfl hn S wi (by rw [am];omega) fun h' tk hn' sb=>?_
  have hd:∃ o,h'.get? dx=some o:=let ⟨o,_,_,e',_⟩:=hn';⟨o,e'⟩
  refine ⟨σ,_,I2.write (x:=dx) (e:=dx) (by rw [ed];exact True.intro) (.inl rfl) (fun b q hb z=>(sb.2 b hb).trans z) hd (Dj hn' (fun g=>?_) fun g hg=>?_),q2⟩
  ·rw [j4]
   by_cases q:g=f
   ·rw [if_pos q,if_pos q];exact ry
   ·rw [if_neg q,if_neg q];exact r g
  ·by_cases q:g=f
   ·rw [q];exact (kz f y fs).1
   ·refine (kz f y fs).2 g (wi g fun z=>hg ?_)
    show (if g=f then some u else mA g)=none
    rw [if_neg q];exact z
end
variable {K:az} {mg:Str->Option aq} {v:aq}
theorem Xp {h:Heap}{N:ay} {n:Str} (X:K.In h)(G:h.Ns N mg)(e:bK K N n=some (some v)):mg n=some v:=by
 obtain ⟨o,es,ep,ho,hd,_,hf⟩:=G
 unfold bK at e
 split at e
 ·rename_i c d es' n' sl q
  have:=X _ _ q
  rw [ho] at this
  cases this
  cases hd
  split at e
  ·rename_i en he
   cases e
   rw [<- hf]
   unfold nsFind findBy
   rw [<- nC,he]
   rfl
  ·split at e <;> cases e
 ·cases e
noncomputable def jp (K:az)(C:ay)(bmB:List aq)(newId:String)(fI:ay):Bool:=match K.lookup C with
 | some ⟨.type "type",_,.cls cd,sl⟩=>(match cd.mro,sl.toList with
  | .ref C' :: bm,[_,_,_,_,some (.builtin n),_]=>C' == C && n == newId && !cd.hasDel && PySem.W.tailIn K bmB bm && PySem.W.nsOkIn K cd.ns && bK K cd.ns "__init__" == some (some (.ref fI))
  | _,_=>false)
 | _=>false
theorem Ka {h:Heap}{C fI:ay}{bmB:List aq}{newId:String}(X:K.In h)(q:jp K C bmB newId fI=true) :
  ∃ bm N nm qn bs hdct sn sub ab col dd k0 k1 k2 k3 k5 mN,h.get? C=some (e6 nm qn C N bs bm hdct sn sub ab col dd k0 k1 k2 k3 k5 newId)/\h.Ns N mN/\mN "__init__"=some (.ref fI)/\oC h bmB bm:=by
 unfold jp at q
 split at q
 ·rename_i dd cd sl ho
  split at q
  ·rename_i C' bm k0 k1 k2 k3 n k5 hm hs
   simp only [cS,beq_iff_eq,Bool.not_eq_true'] at q
   obtain ⟨⟨⟨⟨⟨z1,z2⟩,z3⟩,z4⟩,z5⟩,z6⟩:=q
   subst z1 z2
   obtain ⟨c1,c2,c3,c4,c5,c6,c7,c8,c9,c10,c11⟩:=cd
   dsimp only at hm z3 z5 z6
   subst hm z3
   have es:sl=#[k0,k1,k2,k3,some (.builtin n),k5]:=Array.ext' hs
   subst es
   exact ⟨bm,c4,c1,c5,c2,c6,c7,c8,c9,c10,dd,k0,k1,k2,k3,k5,_,X _ _ ho,.of_isNs (nJ X z5),Xp X (.of_isNs (nJ X z5)) z6,PySem.W.tail_of_in X z4⟩
  ·cases q
 ·cases q
noncomputable def spI (C:ay)(n:Nat)(fn:List V->List (Str × V)):Sp:=fun vs H Q E=>∃ a t us,vs=.ref a :: us/\us.length=n/\H a=some (j8 a C t none)/\∀ dx,H dx=none->dx ≠ a->Q .non (upd (upd H a (j8 a C t (some dx))) dx (XdE dx (fn us)))
def MkX (P:ba)(w:bE)(K:az)(mg:Str->Option aq)(base:Heap)(C:ay)(k n:Nat)(fn:List V->List (Str × V)):Prop:=
 ∃ f fd ps,jp K C vG "ValueError.__new__" f=true/\jx P w K mg base CX0 k f fd ps (spI C n fn)/\jv K fd ps []/\(∃ oI,K.lookup f=some oI/\oI.cls=.type "function")/\ps.length=n+1
noncomputable def YM (C:ay)(n:Nat)(fn:List V->List (Str × V))(E:St->XK)(t:TA):TS:=fun _ σ H=>t σ H fun vs H1=>vs.length=n/\n<=1000/\∀ dx,H1 dx=none->E σ (.ref C) (some dx) (upd H1 dx (.xd (fn vs)))
section
variable {X:Cx}{E:XK}{C:ay}{x:Str}{np cpos pos:Pos}{e:Expr}{es:List Expr}{t:TA}{k n:Nat}{fn:List V->List (Str × V)}
theorem qy (D:DX X E)(hc:X.calm=true)(m:MkX X.prog X.w X.K X.mg X.base C k n fn)(hr:qm (k+1) X.A)(hg:Gl X x)(hm:X.mg x=some (.ref C))(ha:PA X (e :: es) t)(hdb:(x == ("__debug__":Str))=false:=by decide)
  (he:aV (e :: es) X.env=(false,eval e X.env) :: aV es X.env:=by rfl) (hpl:(cH cpos (aV es X.env)).any (·.1)=false:=by rfl) :
  PS X (.Raise (some (.Call (.Name x np) (e :: es) [] cpos)) none pos) (YM C n fn (fun _=>E) t):=by
 intro pins s σ H De I h
 obtain ⟨fI,fd,ps,q,F,hb,⟨oI,lk,hfc⟩,hps⟩:=m
 obtain ⟨bm,N,nm,qn,bs,hdct,sn,sub,ab,col,dd,k0,k1,k2,k3,k5,mN,hC,hN,hi,T⟩:=Ka I.ok.mod.kin q
 refine Dh (C:=C) (nm:=nm) (q:=qn) (N:=N) (bs:=bs) (bm:=bm) (hdct:=hdct) (sn:=sn) (sub:=sub) (ab:=ab) (col:=col) (dd:=dd) (k0:=k0) (k1:=k1) (k2:=k2) (k3:=k3) (k5:=k5)
  cL (by decide) cL (mN:=mN) (T.hasType cL.hasBase) (I.ok.hd hc) (by rw [he];show (false || (cH cpos (aV es X.env)).any (·.1))=false;rw [hpl];rfl) hi hfc (kK I hg hm ⟨rfl,?_⟩ hdb)
 have:=ha cpos pins s σ H _ I h
 rw [he] at this ⊢
 refine fM (aR this (fun us s2 h2=>?_) fun _ _ y=>y)
 obtain ⟨vs,H1,I1,r,hl,hn,q1⟩:=h2
 have hlu:us.length=n:=by rw [<- r.length];exact hl
 refine ⟨rfl,by rw [hlu,dq];omega,I1.bk _ _ hC,hN.keeps I1.bk,T.keeps I1.bk,I1.kIn _ _ lk,fun h' x1 hx=>?_⟩
 obtain ⟨t1,ho,_,_⟩:=hx.there
 have nx:s2.heap.get? x1=none:=hx.new
 have hx0:X.s₀.heap.get? x1=none:=by
  cases z:X.s₀.heap.get? x1 with
  | none=>rfl
  | some o=>
   obtain ⟨o',e'⟩:=I1.base.there x1 o z (by rw [D.ex];simp)
   rw [nx] at e';cases e'
 have hx1:H1 x1=none:=by
  cases z:H1 x1 with
  | none=>rfl
  | some o=>
   obtain ⟨u,e'⟩:=(I1.hok x1 o z).here
   rw [nx] at e';cases e'
 have I2:Inv X pins σ H1 { s2 with heap:=h' }:=I1.kept (t':=s2.toks) hx.keeps
 have I3:Inv X pins σ (upd H1 x1 (j8 x1 C t1 none)) { s2 with heap:=h' }:=I2.track hx1 hx0 (fun z=>by
   obtain ⟨mm,⟨o,_,_,e',_⟩,_⟩:=I1.loc
   rw [<- z,nx] at e';cases e') (fun y c e' z=>by
   obtain ⟨v,o,e2,_⟩:=I1.cell y c e'
   rw [z,nx] at e2;cases e2) (fun p hp z=>by
   have:=(I1.pin p hp).1
   rw [z,nx] at this;cases this) (Jo ho)
 have r2:zz (V.ref x1 :: vs) (aq.ref x1 :: us):=.cons rfl r
 have hl2:(aq.ref x1 :: us ++ []).length=ps.length:=by rw [bP,aK,hlu,hps]
 have b1:=hb { s2 with heap:=h' } (aq.ref x1 :: us) I3.kIn hl2
 rw [bP] at b1
 refine iF (e9 (F.run _ X.stack _ _ ⟨aq.ref x1 :: us,[]⟩ (aq.ref x1 :: us) (V.ref x1 :: vs) (fun v H2=>v=.non/\∃ dx,H1 dx=none/\dx ≠ x1/\H2=upd (upd H1 x1 (j8 x1 C t1 (some dx))) dx (XdE dx (fn vs))) E (hr.make C us []) (I3.env0.make C us []) b1 r2 ⟨x1,t1,vs,rfl,hl,zi,fun dx hd hne=>⟨rfl,dx,?_,hne,by rw [xN]⟩⟩) fun r s' hq'=>?_)
 ·rw [zh hne] at hd;exact hd
 cases r with
 | error e=>exact ca hq'
 | ok fl=>
  cases fl with
  | ret u=>
   obtain ⟨v,H',I4,rv,ev,dx,d1,d2,eH⟩:=I3.after hq'
   subst ev eH
   have hcl:=I4.bk _ _ hC
   have hex:s'.heap.get? x1=some (Wh C t1 (some dx)):=by
    have:=I4.hok x1 (j8 x1 C t1 (some dx)) (by rw [zh (Ne.symm d2),zi])
    exact this.1
   refine ⟨rv,hcl,⟨t1,some dx,hex⟩,?_⟩
   have I5:=I4.drop (x:=x1) (by rw [zh (Ne.symm d2),zi];exact True.intro) hx0
   have eH:(fun b=>if b=x1 then none else upd (upd H1 x1 (j8 x1 C t1 (some dx))) dx (XdE dx (fn vs)) b)=upd H1 dx (XdE dx (fn vs)):=by
    funext b
    by_cases c:b=x1
    ·rw [if_pos c,c,zh (Ne.symm d2)];exact hx1.symm
    ·rw [if_neg c]
     by_cases c2:b=dx
     ·rw [c2,zi,zi]
     ·rw [zh c2,zh c,zh c2]
   rw [eH] at I5
   obtain ⟨⟨mA,hn1,hr1,_⟩,⟨od,hod⟩,_⟩:=I5.hok dx (XdE dx (fn vs)) zi
   have I6:=I5.write (x:=dx) (e:=dx) (h':=s'.heap) (t':=s'.toks) (o:=.xd (fn vs)) (by rw [zi];exact True.intro) (.inl rfl) (fun _ _ _ z=>z) ⟨od,hod⟩ ⟨mA,hn1,hr1⟩
   rw [xN] at I6
   exact D.raise (C:=C) (d:=some dx) I6 (x:=x1) (h1:=s'.heap) (fun b o _ z=>z) (fun o z=>by rw [hex] at z;cases z;exact ⟨_,rfl⟩) hex rfl rfl rfl rfl rfl (.inl rfl) hx0 (by rw [zh (Ne.symm d2)];exact hx1) (q1 dx d1)
  | next=>exact ca hq'
  | brk=>exact ca hq'
  | cont=>exact ca hq'
end
open PySem.W (Looks InstAt findIn findObj subIn mroIn clsIn takerIn hasDictIn)
def DmX (P:ba)(w:bE)(K:az)(mg:Str->Option aq)(base:Heap)(C:ay)(m:Str)(ps:List Str)(k:Nat)(sp:Sp):Prop:=
 ∃ f fd,jx P w K mg base (CX1 P w) k f fd ps sp/\jv K fd ps []/\XN K C m f
variable {base:Heap} {C:ay} {m:Str} {ps:List Str} {sp:Sp}
theorem DmX.mono {j k:Nat} (D:DmX P w K mg base C m ps j sp)(h:j<=k):DmX P w K mg base C m ps k sp:=
 let ⟨f,fd,F,r⟩:=D
 ⟨f,fd,F.mono h,r⟩
noncomputable def vd (C:ay)(m:Str)(sp:Sp)(E:St->XK)(ta:TE)(t:TA):TE:=fun σ H Q=>ta σ H fun x H1=>∃ a dx fs,x=.ref a/\H1 a=some (.ins C dx fs)/\fs.lookup m=none/\t σ H1 fun vs H2=>sp (x :: vs) H2 Q (E σ)
section
variable {X:Cx}{k:Nat}{C:ay}{m x:Str}{ps:List Str}{sp:Sp}{E:St->XK}{p pos apos:Pos}{o e:Expr}{es:List Expr}{t:TA}{to:TE}
theorem jO {pl:Sem Bool}(c:Cls X.K C)(D:DmX X.prog X.w X.K X.mg X.base C m ps k sp)(hr:qm k X.A)(hx:Ze (CX1 X.prog X.w) X E)(ho:PE X o to)(ha:PA X (e :: es) t)
  (hst:aV (e :: es) X.env=(false,eval e X.env) :: aV es X.env:=by rfl) (hpl:(cH pos (aV es X.env)).any (·.1)=false:=by rfl)
  (ht:eval (.Call (.Attribute o m apos) (e :: es) [] pos) X.env=(do
   let ov <- eval o X.env
   iZ apos.atName
   let (f,first) <- holding [ov] (getMethod ov m pl)
   h8 pos f first (cH pos (aV (e :: es) X.env)) (fY pos (eE [] X.env))):=by rfl) :
  PE X (.Call (.Attribute o m apos) (e :: es) [] pos) (vd C m sp E to t):=by
 obtain ⟨f,fd,F,b,hm⟩:=D
 intro pins s σ H Q I h
 refine fC (pl:=pl) (thn (ho pins s σ H _ I h) fun u s1 ⟨x,H1,I1,rx,a,dx,fs,ex,ea,l,q⟩=>?_) ht
 subst ex
 obtain rfl:u=aq.ref a:=rx
 refine kP I1 ea c hm l ?_
 refine fc (first:=[.ref a]) (h₀:=X.base) I.ok.mod.kin hm.kp (thn (ha pos pins s1 σ H1 _ I1 q) fun us s2 ⟨vs,H2,I2,r,q2⟩=>⟨I2.kIn,?_⟩) hst hpl
 exact YE (us:=.ref a :: us) (vs:=.ref a :: vs) F hr b hx I2 (.cons rfl r) q2
end
variable {qual:Str} {st:cJ} {N:List Str} {k:Nat}
theorem Ls (a:AtM K C m qual st)(S:zn N ps (zd st))
  (hb:∀ (kV doc pm:aq) (an:Option ay) (cdv ct:aq) (us:List aq),us.length=ps.length->fm (b7 m qual (qq st) (zN st) (zd st) .none kV doc pm an cdv ct) ⟨us,[]⟩=pure (ps.zip us))
  (len:∀ vs H Q E,sp vs H Q E->vs.length=ps.length)
  (hbody:∀ (f:ay) (cdv:aq) (A:bt) (outer:List Env) (s:ax) (H:Hp) (vs:List V) (Q:VK) (E:XK),qm k (A.deeper (fK qual (zd st) s.heap.objs.size f cdv))->sp vs H Q E ->
   ∃ t,(DX (jF (CX1 P w) P w K mg base N qual (zd st) f cdv A outer s H E) E->PSs (jF (CX1 P w) P w K mg base N qual (zd st) f cdv A outer s H E) (zN st) t)/\t { nx:=fun _ H'=>Q .non H',rt:=Q } (qB N vs) H):DmX P w K mg base C m ps (k+1) sp:=by
 obtain ⟨f,fd,F,mt⟩:=a
 refine ⟨f,fd,?_,F.binds hb,mt⟩
 obtain ⟨oc,od,kV,doc,pm,an,cdv,ct,osl,rfl,lk,hcd⟩:=F.ex
 refine Bi lk hcd S len fun A outer s H vs Q E hr hsp=>?_
 obtain ⟨t,ht,q⟩:=hbody f cdv A outer s H vs Q E hr hsp
 exact ⟨t,ht ⟨rfl,rfl,rfl,rfl⟩,q⟩
theorem K3 {u:Obj}{name:Str} (hh:fB K C=true)(ha:fD K (.ref C) name=some none)(hl:gx name u=some (some v)):lq K C (some u) name=some (.value v):=nc hh ha rfl hl
section
variable {prog:ba}{w:bE}{A:bt}{E:aq->ax->Prop}{s:ax}{K:az}{x C:ay}{ox u:Obj}{name:Str}{v:aq}
theorem IQ {expr:Bool}{Q:aq->ax->Prop}(X:K.In s.heap)(I:InstAt s.heap x ox C (some u))(hb:nw K (.ref C) (.type "BaseException")=some true)
  (h1:fD K (.ref C) "__getattribute__"=some (some (.builtin "BaseException.__getattribute__"))) (h2:fD K (.ref C) "__getattr__"=some none)
  (hf:lq K C (some u) name=some (.value v)) (hh:lD v=true) (q:Q v { s with toks:=s.toks+1 }) :
  aL (aN prog w) A (oA (.ref x) name expr) Q E s:=by
 obtain ⟨h,g,d,t,os⟩:=s
 unfold oA
 refine aw (wpAny_mkText ?_)
 refine OD X I hb h1 h2 ?_
 have L0:=I.type (M:=aN prog w)
 have L1:=PySem.W.looks_find (M:=aN prog w) X I hf
 have fin:aL (aN prog w) A (handedOut v) Q E ⟨h,g,d,t+1,os⟩:=by rw [PySem.W.handedOut_of hh];exact aJ q
 unfold Builtin.«object.__getattribute__»
 repeat (any_goals (first | assumption | with_reducible refine iM.at L0 ?_ | with_reducible refine iM.at L1 ?_ | wp_step))
end
section
variable {X:Cx}{e:Expr}{ta:TE}{f:Str}{pos:Pos}
end
variable {n:Nat}
theorem X8 {C f:ay}{fd:dz} {fn:List V->List (Str × V)}(F:Fun K "__init__" qual st f fd)(S:zn N ps (zd st))
  (hb:∀ (kV doc pm:aq) (an:Option ay) (cdv ct:aq) (us:List aq),us.length=ps.length->fm (b7 "__init__" qual (qq st) (zN st) (zd st) .none kV doc pm an cdv ct) ⟨us,[]⟩=pure (ps.zip us))
  (q:jp K C vG "ValueError.__new__" f=true) (hf:dh K (.ref f)=true) (hl:ps.length=n+1)
  (hbody:∀ (cdv:aq) (A:bt) (outer:List Env) (s:ax) (H:Hp) (E:XK),∃ t,PSs (jF CX0 P w K mg base N qual (zd st) f cdv A outer s H E).nox (zN st) t /\
   ∀ (a t0:ay) (us:List V) (Q:VK),us.length=n->H a=some (j8 a C t0 none)->(∀ dx,H dx=none->dx ≠ a->Q .non (upd (upd H a (j8 a C t0 (some dx))) dx (XdE dx (fn us))))->t { nx:=fun _ H'=>Q .non H',rt:=Q } (qB N (.ref a :: us)) H):MkX P w K mg base C (k+1) n fn:=by
 have hfc:∃ oI,K.lookup f=some oI/\oI.cls=.type "function":=by
  obtain ⟨oc,od,kV,doc,pm,an,cdv,ct,osl,rfl,lk,hcd⟩:=F.ex
  refine ⟨_,lk,?_⟩
  have hf':=beq_iff_eq.mp hf
  have hf':Option.map (fun x:Obj=>x.cls) (K.lookup f)=some (.type "function"):=hf'
  rw [lk] at hf'
  exact b9 hf'
 refine ⟨f,fd,ps,q,F.ok S (fun vs H Q E ⟨a,t,us,e,l,_⟩=>by rw [e,aK,l,hl]) fun cdv A outer s H vs Q E hr ⟨a,t0,us,e,l,ha,hq⟩=>?_,F.binds hb,hfc,hl⟩
 obtain ⟨t,h1,h2⟩:=hbody cdv A outer s H E
 subst e
 exact ⟨t,h1,h2 a t0 us Q l ha hq⟩
open PySem.W (findIn hasDictIn)
theorem wj {H:Hp}{O:Own}{M:MH}:∀ {xs:List (Str × V)} {l:List (Str × AV)},kU H O M xs l->∀ f,(xs.lookup f=none/\l.lookup f=none) \/ ∃ v x,xs.lookup f=some v/\l.lookup f=some x/\zo H O M v x
 | [],[],_,f=>.inl ⟨rfl,rfl⟩
 | [],_ :: _,r,f=>by have:=r.1;simp at this
 | _ :: _,[],r,f=>by have:=r.1;simp at this
 | (g,v) :: xs,(g',x) :: l,r,f=>by
  have h1:=r.1
  rw [aX,aX] at h1
  obtain ⟨e0,h2⟩:=om.inj h1
  have e0:g=g':=e0
  subst e0
  have r0:zo H O M v x:=r.2.2 0 v x rfl rfl
  have r1:kU H O M xs l:=⟨h2,by have:=r.2.1;simp at this;simpa using this,fun i a b e1 e2=>r.2.2 (i+1) a b e1 e2⟩
  by_cases c:f=g
  ·subst c
   exact .inr ⟨v,x,by simp [dH],by simp [dH],r0⟩
  ·have e:(f == g)=false:=by simpa using c
   simp only [dH,e]
   exact wj r1 f
noncomputable def jD (f:Str)(v:AV):List (Str × AV)->List (Str × AV)
 | []=>[(f,v)]
 | (g,x) :: r=>if g=f then (g,v) :: r else (g,x) :: jD f v r
theorem En {H:Hp}{O:Own}{M:MH}{f:Str}{v:V}{x:AV}(rv:zo H O M v x):∀ {xs:List (Str × V)} {l:List (Str × AV)},kU H O M xs l->kU H O M (jE f v xs) (jD f x l)
  | [], [], _ => ⟨rfl, rfl, fun i a b e1 e2 => by
      cases i with
      | zero=>cases e1;cases e2;exact rv
      | succ i=>cases e1⟩
  | [],_ :: _,r=>by have:=r.1;simp at this
  | _ :: _,[],r=>by have:=r.1;simp at this
  | (g,v') :: xs,(g',x') :: l,r=>by
    have h1:=r.1
    rw [aX,aX] at h1
    obtain ⟨e0,h2⟩:=om.inj h1
    have e0:g=g':=e0
    subst e0
    have r0:zo H O M v' x':=r.2.2 0 v' x' rfl rfl
    have ll:xs.length=l.length:=by have:=r.2.1;simp at this;exact this
    have r1:kU H O M xs l:=⟨h2,by simpa using ll,fun i a b e1 e2=>r.2.2 (i+1) a b e1 e2⟩
    unfold jE jD
    by_cases c:g=f
    · rw [if_pos c,if_pos c]
      exact ⟨by rw [aX,aX,h2],by simpa using ll,fun i a b e1 e2=>by
        cases i with
        | zero=>cases e1;cases e2;exact rv
        | succ i=>exact r1.2.2 i a b e1 e2⟩
    · rw [if_neg c,if_neg c]
      have ih:=En (f:=f) rv r1
      exact ⟨by rw [aX,aX,ih.1],by have:=ih.2.1;simpa using this,fun i a b e1 e2=>by
        cases i with
        | zero=>cases e1;cases e2;exact r0
        | succ i=>exact ih.2.2 i a b e1 e2⟩
variable {O:Own} {M:MH}
theorem Mn {xs:List (Str × V)}{l:List (Str × AV)}(r:kU H O M xs l):xs.length=l.length:=by simpa using r.2.1
theorem VH (w:Wf H O M){p C:ay}{fs:List (Str × AV)}(hp:M p=some (.ins C fs))(f:Str){v:V}{y:AV}(rv:zo H O M v y) :
  ∃ dx xs,H p=some (.ins C dx xs)/\xs.length=fs.length/\Ext H O M (upd H p (.ins C dx (jE f v xs))) O (mup M p (.ins C (jD f y fs)))/\Wf (upd H p (.ins C dx (jE f v xs))) O (mup M p (.ins C (jD f y fs))):=by
 obtain ⟨dx,xs,g1,g2,g3,g4,g5⟩:=w.mo p _ hp
 have np:=qc hp
 have ks:=xT w np (.ins C dx (jE f v xs)) (.ins C (jD f y fs))
 have kp:=En (f:=f) rv g2
 refine ⟨dx,xs,g1,Mn g2,ks,Yw w np (fun _ z=>nomatch z) (show jb _ _ _ p (.ins C (jD f y fs)) from ⟨dx,_,zi,⟨kp.1,kp.2.ext ks⟩,g3,(ks.prv dx g3 g4).2.2,?_⟩)⟩
 rw [(ks.prv dx g3 g4).1];exact g5
noncomputable def OY (K:az)(a:AE)(f:Str):AE:=fun ρ M Q=>a ρ M fun x M1=>∃ p C fs v,x=.ref p/\M1 p=some (.ins C fs)/\Cls K C/\jQ K C f/\fs.lookup f=some v/\Q v M1
variable {t:TE} {a:AE} {f:Str}
theorem Hs (h:zH t a):zH (NK K t f) (OY K a f):=⟨fun w e q k=>h.go w e q fun x M1 v H1 O1 q1 k1 w1 r1=>by
 obtain ⟨p,C,fs,y,rfl,hp,c,n,hl,q2⟩:=q1
 obtain ⟨dx,xs,h1,h2,_⟩:=w1.mo p _ hp
 rcases wj h2 f with ⟨_,z⟩ | ⟨u,z,h3,h4,h5⟩
 ·rw [z] at hl;cases hl
 ·rw [hl] at h4;cases h4
  exact ⟨p,C,dx,xs,u,r1.1,h1,c,n,h3,k _ _ _ _ _ q2 k1 w1 h5⟩⟩
noncomputable def EQ (K:az)(a b:AE)(f:Str):AS:=fun _ D ρ M=>b ρ M fun y M1=>a ρ M1 fun x M2=>∃ p C fs,x=.ref p/\M2 p=some (.ins C fs)/\Cls K C/\jQ K C f/\fs.length<1000/\D.nx ρ (mup M2 p (.ins C (jD f y fs)))
theorem E3 {t u:TE}{a b:AE} (h1:zH t a)(h2:zH u b):jo (Gg K t u f) (EQ K a b f):=⟨fun _ w e x q E=>h2.go w e q fun y M1 v H1 O1 q1 k1 w1 r1=>h1.go w1 (e.ext k1) q1 fun z M2 v2 H2 O2 q2 k2 w2 r2=>by
 obtain ⟨p,C,fs,rfl,hp,c,n,hl,q3⟩:=q2
 obtain ⟨dx,xs,g1,g2,ks,w3⟩:=VH w2 hp f (r1.ext k2)
 exact ⟨p,C,dx,xs,r2.1,g1,c,n,by rw [g2];exact hl,E.nx _ _ _ _ _ w3 ((e.ext k1).ext (k2.trans ks)) ((x.trans k1).trans (k2.trans ks)) q3⟩⟩
noncomputable def HL (C:ay)(m:Str)(sp:ASp)(a:AE)(b:AA):AE:=fun ρ M Q=>a ρ M fun x M1=>∃ p fs,x=.ref p/\M1 p=some (.ins C fs)/\fs.lookup m=none/\b ρ M1 fun xs M2=>sp (.ref p :: xs) M2 Q
theorem QS {H:Hp}{O:Own}{M:MH}{v:V}{x:AV}{vs:List V}{xs:List AV}(r:zo H O M v x)(rs:zj H O M vs xs):zj H O M (v :: vs) (x :: xs):=⟨by rw [aK,aK,rs.1],fun i a b e1 e2=>by
 cases i with
 | zero=>cases e1;cases e2;exact r
 | succ i=>exact rs.2 i a b e1 e2⟩
variable {u:TA} {b:AA}
theorem Fb {sp:ASp} (h1:zH t a)(h2:jc u b):zH (Qe C m (cSp sp) [] E0 t u) (HL C m sp a b):=⟨fun w e q k=>h1.go w e q fun x M1 v H1 O1 q1 k1 w1 r1=>by
 obtain ⟨p,fs,rfl,hp,hl,q2⟩:=q1
 obtain ⟨dx,xs,g1,g2,_⟩:=w1.mo p _ hp
 have hn:xs.lookup m=none:=by
  rcases wj g2 m with z | ⟨_,_,_,z,_⟩
  ·exact z.1
  ·rw [hl] at z;cases z
 refine ⟨p,dx,xs,r1.1,g1,hn,h2.go w1 (e.ext k1) q2 fun ys M2 vs H2 O2 q3 k2 w2 r2=>?_⟩
 have rp:zo H2 O2 M2 v (.ref p):=r1.ext k2
 exact ⟨.ref p :: ys,M2,O2,_,w2,by rw [bP];exact QS rp r2,q3,fun z M3 v3 H3 O3 q4 k3 w3 r3=>k z M3 v3 H3 O3 q4 ((k1.trans k2).trans k3) w3 r3⟩⟩
section
variable {HX:Hp}{OX:Own}{MX:MH}{E:St->XK}{EA:ASt->AXK}{sp:xg}{te:TE}{ae:AE}{ta:TA}{aa:AA}{C:ay}{m:Str}
noncomputable def yz (C:ay)(m:Str)(sp:xg)(EA:ASt->AXK)(a:AE)(b:AA):AE:=fun ρ M Q=>a ρ M fun x M1=>∃ p fs,x=.ref p/\M1 p=some (.ins C fs)/\fs.lookup m=none/\b ρ M1 fun xs M2=>sp (.ref p :: xs) M2 Q (EA ρ)
theorem y8 (hE:EXs HX OX MX E EA)(ho:zH te ae)(hu:jc ta aa){σ:St} {ρ:ASt} {Q:VK}{Q':AK}(kx:Ext HX OX MX H O M)(w:Wf H O M)(e:Er H O M σ ρ)(q:yz C m sp EA ae aa ρ M Q')(k:∀ x M' v H' O',Q' x M'->Ext H O M H' O' M'->Wf H' O' M'->zo H' O' M' v x->Q v H'):vd C m (ja sp) E te ta σ H Q:=
 ho.go w e q fun x M1 v H1 O1 q1 k1 w1 r1=>by
  obtain ⟨p,fs,rfl,hp,hl,q2⟩:=q1
  obtain ⟨dx,xs,g1,g2,_⟩:=w1.mo p _ hp
  have hn:xs.lookup m=none:=by
   rcases wj g2 m with z | ⟨_,_,_,z,_⟩
   ·exact z.1
   ·rw [hl] at z;cases z
  refine ⟨p,dx,xs,r1.1,g1,hn,hu.go w1 (e.ext k1) q2 fun ys M2 vs H2 O2 q3 k2 w2 r2=>?_⟩
  have rp:zo H2 O2 M2 v (.ref p):=r1.ext k2
  exact ⟨.ref p :: ys,M2,O2,Q',EA ρ,w2,QS rp r2,q3,fun x M3 v3 H3 O3 q4 k3 w3 r3=>k x M3 v3 H3 O3 q4 ((k1.trans k2).trans k3) w3 r3,fun C fs M' H' O' d q4 k3 w3 xd=>hE.go σ ρ C fs M' H' O' d q4 (((kx.trans k1).trans k2).trans k3) w3 (e.ext ((k1.trans k2).trans k3)) xd⟩
theorem XJ (hE:EXs HX OX MX E EA)(ho:zH te ae)(hu:jc ta aa):kr HX OX MX (VA (vd C m (ja sp) E te ta)) (Vv (yz C m sp EA ae aa)):=
 ⟨fun kx _ w e x q D=>y8 hE ho hu (kx.trans x) w e q fun y M1 v H1 O1 q1 k1 w1 r1=>D.nx _ _ _ _ _ w1 (e.ext k1) (x.trans k1) q1⟩
theorem Av {to:TE}{ao:AE}(hE:EXs HX OX MX E EA)(ho:zH te ae)(hu:jc ta aa)(h1:zH to ao):kr HX OX MX (Gg K to (vd C m (ja sp) E te ta) f) (EQ K ao (yz C m sp EA ae aa) f):=
 ⟨fun kx _ w e x q D=>y8 hE ho hu (kx.trans x) w e q fun y M1 v H1 O1 q1 k1 w1 r1=>h1.go w1 (e.ext k1) q1 fun z M2 v2 H2 O2 q2 k2 w2 r2=>by
  obtain ⟨p,C,fs,rfl,hp,c,n,hl,q3⟩:=q2
  obtain ⟨dx,xs,g1,g2,ks,w3⟩:=VH w2 hp f (r1.ext k2)
  exact ⟨p,C,dx,xs,r2.1,g1,c,n,by rw [g2];exact hl,D.nx _ _ _ _ _ w3 ((e.ext k1).ext (k2.trans ks)) ((x.trans k1).trans (k2.trans ks)) q3⟩⟩
theorem WK {g:TG}{ag:AG}(hE:EXs HX OX MX E EA)(ho:zH te ae)(hu:jc ta aa)(hg:yv g ag):kr HX OX MX (JK (vd C m (ja sp) E te ta) g) (G4 (yz C m sp EA ae aa) ag):=
 ⟨fun kx _ w e x q D=>y8 hE ho hu (kx.trans x) w e q fun y M1 v H1 O1 q1 k1 w1 r1=>hg.go w1 (e.ext k1) r1 q1 fun σ2 H2 O2 ρ2 M2 q2 k2 w2 e2=>D.nx _ _ _ _ _ w2 e2 ((x.trans k1).trans k2) q2⟩
noncomputable def Bo:AV->Option V
 | .d (.int i)=>some (.int i)
 | .d (.str s)=>some (.str s)
 | .d .non=>some .non
 | .d (.bl b)=>some (.bl b)
 | _=>none
theorem BE {H:Hp}{O:Own}{M:MH}{v u:V}{x:AV}(r:zo H O M v x)(h:Bo x=some u):v=u:=by
 cases x with
 | ref a=>cases h
 | tp l=>cases h
 | d d=>
  have r:Rep H O v d:=r
  cases d <;> first | (cases h;first | exact zQ r | exact Va r | exact v7 r | exact xt r) | cases h
theorem Wq {vs us:List V}{xs:List AV}(r:zj H O M vs xs)(h:xs.map Bo=us.map some):vs=us:=by
 have ll:xs.length=us.length:=by simpa using congrArg ow h
 refine fS (r.1.trans ll) fun i h1 h2=>?_
 have hi:i<xs.length:=by rw [<- r.1];exact h1
 have e:Bo xs[i]=some us[i]:=by
  have:=congrArg (fun z:List (Option V)=>z[i]?) h
  simpa [aE,aj hi,aj h2] using this
 exact BE (r.2 i vs[i] xs[i] (aj h1) (aj hi)) e
noncomputable def YZ (C:ay)(n:Nat)(fn:List V->List (Str × V))(EA:ASt->AXK)(b:AA):AS:=fun _ _ ρ M=>b ρ M fun xs M1=>∃ vs,xs.map Bo=vs.map some/\vs.length=n/\n<=1000/\EA ρ C (fn vs) M1
theorem JS {fn:List V->List (Str × V)}(hE:EXs HX OX MX E EA)(hu:jc ta aa):kr HX OX MX (YM C n fn E ta) (YZ C n fn EA aa):=
 ⟨fun kx _ w e x q D=>hu.go w e q fun xs M1 vs H1 O1 q1 k1 w1 r1=>by
  obtain ⟨us,h1,h2,h3,h4⟩:=q1
  obtain rfl:=Wq r1 h1
  refine ⟨h2,h3,fun dx hd=>?_⟩
  have k2:=qw w1 hd (.xd (fn vs))
  exact hE.go _ _ C (fn vs) M1 _ (vY O1 dx) (some dx) h4 (((kx.trans x).trans k1).trans k2) (j9 w1 hd _ (fun _ z=>nomatch z)) (e.ext (k1.trans k2)) (.inr ⟨dx,rfl,zi,.inl rfl,(w1.fresh hd).2⟩)⟩
end
noncomputable def A9:V->Option Dat
 | .int i=>some (.int i)
 | .str s=>some (.str s)
 | .non=>some .non
 | .bl b=>some (.bl b)
 | _=>none
theorem Wb {v:V}{d:Dat}(h:A9 v=some d):Rep H O v d:=by
 cases v <;> first | (cases h;constructor) | cases h
theorem dmA {a:ASp}(at_:AtM K C m qual st)(S:zn N ps (zd st))
  (hb:∀ (kV doc pm:aq) (an:Option ay) (cdv ct:aq) (us:List aq),us.length=ps.length->fm (b7 m qual (qq st) (zN st) (zd st) .none kV doc pm an cdv ct) ⟨us,[]⟩=pure (ps.zip us))
  (len:∀ xs M Q,a xs M Q->xs.length=ps.length)
  (hbody:∀ (f:ay) (cdv:aq) (A:bt) (outer:List Env) (s:ax) (H:Hp) (E:XK),qm k (A.deeper (fK qual (zd st) s.heap.objs.size f cdv)) ->
   ∃ t,PSs (jF CX0 P w K mg base N qual (zd st) f cdv A outer s H E).nox (zN st) t/\∃ b,jo t b/\∀ xs M Q,a xs M Q->b M { nx:=fun _ M'=>rtA M Q (.d .non) M',rt:=rtA M Q } (zJ N xs) M):Dm P w K mg base C m ps (k+1) (cSp a):=by
 refine MM at_ S hb (fun vs H Q E h=>?_) (fun f cdv A outer s H vs Q E hr h=>?_)
 ·obtain ⟨xs,M,O,Q',w,r,q,_⟩:=h
  rw [r.1];exact len xs M Q' q
 ·obtain ⟨t,ht,b,hb,hq⟩:=hbody f cdv A outer s H E hr
  refine ⟨t,ht,?_⟩
  obtain ⟨xs,M,O,Q',w,r,q,kk⟩:=h
  refine hb.go w w (xr r N) .refl (hq xs M Q' q) ⟨fun σ H' O' ρ M' w' e' x' q'=>?_,fun v y H' O' M' w' x' r' q'=>?_,fun _ _ _ _ _ _ _ _ z=>z.elim,fun _ _ _ _ _ _ _ _ z=>z.elim⟩
  ·obtain ⟨y',M'',f,q2⟩:=q'
   obtain ⟨O'',w2,k2,r2⟩:=kE w w' x' (show zo H' O' M' .non (.d .non) from .non) f
   exact kk _ _ _ _ _ q2 k2 w2 r2
  ·obtain ⟨y',M'',f,q2⟩:=q'
   obtain ⟨O'',w2,k2,r2⟩:=kE w w' x' r' f
   exact kk _ _ _ _ _ q2 k2 w2 r2
theorem Ww {P : ba}{w : bE}{K : az}{mg : Str -> Option aq}{base : Heap}{C : ay}{m qual : Str}{st : cJ}{N ps : List Str}{k : Nat}{a : xg}(at_ : AtM K C m qual st)(S : zn N ps (zd st))
    (hb:∀ (kV doc pm:aq) (an:Option ay) (cdv ct:aq) (us:List aq),us.length=ps.length->fm (b7 m qual (qq st) (zN st) (zd st) .none kV doc pm an cdv ct) ⟨us,[]⟩=pure (ps.zip us))
    (len:∀ xs M Q E,a xs M Q E->xs.length=ps.length)
    (hbody:∀ (f:ay) (cdv:aq) (A:bt) (outer:List Env) (s:ax) (H:Hp) (HX:Hp) (OX:Own) (MX:MH) (E':AXK),qm k (A.deeper (fK qual (zd st) s.heap.objs.size f cdv)) ->
      DX (jF (CX1 P w) P w K mg base N qual (zd st) f cdv A outer s H (cE HX OX MX E')) (cE HX OX MX E') ->
      ∃ t,PSs (jF (CX1 P w) P w K mg base N qual (zd st) f cdv A outer s H (cE HX OX MX E')) (zN st) t/\∃ b,kr HX OX MX t b/\∀ xs Q E0,E'=exA MX E0->a xs MX Q E0->b MX { nx:=fun _ M'=>rtA MX Q (.d .non) M',rt:=rtA MX Q } (zJ N xs) MX):DmX P w K mg base C m ps (k+1) (ja a):=by
  refine Ls at_ S hb (fun vs H Q E h=>?_) (fun f cdv A outer s H vs Q E hr h=>?_)
  · obtain ⟨xs,M,O,Q',E',w,r,q,_⟩:=h
    rw [r.1];exact len xs M Q' E' q
  · obtain ⟨xs,M,O,Q',E',w0,r,q,kk,ke⟩:=h
    obtain ⟨t,ht,b,hb,hq⟩:=hbody f cdv A outer s H H O M (exA M E') hr ⟨rfl,rfl,rfl,rfl⟩
    refine ⟨t,fun D=>?_,?_⟩
    · have ce : ∀ c d H', cE H O M (exA M E') c d H' -> E c d H' := fun c d H' ⟨C, fs, M', O', e1, ⟨M'', f, q2⟩, k1, w1, xd⟩ => by
        subst e1
        obtain ⟨O'',w2,k2,-,ko⟩:=JH w0 w1 k1 (show zo H' O' M' .non (.d .non) from .non) f
        refine ke C fs M'' H' O'' d q2 k2 w2 ?_
        rcases xd with xd | ⟨dx,e1,h1,h2,h3⟩
        · exact .inl xd
        · exact .inr ⟨dx,e1,h1,(ko dx h2 h3).1,(ko dx h2 h3).2⟩
      refine PSs.wish' (fun e s' z=>?_) ht
      exact aR z (fun _ s'' y=>y.imp ce) fun e' s'' y=>y.imp ce
    · refine hb.go .refl w0 w0 (xr r N) .refl (hq xs Q' E' rfl q) ⟨fun σ H' O' ρ M' w' e' x' q'=>?_,fun v y H' O' M' w' x' r' q'=>?_,fun _ _ _ _ _ _ _ _ z=>z.elim,fun _ _ _ _ _ _ _ _ z=>z.elim⟩
      · obtain ⟨y',M'',f,q2⟩:=q'
        obtain ⟨O'',w2,k2,r2⟩:=kE w0 w' x' (show zo H' O' M' .non (.d .non) from .non) f
        exact kk _ _ _ _ _ q2 k2 w2 r2
      · obtain ⟨y',M'',f,q2⟩:=q'
        obtain ⟨O'',w2,k2,r2⟩:=kE w0 w' x' r' f
        exact kk _ _ _ _ _ q2 k2 w2 r2
noncomputable def HM (C:ay)(sp:ASp)(b:AA):AE:=fun ρ M Q=>b ρ M fun xs M1=>∀ p,M1 p=none->sp (.ref p :: xs) (mup M1 p (.ins C [])) fun v M2=>v=.d .non/\Q (.ref p) M2
theorem BM {sp:ASp} (h:jc u b):zH (VC C (cSp sp) [] E0 u) (HM C sp b):=⟨fun w e q k=>h.go w e q fun ys M1 vs H1 O1 q1 k1 w1 r1=>by
 intro x dx hx hd hne
 have k2:=qw w1 hd (.own x)
 have w2:=j9 w1 hd (.own x) (fun _ z=>nomatch z)
 have hx2:upd H1 dx (.own x) x=none:=by rw [zh (Ne.symm hne)];exact hx
 have k3:=YF w2 hx2 (.ins C dx []) (.ins C [])
 have w3:Wf (upd (upd H1 dx (.own x)) x (.ins C dx [])) (vY (vY O1 dx) x) (mup M1 x (.ins C [])):=MB w2 hx2 (fun _ z=>nomatch z) (show jb _ _ _ x (.ins C []) from ⟨dx,[],zi,⟨rfl,rfl,fun i a b e1 _=>nomatch e1⟩,.inr (.inl rfl),by rw [zl hne];exact (w1.fresh hd).2,by rw [zh hne,zi]⟩)
 have mx:mup M1 x (.ins C []) x ≠ none:=by rw [ze];exact fun z=>nomatch z
 refine ⟨.ref x :: ys,mup M1 x (.ins C []),_,_,w3,?_,q1 x (w1.fresh hx).2,fun z M4 v4 H4 O4 q4 k4 w4 r4=>?_⟩
 ·rw [bP];exact QS ⟨rfl,mx⟩ (r1.ext (k2.trans k3))
 ·obtain ⟨rfl,q5⟩:=q4
  exact ⟨v7 r4,k _ _ _ _ _ q5 (((k1.trans k2).trans k3).trans k4) w4 ⟨rfl,k4.mst x mx⟩⟩⟩
noncomputable def HN (kvs:List (Key × V))(a:AE):AE:=fun ρ M Q=>a ρ M fun x M1=>∃ s d,x=.d (.str s)/\A9 ((wZ kvs (cv s)).getD .non)=some d/\Q (.d d) M1
theorem EO {kvs:List (Key × V)} (h:zH t a):zH (EU kvs t) (HN kvs a):=⟨fun w e q k=>h.go w e q fun x M1 v H1 O1 q1 k1 w1 r1=>by
 obtain ⟨s,d,rfl,hd,q2⟩:=q1
 exact ⟨cv s,Va r1,k _ _ _ _ _ q2 k1 w1 (show Rep _ _ _ _ from Wb hd)⟩⟩
end L2
namespace PySem
open Sem (wp)
theorem ZN:entryFor table "proto.unchain"=some Builtin.«proto.unchain»:=entryFor_of_fast (by kernel_rfl)
section
variable {prog:ba}{w:bE}{A:bt}{E:aq->ax->Prop}{s:ax}
theorem V7 {α:Type}{e x:ay}{oe ox:Obj}{vs vx:Array aq}{Q:α->ax->Prop}(hh:A.handled=some (.ref x))(hne:x ≠ e)(hx:s.heap.get? x=some ox)(hxd:ox.data=.fields vx)(hx2:vx[2]?=some .none)(he:s.heap.get? e=some oe)(hed:oe.data=.fields vs)(h2:2<vs.size)
  (h:E (.ref e) { s with heap:=s.heap.update e (eV (·.setIfInBounds 2 (.ref x))) }):aL (aN prog w) A (raiseNew (.ref e):Sem α) Q E s:=by
 unfold raiseNew
 refine aw (wpAny_handled ?_)
 rw [hh]
 dsimp only
 rw [if_pos (by simpa using hne)]
 refine aw (cQ (mU (ft ZN ?_)))
 unfold Builtin.«proto.unchain»
 dsimp only
 refine aw (cY hx hxd hx2 ?_)
 rw [if_pos (show (aq.none == aq.none)=true from by decide)]
 refine aJ ?_
 dsimp only
 refine aw ?_
 obtain ⟨c,d,dt,sl⟩:=oe
 simp only at hed
 subst hed
 unfold updateField
 refine aw (nA he ?_)
 dsimp only
 rw [if_pos h2]
 exact wpAny_update he (wpAny_throw h)
end
section
variable {prog:ba}{w:bE}{A:bt}{E:aq->ax->Prop}{env:Env}
variable {nm q:Str}{C N:ay}{bs bm bmB:List aq}{hdct:Bool}{sn:List Str}{sub:List aq}{ab:Bool}{col:Option Bool}{dd:Option ay}{k0 k1 k2 k3 k5:Option aq}{B Bn newId nid initId inN:String}{bmN:List aq}
variable {s:ax} {Q:Flow->ax->Prop}
theorem Yh {xx:Sem aq}{x:ay} (hbase:bm.contains (.type "BaseException")=true)(hh:A.handled=some (.ref x))
  (h:aL (aN prog w) A xx (fun v s₁=>∃ e t dx ox vx,v=.ref e/\x ≠ e/\s₁.heap.get? C=some (e6 nm q C N bs bm hdct sn sub ab col dd k0 k1 k2 k3 k5 newId) /\
   s₁.heap.get? e=some { cls:=.ref C,data:=.fields #[.ref t,.none,.none,.none,.bool false,.none],dict:=dx }/\s₁.heap.get? x=some ox/\ox.data=.fields vx/\vx[2]?=some .none /\
   E (.ref e) { s₁ with heap:=s₁.heap.update e (eV (·.setIfInBounds 2 (.ref x))) }) E s) :
  aL (aN prog w) A (oj env (some xx) none) Q E s:=by
 have hcB:(aq.ref C :: bm).contains (.type "BaseException")=true:=by rw [nI,hbase,Bool.or_true]
 unfold oj
 refine aw (aR h (fun v s₁ h₁=>?_) fun _ _ x=>x)
 obtain ⟨e,t,dx,ox,vx,rfl,hne,hC,he,hx,hxd,hx2,hE⟩:=h₁
 obtain ⟨hp,g,d,tk,os⟩:=s₁
 repeat (first | with_reducible refine d3 he ?_ | with_reducible refine d3 hC ?_ | (with_reducible refine ir hC ?_;rw [hcB]) | wp_step)
 exact V7 hh hne hx hxd hx2 he rfl (by simp) hE
theorem LC (Fn:fj Bn newId inN bmN)(hBn:bmB.contains (.type Bn)=true)(F:fj B nid initId bmB) {mN:Str->Option aq}{cx:Str}{x:ay}{np cpos pos:Pos}{args:List Expr} {fI:ay}{oI:Obj}
  (hbase:bm.contains (.type "BaseException")=true) (hh:A.handled=some (.ref x)) (hplain:(cH cpos (aV args env)).any (·.1)=false) (hi:mN "__init__"=some (.ref fI)) (hfc:oI.cls=.type "function")
  (h:aL (aN prog w) A (eval (.Name cx np) env) (fun f s₁=>f=.ref C/\aL (aN prog w) A (evalArgs (.ref C) true (cH cpos (aV args env)) [])
   (fun a s₂=>a.kw=[]/\a.pos.length<=aT/\s₂.heap.get? C=some (e6 nm q C N bs bm hdct sn sub ab col dd k0 k1 k2 k3 k5 newId)/\s₂.heap.Ns N mN/\oC s₂.heap bmB bm/\s₂.heap.get? fI=some oI /\
    ∀ h' e,iO s₂.heap h' e (.ref C) a.pos->aL (aN prog w) (A.under (.builtin "type.__call__" ⟨.ref C :: a.pos,[]⟩)) (call (.ref fI) (.ref e :: a.pos)) (fun r s'=>r=.none/\x ≠ e /\
     s'.heap.get? C=some (e6 nm q C N bs bm hdct sn sub ab col dd k0 k1 k2 k3 k5 newId)/\(∃ t dx,s'.heap.get? e=some { cls:=.ref C,data:=.fields #[.ref t,.none,.none,.none,.bool false,.none],dict:=dx }) /\
     (∃ ox vx,s'.heap.get? x=some ox/\ox.data=.fields vx/\vx[2]?=some .none)/\E (.ref e) { s' with heap:=s'.heap.update e (eV (·.setIfInBounds 2 (.ref x))) }) E { s₂ with heap:=h' }) E s₁) E s) :
  aL (aN prog w) A (exec (.Raise (some (.Call (.Name cx np) args [] cpos)) none pos) env) Q E s:=by
 rw [arm_exec_Raise]
 refine aw (cD (Yh (C:=C) (nm:=nm) (q:=q) (N:=N) (bs:=bs) (bm:=bm) (hdct:=hdct) (sn:=sn) (sub:=sub) (ab:=ab) (col:=col) (dd:=dd) (k0:=k0) (k1:=k1) (k2:=k2) (k3:=k3) (k5:=k5) (newId:=newId) hbase hh (aw (aR (wpAny_Call_ofName (aR h (fun f s₁ h₁=>?_) fun _ _ x=>x)) (fun v s₃ h₃=>aw (cD (aJ h₃))) fun _ _ x=>x))))
 obtain ⟨rfl,h₁⟩:=h₁
 unfold h8
 refine aw (cQ (aR h₁ (fun a s₂ h₂=>aw (cD ?_)) fun _ _ x=>x))
 obtain ⟨apos,akw⟩:=a
 obtain ⟨hkw,hlen,hC,hn,T,hf,h₂⟩:=h₂
 obtain rfl:akw=[]:=hkw
 obtain ⟨hp,g,d,tk,os⟩:=s₂
 simp only [hplain]
 refine aw (wpAny_keeperOf_exc hC ?_)
 refine aw (YV (hrest:=hlen) Fn hBn F T hC hn hi hf hfc fun h' e hm=>aR (h₂ h' e hm) (fun r s' hr=>⟨hr.1,aw (cQ (wpAny_point (aJ ?_)))⟩) fun _ _ x=>x)
 obtain ⟨_,hne,hC',⟨t,dx,he⟩,⟨ox,vx,hx,hxd,hx2⟩,hE⟩:=hr
 exact ⟨e,t,dx,ox,vx,rfl,hne,hC',he,hx,hxd,hx2,hE⟩
end
end PySem
namespace L2
open PySem PySem.Spec PyProof.Rows
theorem y6 {h h' base:Heap}(k:∀ b o,h.get? b=some o->(∀ vs,o.data ≠ .fields vs)->∃ o',h'.get? b=some o'/\∀ vs,o'.data ≠ .fields vs):∀ {l:List Env},h.FunFrames base l->h'.FunFrames base l
 | [],_=>trivial
 | _ :: _,⟨hk,⟨L,o,hf,hn,ho,hd⟩,hr⟩=>let ⟨o',e,d⟩:=k L o ho hd;⟨hk,⟨L,o',hf,hn,e,d⟩,y6 k hr⟩
section
variable {M:ou}{A:bt}{E:aq->ax->Prop}{s:ax}
variable {base:Heap} {cls a0 fl:aq}
theorem VL {l:List Env}{e L:ay} {Q:Unit->ax->Prop}(hkb:base.StaysIn s.heap)(hl:s.heap.FunFrames base l)(ht:s.heap.TracedAtW base e cls a0 fl)
  (h:∀ h',base.StaysIn h'->h'.FunFrames base l->h'.TracedAtW base e cls a0 (mF L)->(∀ b o,s.heap.get? b=some o->(∀ vs,o.data ≠ .fields vs)->h'.get? b=some o)->h'.get? e=s.heap.get? e->Q () { s with heap:=h' }) :
  aL M A (lJ (.ref e) (some L)) Q E s:=by
 obtain ⟨oe,vs,T,oT,ts,he,hcls,hd,h1,hnT,hTe,hT,hdT,h3⟩:=ht
 have hsz:3<ts.size:=(iP.mp h3).1
 have other:∀ b,b ≠ T->(s.heap.update T (eV (·.setIfInBounds 3 ((some L:Option ay).elim aq.none fun f=>mF f)))).get? b=s.heap.get? b:=fun b hb=>ej _ _ (Ne.symm hb)
 have noR:∀ b o,s.heap.get? b=some o->(∀ vs,o.data ≠ .fields vs)->b ≠ T:=fun b o hb hnf q=>by
  rw [q,hT] at hb;injection hb with hb;subst hb;exact hnf ts hdT
 unfold lJ
 refine aw (cY he hd h1 ?_)
 rw [if_pos (show (aq.ref T != aq.none)=true from by simp)]
 refine mQ hT hdT hsz (h _ (fun b o hbo=>(other b fun q=>by rw [q,hnT] at hbo;cases hbo).trans (hkb b o hbo)) (hl.of_keeps fun b o hb hnf=>⟨o,(other b (noR b o hb hnf)).trans hb,rfl⟩) ?_ (fun b o hb hnf=>(other b (noR b o hb hnf)).trans hb) (other e (Ne.symm hTe)))
 exact ⟨oe,vs,T,_,_,(other e (Ne.symm hTe)).trans he,hcls,hd,h1,hnT,hTe,dJ _ hT (Obj.isFreed_of_fields (gq hdT _)),gq hdT _,by simp [hsz]⟩
theorem yV {e:ay} {Q:aq->ax->Prop}(ht:s.heap.TracedAtW base e cls a0 fl)(h:∀ T,Q (.ref T) s):aL M A (field (.ref e) 1) Q E s:=by
 obtain ⟨oe,vs,T,oT,ts,he,hcls,hd,h1,_⟩:=ht
 exact cY he hd h1 (h T)
end
section
variable {X:Cx}{E:XK}{pins:List (ay × Obj)}{σ:St}{H:Hp}{s:ax}
theorem B6 (I:Inv X pins σ H s)(hex:X.ex=[]){x:ay}{s':ax}(hx0:X.s₀.heap.get? x=none)(hx:H x=none)(ho:s'.os=s.os)(hg:s'.gens=s.gens)(st:(jn X s x).StaysIn s'.heap)
  (us:∀ b o,b ≠ X.env.locals->s.heap.get? b=some o->(∀ vs,o.data ≠ .fields vs)->∃ sl,s'.heap.get? b=some { o with slots:=sl }) (hs:X.stack=X.env :: X.outer):yn X.prog X.w X.outer X.H₀ X.s₀ (jn X s x) H s':=by
 have nx:∀ b,b ∉ X.ex:=fun b=>by rw [hex];simp
 have hid:∀ b o o',X.s₀.heap.get? b=some o->b ∉ frs X.outer->s.heap.get? b=some o'->(jn X s x).get? b=some o':=fun b o o' e hb e1=>fW _ e1 fun z=>by
  rcases aO.mp z with rfl | z
  ·rw [hx0] at e;cases e
  ·exact I.notStk e hb z
 refine ⟨ho.trans I.os,by rw [hg];exact I.bare,st,fun b o e hb=>?_,fun b o e hb=>?_,I.ok.frf,fun b o e n=>I.base.free b o e n (nx b),I.base.tups,I.base.frzs,I.base.tbls,Y4 I hx⟩
 ·obtain ⟨o1,e1⟩:=I.base.there b o e (nx b)
  refine ⟨o1,hid b o o1 e hb e1,fun n=>?_⟩
  have:=I.base.keep b o e n hb (nx b)
  rw [e1] at this;cases this;rfl
 ·obtain ⟨sl,e1⟩:=I.base.slot b o e (I.ok.frf b hb) hb (nx b)
  obtain ⟨_,o2,e2,nf⟩:=I.stack.mem (vf hs hb)
  rw [e1] at e2;cases e2
  obtain ⟨sl2,e3⟩:=us b _ (I.ltS e) e1 nf
  exact ⟨sl2,e3⟩
theorem Xk (D:DX X E)(I:Inv X pins σ H s){x x1 C:ay}{d:Option ay}{oe:Obj}{vs:Array aq}{a0:aq}{h1:Heap}{n:Str}{hpos:Pos}(hl:X.env.kindOf n=some .local)
  (k:∀ b o,b ≠ x1->s.heap.get? b=some o->h1.get? b=some o) (kx:∀ o,s.heap.get? x1=some o->∃ vs,o.data=.fields vs) (he:h1.get? x1=some oe) (hc:oe.cls=.ref C) (hd:oe.dict=d) (hf:oe.data=.fields vs) (hv1:vs[1]?=some .none) (hv0:vs[0]?=some a0)
  (hx0:X.s₀.heap.get? x1=none) (hx:H x1=none) (two:Two d H) (q:E (.ref C) d H) :
  AsSuiteRaised (aN X.prog X.w) (X.A.mark (some (.ref x))) X.env n hpos (notedBy (aN X.prog X.w) (X.A.mark (some (.ref x))) X.env (cameBackBy (aN X.prog X.w) X.A X.env X.xe)) (.ref x1) { s with heap:=h1 }:=by
 have hs:=D.stk
 have hp:(X.env.scope.kind == .class || (X.env.scope.kind == .module && X.env.locals != X.env.globals))=false:=by rw [I.ok.kind];rfl
 have st1:(jn X s x1).StaysIn h1:=fun b o e=>k b o (fun z=>by rw [z,jn,dQ _ (bJ)] at e;cases e) (iB _ e)
 have us1:s.heap.UpToSlots h1:=fun b o e nf=>by
  by_cases c:b=x1
  ·rw [c] at e
   obtain ⟨vs,z⟩:=kx o e
   exact absurd z (nf vs)
  ·exact ⟨o.slots,k b o c e⟩
 have fr0:s.heap.FunFrames (jn X s x1) (X.env :: X.outer):=by
  have:=I.stack
  rw [hs] at this
  exact ma this fun env he b hb=>aZ _ (by rw [hs];exact e8.mpr ⟨env,he,hb⟩)
 have fr1:h1.FunFrames (jn X s x1) (X.env :: X.outer):=fr0.of_keeps fun b o e nf=>by
  obtain ⟨sl,z⟩:=us1 b o e nf
  exact ⟨_,z,rfl⟩
 have xn:(jn X s x1).get? x1=none:=dQ _ bJ
 have ln:(jn X s x1).get? X.env.locals=none:=dQ _ (aZ _ (by rw [hs];exact e8.mpr ⟨X.env,bJ,D.fr⟩))
 have hfr:(X.A.mark (some (.ref x))).frames=some (X.env :: X.outer):=by rw [<- hs];exact I.ok.frames
 have hfr':X.A.frames=some (X.env :: X.outer):=hfr
 have note1:aL (aN X.prog X.w) (X.A.mark (some (.ref x))) (gU (.ref x1) X.env) (fun _ s2=>∃ h',s2={ s with heap:=h' }/\Heap.NotedW (jn X s x1) (X.env :: X.outer) x1 oe.cls a0 (mF X.env.locals) h1 h') (fun _ _=>False) { s with heap:=h1 }:=by
  unfold gU
  simp only [D.fr]
  refine aw (cY he hf hv1 ?_)
  rw [if_neg (by decide)]
  exact wpAny_entryW hfr fr1 D.fr he st1 xn hf (iP.mp hv1).1 hv0 fun h' hN=>⟨h',rfl,hN⟩
 refine aR ((JI (.ref x1) X.env).any note1) (fun _ s2 h2=>?_) fun _ _ z=>z.elim
 obtain ⟨⟨h2,rfl,l1,l2,l3,l4⟩,sd⟩:=h2
 obtain ⟨o2,ho2,hd2,_⟩:=sd x1 oe he
 obtain ⟨m,⟨ol,es,ep,hol,hdl,rl⟩,_⟩:=id I.loc
 have lx:X.env.locals ≠ x1:=fun z=>by
  obtain ⟨vs,q⟩:=kx ol (z ▸ hol)
  rw [hdl] at q;cases q
 obtain ⟨sl,hol2⟩:=l4 _ ol (k _ ol lx hol) (fun vs q=>by rw [hdl] at q;cases q)
 refine wpAny_nameGoes_keeps hl ⟨_,es,ep,hol2,hdl,rl⟩ hp fun h3 v hn3 sb3=>?_
 have k3:∀ b,b ≠ X.env.locals->h3.get? b=h2.get? b:=fun b hb=>sb3.2 b hb
 have st3:(jn X s x1).StaysIn h3:=fun b o e=>(k3 b (fun z=>by rw [z,ln] at e;cases e)).trans (l1 b o e)
 have fr3:h3.FunFrames (jn X s x1) (X.env :: X.outer):=y6 (fun b o e nf=>by
  by_cases c:b=X.env.locals
  ·obtain ⟨o',_,_,ho',hd',_⟩:=hn3
   exact ⟨o',c ▸ ho',fun vs q=>by rw [hd'] at q;cases q⟩
  ·exact ⟨o,(k3 b c).trans e,nf⟩) l2
 have tr3:h3.TracedAtW (jn X s x1) x1 oe.cls a0 (mF X.env.locals):=by
  obtain ⟨oe',vs',T,oT,ts,g1,g2,g3,g4,g5,g6,g7,g8,g9⟩:=l3
  have lT:T ≠ X.env.locals:=fun z=>by
   rw [z,hol2] at g7;cases g7
   have g8:ol.data=.fields ts:=g8
   rw [hdl] at g8;cases g8
  exact ⟨oe',vs',T,oT,ts,(k3 _ (Ne.symm lx)).trans g1,g2,g3,g4,g5,g6,(k3 _ lT).trans g7,g8,g9⟩
 have us3:∀ b o,b ≠ X.env.locals->s.heap.get? b=some o->(∀ vs,o.data ≠ .fields vs)->∃ sl,h3.get? b=some { o with slots:=sl }:=fun b o hb e nf=>by
  obtain ⟨sl,e1⟩:=us1 b o e nf
  obtain ⟨sl2,e2⟩:=l4 b _ e1 nf
  exact ⟨sl2,(k3 b hb).trans e2⟩
 have ho3:h3.get? x1=some o2:=(k3 _ (Ne.symm lx)).trans ho2
 have hd3:o2.dict=d:=hd2.trans hd
 clear note1 sd l1 l2 l3 l4 hn3
 unfold PySem.passOn
 refine aw (yV (s:=⟨h3,_,_,_,_⟩) tr3 fun T=>?_)
 rw [if_neg (show ¬ (aq.ref T == aq.none)=true from by simp)]
 rw [D.fr]
 refine aw ?_
 refine VL (s:=⟨h3,_,_,_,_⟩) st3 fr3 tr3 fun h4 st4 fr4 tr4 us4 e4=>wpAny_throw ?_
 have us4':∀ b o,b ≠ X.env.locals->s.heap.get? b=some o->(∀ vs,o.data ≠ .fields vs)->∃ sl,h4.get? b=some { o with slots:=sl }:=fun b o hb e nf=>by
  obtain ⟨sl,e1⟩:=us3 b o hb e nf
  exact ⟨sl,us4 b _ e1 nf⟩
 have ho4:h4.get? x1=some o2:=e4.trans ho3
 unfold notedBy
 refine me D.fr tr4 ?_
 unfold cameBackBy
 refine aw (yV (s:=⟨h4,_,_,_,_⟩) tr4 fun T=>?_)
 rw [if_neg (show ¬ (aq.ref T == aq.none)=true from by simp)]
 rw [D.fr]
 refine VL (s:=⟨h4,_,_,_,_⟩) st4 fr4 tr4 fun h5 st5 fr5 tr5 us5 e5=>?_
 have us5':∀ b o,b ≠ X.env.locals->s.heap.get? b=some o->(∀ vs,o.data ≠ .fields vs)->∃ sl,h5.get? b=some { o with slots:=sl }:=fun b o hb e nf=>by
  obtain ⟨sl,e1⟩:=us4' b o hb e nf
  exact ⟨sl,us5 b _ e1 nf⟩
 have ho5:h5.get? x1=some o2:=e5.trans ho4
 rw [D.xe]
 unfold leaving
 refine aw (me D.fr tr5 ?_)
 refine aR ((xU (.ref x1) none).any (wpAny_landsW (s:=⟨h5,_,_,_,_⟩) (E:=fun _ _=>False) (Q:=fun _ s6=>∃ h6,s6=⟨h6,_,_,_,_⟩/\fU (jn X s x1) (X.env :: X.outer) x1 oe.cls a0 h6/\h5.UpToSlots h6) ⟨st5,xn,fr5,tr5⟩ fun h6 f6 u6=>⟨h6,rfl,f6,u6⟩)) (fun _ s6 h6=>?_) fun _ _ z=>z.elim
 obtain ⟨⟨h6,rfl,f6,u6⟩,sd6⟩:=h6
 obtain ⟨o6,ho6,hd6,_⟩:=sd6 x1 o2 ho5
 rw [hc] at f6
 refine ⟨x1,C,d,H,rfl,⟨⟨jn X s x1,a0,B6 I D.ex (s':=⟨h6,_,_,_,_⟩) hx0 hx rfl rfl f6.1 (fun b o hb e nf=>?_) hs,f6.1,xn,f6.2.2.1.2.2,f6.2.2.2⟩,o6,ho6,hd6.trans hd3,.inr two⟩,q⟩
 obtain ⟨sl,e1⟩:=us5' b o hb e nf
 obtain ⟨sl2,e2⟩:=u6 b _ e1 nf
 exact ⟨sl2,e2⟩
end
open PySem.W (Looks InstAt findIn findObj subIn mroIn clsIn takerIn hasDictIn)
structure vP (k:Nat)(A:bt):Prop where
 gd:A.guards=some []
 dp:A.depth+3 * k+5<gD
 un:A.units+16 * k+200<mr
theorem qm.h {k:Nat}{A:bt}(r:qm k A)(h:Option aq):vP k (A.mark h):=⟨r.gd,r.dp,r.un⟩
variable {j k:Nat} {A:bt}
theorem vP.mono (r:vP k A)(h:j<=k):vP j A:=⟨r.gd,by have:=r.dp;omega,by have:=r.un;omega⟩
theorem vP.make (r:vP (k+1) A)(C:ay)(us:List aq)(kw:List (Str × aq)):vP k (A.under (.builtin "type.__call__" ⟨.ref C :: us,kw⟩)):=
 ⟨(vR).trans r.gd,by have:=r.dp;rw [ZJ];omega,by have:=r.un;rw [Zr];omega⟩
def FnH (P:ba)(w:bE)(K:az)(mg:Str->Option aq)(base:Heap)(k:Nat)(f:ay)(fd:dz)(ps:List Str)(sp:Sp):Prop:=
 ∀ (A:bt) (x:ay) (outer:List Env) (s:ax) (H:Hp) (args:Args) (us:List aq) (vs:List V) (Q:VK) (E:XK),A.handled=some (.ref x)->vP k A->QY P w K mg base A outer s H->lS s fd args (ps.zip us)->zz vs us->sp vs H Q E ->
  dX (aN P w) A (.call (.ref f) args) (CR CX0 outer P w H s Q E) s
variable {P:ba} {w:bE} {K:az} {mg:Str->Option aq} {base:Heap} {f:ay} {fd:dz} {ps:List Str}
theorem FnH.mono {sp:Sp}(F:FnH P w K mg base j f fd ps sp)(h:j<=k):FnH P w K mg base k f fd ps sp:=
 fun A x outer s H args us vs Q E hh hr=>F A x outer s H args us vs Q E hh (hr.mono h)
theorem LU {P:ba}{w:bE}{K:az}{mg:Str->Option aq}{base:Heap}{k:Nat}{f:ay}{name qual:Str}{params:Arguments}{body:List cJ}{scope:Scope}{dV kV doc pm cdv ct oc:aq}{an od:Option ay}
  {osl:Array (Option aq)} {N ps:List Str} {sp:Sp} (lk:K.lookup f=some ⟨oc,od,.func (b7 name qual params body scope dV kV doc pm an cdv ct),osl⟩) (hcd:fL K cdv qual=true) (S:zn N ps scope)
  (len:∀ vs H Q E,sp vs H Q E->vs.length=ps.length)
  (hbody:∀ (A:bt) (outer:List Env) (s:ax) (H:Hp) (vs:List V) (Q:VK) (E:XK) (x:ay),sp vs H Q E ->
   ∃ t,PSs ((jF CX0 P w K mg base N qual scope f cdv A outer s H E).inside x) body t/\t { nx:=fun _ H'=>Q .non H',rt:=Q } (qB N vs) H) :
  FnH P w K mg base k f (b7 name qual params body scope dV kV doc pm an cdv ct) ps sp:=by
 intro A x outer s H args us vs Q E hh hr e0 hb r hsp
 have hl:=len _ _ _ _ hsp
 obtain ⟨h0,dp,fr,gd,un⟩:=A
 obtain rfl:h0=some (.ref x):=hh
 have KX:K.In s.heap:=e0.mod.kin.keeps fun b o e=>(e0.bs b o e).1
 have lim:s.heap.NoLimit:=e0.mod.nolimit.keeps fun b o e=>(e0.bs b o e).1
 have hkind:∀ y ∈ ps.zip us,scope.names.lookup y.1=some .local \/ (scope.names.lookup y.1=some .cell/\((n5 (s.heap.objs.size+1) scope.names []).lookup y.1).isSome=true):=fun ⟨n,v⟩ hy=>by
  rcases S.par n (im hy).1 with q | q
  ·exact .inl q
  ·exact .inr ⟨q,gE _ _ _ (.inl q)⟩
 have hdp:dp<gD:=by have:dp+3 * k+5<gD:=hr.dp;omega
 refine codeAny_call_function hdp (KX _ _ lk) rfl S.co S.gen rfl (nG KX hcd) (hb _ _ _ _ ?_)
 refine wpAny_newFunctionEnv_cells S.kind hkind fun env he s1 xx=>?_
 subst he
 refine ⟨lim.keeps xx.toInCall.keep,codeAny_func ?_⟩
 obtain ⟨t,ht,hq⟩:=hbody ⟨none,dp,fr,gd,un⟩ outer s H vs Q E x hsp
 have e0':QY P w K mg base ⟨none,dp,fr,gd,un⟩ outer s H:=⟨e0.frames,e0.mod,e0.bs,e0.bsz,e0.funs,e0.frf,e0.hok,e0.bare⟩
 have I:Inv ((jF CX0 P w K mg base N qual scope f cdv ⟨none,dp,fr,gd,un⟩ outer s H E).inside x) [] (qB N vs) H s1:=(Qr S rfl e0' hl r xx).inside x
 refine aR (ht [] s1 (qB N vs) H _ I hq) (fun fl s' hs=>?_) fun e s' hs=>hs.elim
 have fin:∀ {σ':St} {H':Hp} {v:V} {u:aq},Inv ((jF CX0 P w K mg base N qual scope f cdv ⟨none,dp,fr,gd,un⟩ outer s H E).inside x) [] σ' H' s'->zE v u->Q v H'->CE outer P w H s Q u s':=
  fun {σ' H' v u} J rv q=>⟨v,H',J.os,J.bare,J.base,J.hok,rv,q⟩
 cases fl with
 | ret u=>
  obtain ⟨v,σ',H',J,rv,q⟩:=hs
  exact fin J rv q
 | next=>
  obtain ⟨σ',H',J,q⟩:=hs
  exact fin (v:=V.non) (u:=aq.none) J rfl q
 | brk=>
  obtain ⟨_,_,_,q⟩:=hs
  exact ca q
 | cont=>
  obtain ⟨_,_,_,q⟩:=hs
  exact ca q
def Jf (P:ba)(w:bE)(K:az)(mg:Str->Option aq)(base:Heap)(C:ay)(k n:Nat)(fn:List V->List (Str × V)):Prop:=
 ∃ f fd ps,jp K C vG "ValueError.__new__" f=true/\FnH P w K mg base k f fd ps (spI C n fn)/\jv K fd ps []/\(∃ oI,K.lookup f=some oI/\oI.cls=.type "function")/\ps.length=n+1
variable {C:ay} {n:Nat}
theorem Jf.mono {fn:List V->List (Str × V)}(m:Jf P w K mg base C j n fn)(h:j<=k):Jf P w K mg base C k n fn:=
 let ⟨f,fd,ps,q,F,r⟩:=m
 ⟨f,fd,ps,q,F.mono h,r⟩
variable {st:cJ} {N:List Str}
theorem Gj {qual:Str} {fn:List V->List (Str × V)}(F:Fun K "__init__" qual st f fd)(S:zn N ps (zd st))
  (hb:∀ (kV doc pm:aq) (an:Option ay) (cdv ct:aq) (us:List aq),us.length=ps.length->fm (b7 "__init__" qual (qq st) (zN st) (zd st) .none kV doc pm an cdv ct) ⟨us,[]⟩=pure (ps.zip us))
  (q:jp K C vG "ValueError.__new__" f=true) (hf:dh K (.ref f)=true) (hl:ps.length=n+1)
  (hbody:∀ (cdv:aq) (A:bt) (outer:List Env) (s:ax) (H:Hp) (E:XK) (x:ay),∃ t,PSs ((jF CX0 P w K mg base N qual (zd st) f cdv A outer s H E).inside x) (zN st) t /\
   ∀ (a t0:ay) (us:List V) (Q:VK),us.length=n->H a=some (j8 a C t0 none)->(∀ dx,H dx=none->dx ≠ a->Q .non (upd (upd H a (j8 a C t0 (some dx))) dx (XdE dx (fn us))))->t { nx:=fun _ H'=>Q .non H',rt:=Q } (qB N (.ref a :: us)) H):Jf P w K mg base C k n fn:=by
 have bd:=F.binds hb
 obtain ⟨oc,od,kV,doc,pm,an,cdv,ct,osl,rfl,lk,hcd⟩:=F.ex
 have hfc:∃ oI,K.lookup f=some oI/\oI.cls=.type "function":=by
  refine ⟨_,lk,?_⟩
  have hf':=beq_iff_eq.mp hf
  have hf':Option.map (fun x:Obj=>x.cls) (K.lookup f)=some (.type "function"):=hf'
  rw [lk] at hf'
  exact b9 hf'
 refine ⟨f,_,ps,q,LU lk hcd S (fun vs H Q E ⟨a,t,us,e,l,_⟩=>by rw [e,aK,l,hl]) fun A outer s H vs Q E x ⟨a,t0,us,e,l,ha,hq⟩=>?_,bd,hfc,hl⟩
 obtain ⟨t,h1,h2⟩:=hbody cdv A outer s H E x
 subst e
 exact ⟨t,h1,h2 a t0 us Q l ha hq⟩
open PySem.W (Looks InstAt findIn findObj subIn mroIn clsIn takerIn hasDictIn)
noncomputable def JG (a C:ay)(d:Option ay):HO:=.ext fun h=>∃ o,h.get? a=some o/\o.cls=.ref C/\o.dict=d/\∃ vs,o.data=.fields vs/\vs[2]?=some .none
theorem GA {H:Hp}{h:Heap}{a C:ay}{d:Option ay}{o:Obj}{vs:Array aq}(e:h.get? a=some o)(hc:o.cls=.ref C)(hd:o.dict=d)(hf:o.data=.fields vs)(h2:vs[2]?=some .none):zV P w H h a (JG a C d):=
 ⟨⟨o,e,hc,hd,vs,hf,h2⟩,⟨o,e⟩,fun _ _ ⟨o,e,r⟩ k=>⟨o,k o e,r⟩⟩
noncomputable def ehR (K:az)(i:Nat)(T C2:ay)(n:Nat)(fn:List V->List (Str × V))(E:XK)(ta:TA):St->XK:=fun σ1 c d H1=>∃ C,c=.ref C/\iQ K (.ref C) (.ref T)=some true/\¬ Two d H1 /\
 ∀ x,H1 x=none->ta (σ1.set i (some (.ref x))) (upd H1 x (JG x C d)) fun vs H2=>vs.length=n/\n<=1000/\H2 x=some (JG x C d)/\∀ dx,H2 dx=none->E (.ref C2) (some dx) (upd H2 dx (.xd (fn vs)))
noncomputable def Fk (K:az)(i:Nat)(T C2:ay)(n:Nat)(fn:List V->List (Str × V))(E:XK)(tb:(St->XK)->TS)(ta:TA):TS:=fun D σ H=>tb (ehR K i T C2 n fn E ta) D σ H
section
variable {X:Cx}{E:XK}{body:List cJ}{n tx cx:Str}{i k nn:Nat}{T C2:ay}{np cp cpos rpos hpos pos:Pos}{tb:(St->XK)->TS}{ta:TA}{e1:Expr}{es:List Expr}{fn:List V->List (Str × V)}
theorem GY (D:DX X E)(nd:X.N.Nodup)(hi:X.N[i]?=some n)(hl:X.env.kindOf n=some .local)(hg:Gl X tx)(hm:X.mg tx=some (.ref T))(m:Jf X.prog X.w X.K X.mg X.base C2 k nn fn)(hr:qm (k+1) X.A)(hgc:Gl X cx)(hmc:X.mg cx=some (.ref C2))
  (hf2:∀ vs,2<=(fn vs).length) (hb:∀ (pins:List (ay × Obj)) (xe:aq->ax->Prop) (Eh:St->XK),Ze (CX1 X.prog X.w) (X.tried pins xe) Eh->PSs (X.tried pins xe) body (tb Eh)) (ha:∀ x,PA (X.inside x) (e1 :: es) ta)
  (hdb:(tx == ("__debug__":Str))=false:=by decide) (hdc:(cx == ("__debug__":Str))=false:=by decide) (he:aV (e1 :: es) X.env=(false,eval e1 X.env) :: aV es X.env:=by rfl) (hpl:(cH cpos (aV es X.env)).any (·.1)=false:=by rfl) :
  PS X (.Try body [.ExceptHandler (some (.Name tx np)) (some n) [.Raise (some (.Call (.Name cx cp) (e1 :: es) [] cpos)) none rpos] hpos] [] [] pos) (Fk X.K i T C2 nn fn E tb ta):=by
 intro pins s σ H De I h
 have hs:=D.stk
 have hf:=D.fr
 have hex:=D.ex
 refine wpAny_Try_except (aR (hb pins (fun e s'=>∃ σ1 H1 s1,Inv X pins σ1 H1 s1/\CX1 X.prog X.w X.stack H1 s1 (ehR X.K i T C2 nn fn E ta σ1) e s') (ehR X.K i T C2 nn fn E ta) (fun pins' σ1 H1 s1 e s' I1 c=>⟨σ1,H1,s1,I1.untried,c⟩) [] s σ H De (I.tried _) h) (fun f s1 q=>?_) fun e s1 q=>?_)
 ·have q:=q.untried
  cases f with
  | next=>exact f9 q
  | brk=>exact q
  | cont=>exact q
  | ret u=>exact q
 ·obtain ⟨σ1,H1,s1',I1,x,C,d,H',rfl,⟨⟨B,a0,a,fl⟩,hd⟩,C',eC,hx,ntw,q⟩:=q
  cases eC
  refine wQ.noted I.ok hs hf ⟨a,fl,hd⟩ fun s3 h3=>?_
  obtain ⟨hx0,I3⟩:=Air.here I1 hs hf hex h3.1 h3.2.1 h3.2.2
  refine wpAny_handleBy_cons (codeAny_handlers_test (kK (I3.inside x) hg hm ?_ hdb)) (by intro z;cases z)
  obtain ⟨oe,vs,he1,hc,_⟩:=h3.2.1.first
  have LT:hU (aN X.prog X.w) s3.heap (typeOf (.ref x)) (.ref C):=hc ▸ (hU.ld he1).andThen .now
  refine (PySem.W.exm_one I3.kIn LT hx).here ?_
  refine codeAny_handlers_suite_as (h3.lands fun s4 h4=>?_)
  obtain ⟨_,I4⟩:=Air.here I1 hs hf hex h4.1 h4.2.1 h4.2.2
  have I4:Inv X pins σ1 (upd H' x (JG x C d)) s4:=by
   obtain ⟨o,ho,hdo,h2o⟩:=h4.2.2
   obtain ⟨o',vs',ho',hc',hd',_⟩:=h4.2.1.first
   rw [ho] at ho';cases ho'
   have h2o:fl2 o=some .none:=h2o.resolve_right ntw
   have h2v:vs'[2]?=some .none:=by unfold fl2 at h2o;rw [hd'] at h2o;exact h2o
   have:=I4.write (x:=x) (e:=x) (h':=s4.heap) (t':=s4.toks) (o:=JG x C d) (by rw [zi];exact True.intro) (.inl rfl) (fun _ _ _ z=>z) ⟨o,ho⟩ (GA ho hc' hdo hd' h2v)
   rw [xN] at this
   exact this
  refine jz I4 nd hi (bq hl) (show zE (.ref x) (.ref x) from rfl) (fun s5 I5=>?_) (.inr hl)
  obtain ⟨fI,fd,ps,qI,F,hbI,⟨oI,lk,hfc⟩,hps⟩:=m
  obtain ⟨bm,N,nm,qn,bs,hdct,sn,sub,ab,col,dd,k0,k1,k2,k3,k5,mN,hC,hN,hii,TT⟩:=Ka I.ok.mod.kin qI
  refine lz ?_
  refine LC (C:=C2) (nm:=nm) (q:=qn) (N:=N) (bs:=bs) (bm:=bm) (hdct:=hdct) (sn:=sn) (sub:=sub) (ab:=ab) (col:=col) (dd:=dd) (k0:=k0) (k1:=k1) (k2:=k2) (k3:=k3) (k5:=k5)
   cL (by decide) cL (mN:=mN) (TT.hasType cL.hasBase) rfl (by rw [he];show (false || (cH cpos (aV es X.env)).any (·.1))=false;rw [hpl];rfl) hii hfc (kK (I5.inside x) hgc hmc ⟨rfl,?_⟩ hdc)
  have this:=ha x cpos pins s5 _ _ _ (I5.inside x) (q x hx0)
  have this:aL (aN X.prog X.w) (X.A.mark (some (.ref x))) (spliced (cH cpos (aV (e1 :: es) X.env))) _ (fun _ _=>False) s5:=this
  rw [he] at this ⊢
  refine fM (aR this (fun us s2 h2=>?_) fun _ _ y=>y.elim)
  obtain ⟨vs2,H2,I6,r,hlv,hnn,hxq,q1⟩:=h2
  have hlu:us.length=nn:=by rw [<- r.length];exact hlv
  refine ⟨rfl,by rw [hlu,dq];omega,I6.bk _ _ hC,hN.keeps I6.bk,TT.keeps I6.bk,I6.kIn _ _ lk,fun h' x1 hx1=>?_⟩
  obtain ⟨t1,ho,_,_⟩:=hx1.there
  have nx:s2.heap.get? x1=none:=hx1.new
  have hx10:X.s₀.heap.get? x1=none:=by
   cases z:X.s₀.heap.get? x1 with
   | none=>rfl
   | some o=>
    obtain ⟨o',e'⟩:=I6.base.there x1 o z (by show x1 ∉ X.ex;rw [D.ex];simp)
    rw [nx] at e';cases e'
  have hx11:H2 x1=none:=by
   cases z:H2 x1 with
   | none=>rfl
   | some o=>
    obtain ⟨u,e'⟩:=(I6.hok x1 o z).here
    rw [nx] at e';cases e'
  have J2:Inv (X.inside x) pins _ H2 { s2 with heap:=h' }:=I6.kept (t':=s2.toks) hx1.keeps
  have J3:Inv (X.inside x) pins _ (upd H2 x1 (j8 x1 C2 t1 none)) { s2 with heap:=h' }:=J2.track hx11 hx10 (fun z=>by
    obtain ⟨mm,⟨o,_,_,e',_⟩,_⟩:=I6.loc
    rw [<- z,nx] at e';cases e') (fun y c e' z=>by
    obtain ⟨v,o,e2,_⟩:=I6.cell y c e'
    rw [z,nx] at e2;cases e2) (fun p hp z=>by
    have:=(I6.pin p hp).1
    rw [z,nx] at this;cases this) (Jo ho)
  have r2:zz (V.ref x1 :: vs2) (aq.ref x1 :: us):=.cons rfl r
  have hl2:(aq.ref x1 :: us ++ []).length=ps.length:=by rw [bP,aK,hlu,hps]
  have b1:=hbI { s2 with heap:=h' } (aq.ref x1 :: us) J3.kIn hl2
  rw [bP] at b1
  refine iF (e9 (F _ x X.stack _ _ ⟨aq.ref x1 :: us,[]⟩ (aq.ref x1 :: us) (V.ref x1 :: vs2) (fun v H3=>v=.non/\∃ dx,H2 dx=none/\dx ≠ x1/\H3=upd (upd H2 x1 (j8 x1 C2 t1 (some dx))) dx (XdE dx (fn vs2))) E rfl ((hr.h _).make C2 us []) (J3.env0.make C2 us []) b1 r2 ⟨x1,t1,vs2,rfl,hlv,zi,fun dx hd hne=>⟨rfl,dx,?_,hne,by rw [xN]⟩⟩) fun r s' hq'=>?_)
  ·rw [zh hne] at hd;exact hd
  cases r with
  | error e=>exact ca hq'
  | ok fl=>
   cases fl with
   | ret u=>
    obtain ⟨v,H3,J4,rv,ev,dx,d1,d2,eH⟩:=J3.after hq'
    subst ev eH
    have hcl:=J4.bk _ _ hC
    have hexo:s'.heap.get? x1=some (Wh C2 t1 (some dx)):=by
     have:=J4.hok x1 (j8 x1 C2 t1 (some dx)) (by rw [zh (Ne.symm d2),zi])
     exact this.1
    have xx1:x ≠ x1:=fun z=>by rw [z,hx11] at hxq;cases hxq
    have xdx:x ≠ dx:=fun z=>by rw [z,d1] at hxq;cases hxq
    have hxo:∃ ox vx,s'.heap.get? x=some ox/\ox.data=.fields vx/\vx[2]?=some .none:=by
     obtain ⟨⟨o,g1,_,_,vx,g2,g3⟩,_⟩:=J4.hok x (JG x C d) (by rw [zh xdx,zh xx1];exact hxq)
     exact ⟨o,vx,g1,g2,g3⟩
    refine ⟨rv,xx1,hcl,⟨t1,some dx,hexo⟩,hxo,?_⟩
    have J5:=J4.drop (x:=x1) (by rw [zh (Ne.symm d2),zi];exact True.intro) hx10
    have eH:(fun b=>if b=x1 then none else upd (upd H2 x1 (j8 x1 C2 t1 (some dx))) dx (XdE dx (fn vs2)) b)=upd H2 dx (XdE dx (fn vs2)):=by
     funext b
     by_cases c:b=x1
     ·rw [if_pos c,c,zh (Ne.symm d2)];exact hx11.symm
     ·rw [if_neg c]
      by_cases c2:b=dx
      ·rw [c2,zi,zi]
      ·rw [zh c2,zh c,zh c2]
    rw [eH] at J5
    obtain ⟨⟨mA,hn1,hr1,_⟩,⟨od,hod⟩,_⟩:=J5.hok dx (XdE dx (fn vs2)) zi
    have J6:=J5.write (x:=dx) (e:=dx) (h':=s'.heap) (t':=s'.toks) (o:=.xd (fn vs2)) (by rw [zi];exact True.intro) (.inl rfl) (fun _ _ _ z=>z) ⟨od,hod⟩ ⟨mA,hn1,hr1⟩
    rw [xN] at J6
    have J7:Inv X pins _ (upd H2 dx (.xd (fn vs2))) s':=J6.outside I.ok
    have hup:=dJ (eV (·.setIfInBounds 2 (.ref x))) hexo rfl
    exact Xk D J7 hl (fun b o hb e'=>(ej _ _ (Ne.symm hb)).trans e') (fun o z=>by rw [hexo] at z;cases z;exact ⟨_,rfl⟩) hup rfl rfl rfl rfl rfl hx10 (by rw [zh (Ne.symm d2)];exact hx11) ⟨dx,_,rfl,zi,hf2 _⟩ (q1 dx d1)
   | next=>exact ca hq'
   | brk=>exact ca hq'
   | cont=>exact ca hq'
end
open PySem.W (Looks InstAt findIn findObj subIn mroIn clsIn takerIn hasDictIn)
noncomputable def Yl (K:az)(ta:TE)(f:Str):TE:=fun σ H Q=>ta σ H fun x H1=>∃ a C dx fs v,x=.ref a/\H1 a=some (JG a C (some dx))/\H1 dx=some (.xd fs)/\Nt K C/\fB K C=true/\fD K (.ref C) f=some none/\fs.lookup f=some v/\Q v H1
section
variable {X:Cx}{e:Expr}{ta:TE}{f:Str}{pos:Pos}{K:az}
theorem EW (he:PE X e ta)(hb:eD e f X.env (eval e X.env)=eval e X.env):PE X (.Attribute e f pos) (Yl X.K ta f):=by
 intro pins s σ H Q I h
 refine Vp hb (thn (he pins s σ H _ I h) fun u s1 ⟨x,H1,I1,rx,a,C,dx,fs,v,ex,ea,ed,c,hh,hn,l,q⟩=>?_)
 subst ex
 obtain rfl:u=aq.ref a:=rx
 obtain ⟨⟨oa,g1,g2,g3,vs,g4,_⟩,_,_⟩:=I1.hok a _ ea
 obtain ⟨mA,hns,hr⟩:=I1.hok dx _ ed
 obtain ⟨od,ho,hl⟩:=Qo hns
 have hv:=hr f
 rw [l] at hv
 cases z:mA f with
 | none=>rw [z] at hv;exact hv.elim
 | some u'=>
  rw [z] at hv
  have J:InstAt s1.heap a oa C (some od):=⟨g1,g2,by unfold mV;rw [g4],by rw [g3];exact ho⟩
  refine IQ I1.kIn J c.bx c.ga c.gt (K3 hh hn (by rw [hl,z])) (Qd hv) ⟨v,H1,I1.tok _,hv,q⟩
theorem Aw (h:X.K=K)(he:PE X e ta)(hb:eD e f X.env (eval e X.env)=eval e X.env):PE X (.Attribute e f pos) (Yl K ta f):=h ▸ EW he hb
end
noncomputable def IG (K:az)(i j:Nat)(T C2:ay)(f:Str)(fn:List V->List (Str × V))(EA:ASt->AXK)(ab:(ASt->AXK)->AS):AS:=fun B D ρ M=>
 ab (fun ρ1 C fs M1=>iQ K (.ref C) (.ref T)=some true/\∃ (a:Int) (v:V),ρ1[j]?=some (some (.d (.int a)))/\fs=[(f,v)]/\Nt K C/\fB K C=true/\fD K (.ref C) f=some none/\i ≠ j/\i<ρ1.length/\EA ρ1 C2 (fn [.int a,v]) M1) B D ρ M
section
variable {HX:Hp}{OX:Own}{MX:MH}{K:az}{i j:Nat}{T C2:ay}{f:Str}{fn:List V->List (Str × V)}{E:XK}{EA:ASt->AXK}{tb:(St->XK)->TS}{ab:(ASt->AXK)->AS}
theorem Wt (hE:EXs HX OX MX (fun _=>E) EA)(hb:∀ (H0:Hp) (O0:Own) (M0:MH) (E:St->XK) (EA:ASt->AXK),EXs H0 O0 M0 E EA->kr H0 O0 M0 (tb E) (ab EA)) :
  kr HX OX MX (Fk K i T C2 2 fn E tb (KY (ZC j) (KY (Yl K (ZC i) f) Wu))) (IG K i j T C2 f fn EA ab):=
 ⟨fun {H0 O0 M0 D D' σ H O ρ M} kx w0 w e x q Dd=>(hb H0 O0 M0 _ _ ⟨fun σ1 ρ1 C fs M1 H1 O1 d q1 k1 w1 e1 xd=>by
  obtain ⟨hx,a,v,hj,rfl,xc,hh,hn,ij,il,q2⟩:=q1
  obtain ⟨dx,rfl,h1,h2,h3⟩:∃ dx,d=some dx/\H1 dx=some (.xd [(f,v)])/\O1 dx/\M1 dx=none:=by
   rcases xd with ⟨_,z⟩ | xd
   ·cases z
   ·exact xd
  refine ⟨C,rfl,hx,fun ⟨dx',fs',z1,z2,z3⟩=>?_,fun y hy=>?_⟩
  ·cases z1
   rw [h1] at z2;cases z2
   simp at z3
  obtain ⟨u,g1,g2⟩:=e1.get j _ hj
  obtain rfl:=zQ g2
  have ydx:dx ≠ y:=fun z=>by rw [z,hy] at h1;cases h1
  refine ⟨.int a,by rw [dR ij];exact g1,?_⟩
  refine ⟨.ref y,by rw [gu (by rw [e1.len];exact il)],y,C,dx,[(f,v)],v,rfl,zi,by rw [zh ydx];exact h1,xc,hh,hn,by simp,?_⟩
  refine ⟨rfl,by decide,zi,fun dx2 hd2=>?_⟩
  have k2:=qw w1 hy (JG y C (some dx))
  have w2:=j9 w1 hy (JG y C (some dx)) (fun _ z=>nomatch z)
  have k3:=qw w2 hd2 (.xd (fn [.int a,v]))
  have w3:=j9 w2 hd2 (.xd (fn [.int a,v])) (fun _ z=>nomatch z)
  exact hE.go _ _ C2 (fn [.int a,v]) M1 _ _ (some dx2) q2 (((kx.trans k1).trans k2).trans k3) w3 (e1.ext (k2.trans k3)) (.inr ⟨dx2,rfl,zi,.inl rfl,(w2.fresh hd2).2⟩)⟩).go .refl w0 w e x q Dd⟩
end
section
variable {X:Cx}{K:az}{E:XK}{body:List cJ}{n tx cx:Str}{i k nn:Nat}{T C2:ay}{np cp cpos rpos hpos pos:Pos}{tb:(St->XK)->TS}{ta:TA}{e1:Expr}{es:List Expr}{fn:List V->List (Str × V)}
theorem A6 (h:X.K=K)(D:DX X E)(nd:X.N.Nodup)(hi:X.N[i]?=some n)(hl:X.env.kindOf n=some .local)(hg:Gl X tx)(hm:X.mg tx=some (.ref T))(m:Jf X.prog X.w X.K X.mg X.base C2 k nn fn)(hr:qm (k+1) X.A)(hgc:Gl X cx)(hmc:X.mg cx=some (.ref C2))
  (hf2:∀ vs,2<=(fn vs).length) (hb:∀ (pins:List (ay × Obj)) (xe:aq->ax->Prop) (Eh:St->XK),Ze (CX1 X.prog X.w) (X.tried pins xe) Eh->PSs (X.tried pins xe) body (tb Eh)) (ha:∀ x,PA (X.inside x) (e1 :: es) ta)
  (hdb:(tx == ("__debug__":Str))=false:=by decide) (hdc:(cx == ("__debug__":Str))=false:=by decide) (he:aV (e1 :: es) X.env=(false,eval e1 X.env) :: aV es X.env:=by rfl) (hpl:(cH cpos (aV es X.env)).any (·.1)=false:=by rfl) :
  PS X (.Try body [.ExceptHandler (some (.Name tx np)) (some n) [.Raise (some (.Call (.Name cx cp) (e1 :: es) [] cpos)) none rpos] hpos] [] [] pos) (Fk K i T C2 nn fn E tb ta):=h ▸ GY D nd hi hl hg hm m hr hgc hmc hf2 hb ha hdb hdc he hpl
end
abbrev EV:=List AV->MH->(List AV->MH->Prop)->Prop
noncomputable def FK (a:EV):Sp:=fun vs H Q _=>∃ xs M O Q',Wf H O M/\zj H O M vs xs/\a xs M Q'/\∀ ys M' us H' O' p,Q' ys M'->Ext H O M H' O' M'->Wf H' O' M'->H' p=some (.tup us)->zj H' O' M' us ys->Q (.ref p) H'
noncomputable def Iq (sp:EV)(b:AA)(n:Nat)(ag:AGs):AS:=fun _ D ρ M=>b ρ M fun xs M1=>sp xs M1 fun ys M2=>ys.length=n/\ag ys ρ M2 fun ρ2 M3=>D.nx ρ2 M3
variable {u:TA} {b:AA} {gs:TGs} {ag:AGs}
theorem Fx {sp:EV} (h:jc u b)(hg:Ql gs ag):jo (JK (KR (FK sp) [] E0 u) (Aj K n gs)) (Iq sp b n ag):=⟨fun _ w e x q E=>h.go w e q fun xs M1 vs H1 O1 q1 k1 w1 r1=>
 ⟨xs,M1,O1,_,w1,by rw [bP];exact r1,q1,fun ys M2 us H2 O2 p q2 k2 w2 hp r2=>
  ⟨p,us,rfl,SqT.of hp,r2.1.trans q2.1,hg.go w2 (e.ext (k1.trans k2)) r2 q2.2 fun σ3 H3 O3 ρ3 M3 q3 k3 w3 e3=>E.nx _ _ _ _ _ w3 e3 (((x.trans k1).trans k2).trans k3) q3⟩⟩⟩
noncomputable def Ib (b:AA)(n:Nat)(ag:AGs):AS:=fun _ D ρ M=>b ρ M fun xs M1=>xs.length=n/\n<=aT/\ag xs ρ M1 fun ρ2 M3=>D.nx ρ2 M3
theorem Es (h:jc u b)(hg:Ql gs ag):jo (JK (Wr u) (Aj K n gs)) (Ib b n ag):=⟨fun _ w e x q E=>h.go w e q fun xs M1 vs H1 O1 q1 k1 w1 r1=>
 ⟨by rw [r1.1,q1.1];exact q1.2.1,fun p hp=>
  have k2:=qj w1 hp (.tup vs)
  ⟨p,vs,rfl,SqT.of zi,r1.1.trans q1.1,hg.go (jS w1 hp _) (e.ext (k1.trans k2)) (r1.ext k2) q1.2.2 fun σ3 H3 O3 ρ3 M3 q3 k3 w3 e3=>E.nx _ _ _ _ _ w3 e3 (((x.trans k1).trans k2).trans k3) q3⟩⟩⟩
noncomputable def Y6:V->List V->Hp->VK->Prop:=fun x vs H Q=>∃ l xs v j,x=.ref l/\vs=[v]/\H l=some (.lst xs)/\xs.all kW=true/\kW v=true/\j<xs.length/\(∀ y,xs[j]?=some y->eqV y v=true)/\(∀ m y,m<j->xs[m]?=some y->eqV y v=false)/\Q (.int (j:Nat)) H
section
variable {X:Cx}
theorem Ad:MtR X "list.index" Y6:=by
 intro pins s σ H x vs v us Q I rx rv h
 obtain ⟨l,xs,i,j,rfl,rfl,hH,hf,hfi,hj,hji,hm,q⟩:=h
 cases rx
 obtain ⟨u,rfl,ru⟩:=rv.one
 obtain ⟨z,its,n,r,hl,e⟩:=I.lstM hH
 have hlen:=r.length
 have hsz:aT<2 ^ 62:=by rw [dq];decide
 have item:∀ m (hmm:m<its.length),∃ y,xs[m]?=some y/\eqU i its[m]=eqV y i:=fun m hmm=>by
  have h1:xs[m]?=some xs[m]:=aj (by omega)
  obtain ⟨w,hw,rw1⟩:=r.get h1
  have hw2:=(aA.mp hw).2
  exact ⟨_,h1,by rw [hw2];exact XG rw1 (fP.mp hf _ (bo _))⟩
 refine gT F.slot_list_index ⟨_,e,rfl⟩ F.entry_list_index (F.args_list_index_2 _ _) (SeqAt.list_indexAt l its.toArray n none _ u (eqU i) j (by rw [aH];omega) (by omega) ?_ ?_) ⟨e,?_,?_⟩
 ·obtain ⟨y,y1,y2⟩:=item j (by omega)
  rw [mW,y2]
  exact hji y y1
 ·intro m hmm hmj
  obtain ⟨y,y1,y2⟩:=item m (by rw [aH] at hmm;exact hmm)
  rw [mW,y2]
  exact hm m y hmj y1
 ·intro y hy
  exact Zs (x:=i) ru hfi r hf y (by simpa using hy)
 ·exact ⟨.int (j:Nat),H,I.kept (t':=s.toks+1) fun b o e=>e,⟨_,rfl⟩,q⟩
end
noncomputable def YJ:AV->List AV->MH->AK->Prop:=fun x xs M Q=>∃ l vs d v j,qN x M=some l/\xs=[.d d]/\ZX l=some vs/\flD d=some v/\j<vs.length/\(∀ y,vs[j]?=some y->eqV y v=true)/\(∀ m y,m<j->vs[m]?=some y->eqV y v=false)/\Q (.d (.int (j:Nat))) M
theorem X3:Xm Y6 YJ:=⟨fun w r1 r2 ⟨l,vs,d,v,j,hl,e,hs,hv,hj,h1,h2,q⟩ k=>by
 subst e
 obtain ⟨u,rfl,ru⟩:=jk r2
 obtain ⟨a,xs,rfl,g1,p1⟩:=qz w r1 hl
 obtain ⟨rfl,f1⟩:=XM ru hv
 obtain ⟨rfl,f2⟩:=Jm p1 hs
 exact ⟨a,xs,u,j,rfl,rfl,g1,f2,f1,hj,h1,h2,k _ _ _ _ _ q .refl w .int⟩⟩
structure Xt where
 nx:ASt->MH->Prop
 rt:List AV->MH->Prop
abbrev AST:=MH->Xt->ASt->MH->Prop
structure Qk (t:TS)(a:AST):Prop where
 go:∀ {H0:Hp} {O0:Own} {M0:MH} {Q:VK} {D':Xt} {σ:St} {H:Hp} {O:Own} {ρ:ASt} {M:MH} {nx:St->Hp->Prop},Wf H0 O0 M0->Wf H O M->Er H O M σ ρ->Ext H0 O0 M0 H O M->a M0 D' ρ M ->
  (∀ ys M' us H' O' p,D'.rt ys M'->Ext H0 O0 M0 H' O' M'->Wf H' O' M'->H' p=some (.tup us)->zj H' O' M' us ys->Q (.ref p) H')->t { nx:=nx,rt:=Q } σ H
noncomputable def YK (a:AS)(b:AST):AST:=fun B D ρ M=>a B { nx:=fun ρ' M'=>b B D ρ' M',rt:=fun _ _=>False } ρ M
noncomputable def HU (b:AA):AST:=fun _ D ρ M=>b ρ M fun ys M'=>ys.length<=aT/\D.rt ys M'
variable {a:AS}
theorem An {t u:TS} {b:AST}(h1:jo t a)(h2:Qk u b):Qk (Wk t u) (YK a b):=
 ⟨fun w0 w e x q k=>h1.go w0 w e x q ⟨fun σ H O ρ M w e x q=>h2.go w0 w e x q k,fun _ _ _ _ _ _ _ _ z=>z.elim,fun _ _ _ _ _ _ _ _ z=>z.elim,fun _ _ _ _ _ _ _ _ z=>z.elim⟩⟩
theorem WN (h:jc u b):Qk (GE (Wr u)) (HU b):=
 ⟨fun w0 w e x q k=>h.go w e q fun ys M1 us H1 O1 q1 k1 w1 r1=>⟨by rw [r1.1];exact q1.1,fun p hp=>
  have k2:=qj w1 hp (.tup us)
  k ys M1 us _ O1 p q1.2 ((x.trans k1).trans k2) (jS w1 hp _) zi (r1.ext k2)⟩⟩
theorem KI {b:AST}{B:MH}{D:Xt}{ρ:ASt}{M:MH}(h:∀ r,r=b->YK a r B D ρ M):YK a b B D ρ M:=h b rfl
theorem dfT {x:Str} {a:EV}(at_:At K mg x st)(S:zn N ps (zd st))
  (hb:∀ (kV doc pm:aq) (an:Option ay) (cdv ct:aq) (us:List aq),us.length=ps.length->fm (b7 x x (qq st) (zN st) (zd st) .none kV doc pm an cdv ct) ⟨us,[]⟩=pure (ps.zip us))
  (len:∀ xs M Q,a xs M Q->xs.length=ps.length)
  (hbody:∀ (f:ay) (cdv:aq) (A:bt) (outer:List Env) (s:ax) (H:Hp) (E:XK),qm k (A.deeper (fK x (zd st) s.heap.objs.size f cdv)) ->
   ∃ t,PSs (jF CX0 P w K mg base N x (zd st) f cdv A outer s H E).nox (zN st) t/\∃ b,Qk t b/\∀ xs M Q,a xs M Q->b M { nx:=fun _ _=>False,rt:=Q } (zJ N xs) M):Df P w K mg base x ps (k+1) (FK a):=by
 refine vU at_ S hb (fun vs H Q E h=>?_) (fun f cdv A outer s H vs Q E hr h=>?_)
 ·obtain ⟨xs,M,O,Q',w,r,q,_⟩:=h
  rw [r.1];exact len xs M Q' q
 ·obtain ⟨t,ht,b,hb,hq⟩:=hbody f cdv A outer s H E hr
  refine ⟨t,ht,?_⟩
  obtain ⟨xs,M,O,Q',w,r,q,kk⟩:=h
  exact hb.go w w (xr r N) .refl (hq xs M Q' q) kk
end L2
namespace L2
open PySem PyProof.Rows
noncomputable def kn (p:cM):Int:=numOf p.1
def LEr (rk:cM->Int)(p q:cM):Prop:=kn p<kn q \/ (kn p=kn q/\rk p<=rk q)
section
variable {rk:cM->Int}{p q r:cM}
end
def IsI (p:cM):Prop:=∃ n t,p.1=aq.int n t
section
variable {prog:ba}{w:bE}{A:bt}{E:aq->ax->Prop}{s:ax}
end
noncomputable def byd (left:Bool)(key x:cM):Bool:=if left then decide (kn x<kn key) else !decide (kn key<kn x)
structure Cut (left:Bool)(key:cM)(f:Nat->cM)(n k:Nat):Prop where
 le:k<=n
 lo:∀ i,i<k->byd left key (f i)=true
 hi:∀ i,k<=i->i<n->byd left key (f i)=false
section
variable {prog:ba}{w:bE}{A:bt}{E:aq->ax->Prop}{s:ax}
end
end L2
namespace L2
open PySem PyProof.Rows
section
variable {rk:cM->Int}
structure MLo (rk:cM->Int)(X Y:List cM)(a b:Nat)(o:List cM):Prop where
 la:a<=X.length
 lb:b<=Y.length
 perm:o.Perm (X.take a ++ Y.take b)
 pw:o.Pairwise (LEr rk)
 lx:∀ x ∈ o,∀ y ∈ X.drop a,LEr rk x y
 ly:∀ x ∈ o,∀ y ∈ Y.drop b,LEr rk x y
structure Pn (rk:cM->Int)(X Y:List cM):Prop where
 px:X.Pairwise (LEr rk)
 py:Y.Pairwise (LEr rk)
 bel:∀ x ∈ X,∀ y ∈ Y,rk x<=rk y
 ix:∀ x ∈ X,IsI x
 iy:∀ y ∈ Y,IsI y
variable {X Y o:List cM}{a b:Nat}
end
section
variable {prog:ba}{w:bE}{A:bt}{E:aq->ax->Prop}{s:ax}{rk:cM->Int}
end
end L2
namespace L2
open PySem PyProof.Rows
section
variable {prog:ba}{w:bE}{A:bt}{E:aq->ax->Prop}{s:ax}{rk:cM->Int}
end
end L2
namespace L2
open PySem PyProof.Rows
section
variable {rk:cM->Int}{X Y o:List cM}{a b:Nat}
structure MHi (rk:cM->Int)(X Y:List cM)(a b:Nat)(o:List cM):Prop where
 la:a<=X.length
 lb:b<=Y.length
 perm:o.Perm (X.drop a ++ Y.drop b)
 pw:o.Pairwise fun p q=>LEr rk q p
 lx:∀ x ∈ o,∀ y ∈ X.take a,LEr rk y x
 ly:∀ x ∈ o,∀ y ∈ Y.take b,LEr rk y x
end
section
variable {prog:ba}{w:bE}{A:bt}{E:aq->ax->Prop}{s:ax}{rk:cM->Int}
end
end L2
namespace L2
open PySem PyProof.Rows
noncomputable def gK (xs:Array cM)(i:Nat):cM:=xs[i]?.getD (.none,.none)
structure Sg (xs ys:Array cM)(lo hi:Nat):Prop where
 perm:ys.Perm xs
 out:∀ i,i<lo \/ hi<=i->ys[i]?=xs[i]?
 inn:∀ i,lo<=i->i<hi->∃ j,lo<=j/\j<hi/\ys[i]?=xs[j]?
structure SoB (a₀:Array cM)(st:SortSt):Prop where
 perm:(arrOf st).Perm a₀
 kind:kindOf st=oneType'
 failed:failedOf st=none
section
variable {prog:ba}{w:bE}{A:bt}{E:aq->ax->Prop}{s:ax}{a₀:Array cM}{rk:cM->Int}
end
end L2
namespace L2
open PySem PyProof.Rows
section
variable {prog:ba}{w:bE}{A:bt}{E:aq->ax->Prop}{s:ax}{a₀:Array cM}{rk:cM->Int}
def Fal (rk:cM->Int)(xs:Array cM)(lo hi:Nat):Prop:=∀ i j,lo<=i->i<=j->j<hi->LEr rk (gK xs j) (gK xs i)
structure Dsc (rk:cM->Int)(xs:Array cM)(lo T hi:Nat):Prop where
 l:lo<=T
 t:T<hi
 a:Fal rk xs lo T
 b:∀ i,lo<=i->i<T->kn (gK xs (hi - 1))<kn (gK xs i)
 c:∀ i j,T<=i->i<=j->j<hi->kn (gK xs i)=kn (gK xs (hi - 1))/\rk (gK xs i)<=rk (gK xs j)
end
end L2
namespace L2
open PySem PyProof.Rows
section
variable {prog:ba}{w:bE}{A:bt}{E:aq->ax->Prop}{s:ax}{rk:cM->Int}
end
end L2
namespace L2
open PySem PyProof.Rows
noncomputable def Pnd:Nat->List (Nat × Nat × Nat)->List (List cM)->Prop
 | _,[],[]=>True
 | o,p :: ps,r :: rs=>p.1=o/\p.2.1=r.length/\Pnd (o+r.length) ps rs
 | _,_,_=>False
section
variable {prog:ba}{w:bE}{A:bt}{E:aq->ax->Prop}{s:ax}{a₀:Array cM}{rk:cM->Int}
structure Rns (rk:cM->Int)(a₀:Array cM)(rs:List (List cM))(qk:List cM)(st:SortSt):Prop where
 b:SoB a₀ st
 e:(arrOf st).toList=rs.flatten ++ qk
 ne:∀ r ∈ rs,0<r.length
 so:∀ r ∈ rs,r.Pairwise (LEr rk)
 bel:rs.Pairwise fun X Y=>∀ x ∈ X,∀ y ∈ Y,rk x<=rk y
 be:∀ x ∈ rs.flatten,∀ y ∈ qk,rk x<=rk y
 pn:Pnd 0 (pendingOf st).toList rs
end
end L2
namespace L2
open PySem PyProof.Rows
section
variable {prog:ba}{w:bE}{A:bt}{E:aq->ax->Prop}{s:ax}{a₀:Array cM}{rk:cM->Int}
end
end L2
namespace L2
open PySem PyProof.Rows
section
variable {prog:ba}{w:bE}{A:bt}{E:aq->ax->Prop}{s:ax}{a₀:Array cM}{rk:cM->Int}
end
end L2
namespace L2
open PySem PyProof.Rows
section
variable {prog:ba}{w:bE}{A:bt}{E:aq->ax->Prop}{s:ax}
end
section
variable {prog:ba}{w:bE}{A:bt}{E:aq->ax->Prop}{s:ax}
end
section
variable {X:Cx}
end
section
variable {X:Cx}
variable {o e:Expr}{es:List Expr}{to:TE}{t:TA}{name:Str}{apos cpos:Pos}{T1 id1 T2 id2:String}{r1 r2:V->List V->Hp->VK->Prop}{K:az}
end
section
variable {prog:ba}{w:bE}{A:bt}{R:nD->ax->Prop}{s:ax}
end
section
variable {C:Cx}{kx vx tg iter:Expr}{ifs:List Expr}{gens:List dN}{scope:Scope}{pos:Pos}{d:Nat}{D:ay}{g:TG}{tt:TT}{te:TE}{tr:TR}
end
section
variable {X:Cx}{ts:List Nat}{scope:Scope}{tg iter kx vx:Expr}{ifs:List Expr}{qk:List dN}{wi:TI}{g:TG}{tt:TT}{tr:ay->TR}{pos:Pos}
end
section
variable {P:ba}{w:bE}{A:bt}{E:aq->ax->Prop}{s:ax}{n l1 l2 l3:Nat}{k:Nat}{xs ys zs:Array aq}{x y u a b c:aq}{Q:Option aq->ax->Prop}
end
section
variable {X:Cx}{es:List Expr}{kt:Nat}{tp:Pos}
end
section
variable {X:Cx}{o i:Expr}{pos:Pos}{td ty:TE}
end
section
variable {X:Cx}{es:List Expr}{kt:Nat}{tp gp:Pos}{body:List cJ}{pos:Pos}{tb:TS}{g:Str}{a:ay}{is:List Nat}
end
noncomputable def VO (v:V):Option AV->Prop
 | none=>True
 | some (.d (.int i))=>v=.int i
 | some _=>False
inductive VOs:List V->List (Option AV)->Prop
 | nil:VOs [] []
 | cons {v:V} {x:Option AV} {vs:List V} {xs:List (Option AV)}:VO v x->VOs vs xs->VOs (v :: vs) (x :: xs)
inductive DS (b:List V->TS):List (List V)->List (List (Option AV) × AS)->Prop
 | nil:DS b [] []
 | cons {vs:List V} {vss:List (List V)} {xs:List (Option AV)} {ab:AS} {r:List (List (Option AV) × AS)}:VOs vs xs->jo (b vs) ab->DS b vss r->DS b (vs :: vss) ((xs,ab) :: r)
abbrev ATD:=ASt->MH->(ASt->MH->Prop)->Prop
structure Pl (tr:TR)(a:ATD):Prop where
 go:∀ {σ:St} {H:Hp} {O:Own} {ρ:ASt} {M:MH} {N:St->Hp->Prop} {N':ASt->MH->Prop},Wf H O M->Er H O M σ ρ->a ρ M N'->(∀ σ' H' O' ρ' M',N' ρ' M'->Ext H O M H' O' M'->Wf H' O' M'->Er H' O' M' σ' ρ'->N σ' H')->tr σ H N
section
variable {X:Cx}{ts:List Nat}{scope:Scope}{tg iter kx vx:Expr}{ifs:List Expr}{qk:List dN}{wi:TI}{g:TG}{tt:TT}{tr:ay->TR}{pos:Pos}
end
section
variable {X:Cx}{es:List Expr}{kt:Nat}{tp gp:Pos}{elt:Expr}{scope:Scope}{pos:Pos}{te:TE}{g:Str}{a:ay}{is ts:List Nat}
end
inductive NO:List (List V)->List (List (Option AV))->Prop
 | nil:NO [] []
 | cons {vs:List V} {xs:List (Option AV)} {vss:List (List V)} {xss:List (List (Option AV))}:VOs vs xs->NO vss xss->NO (vs :: vss) (xs :: xss)
section
variable {X:Cx}{e hi st:Expr}{te:TE}{th ts:TO}{p2 pos:Pos}{K:az}
end
section
variable {prog:ba}{w:bE}{K:Type}[DecidableEq K]{knd:KeyKind prog w K}{A:bt}{E:aq->ax->Prop}{s:ax}{a b:ay}
end
inductive Ke:List (TE × TE)->List (AE × AE)->Prop
 | nil:Ke [] []
 | cons {tk tv:TE} {ak av:AE} {ts:List (TE × TE)} {as:List (AE × AE)}:zH tk ak->zH tv av->Ke ts as->Ke ((tk,tv) :: ts) ((ak,av) :: as)
noncomputable def HK (t:TE):TE:=t
theorem GV {X:Cx}{e:Expr}{t:TE}(h:PE X e t):PE X e (HK t):=h
noncomputable def HW (b:AA):AE:=fun ρ M Q=>b ρ M fun xs M1=>xs.length<=aT/\∃ l,xs=l.map tiA/\Q (.tp l) M1
theorem AW {u:TA}{b:AA}(h:jc u b):zH (HK (Wr u)) (HW b):=
 ⟨fun w e q k=>h.go w e q fun x M1 v H1 O1 q1 k1 w1 r1=>⟨by rw [r1.1];exact q1.1,fun p hp=>by
  obtain ⟨_,l,e1,q2⟩:=q1
  subst e1
  have r2:=r1.ext (qj w1 hp (.tup v))
  refine k _ _ _ _ _ q2 (k1.trans (qj w1 hp _)) (jS w1 hp _) ⟨p,v,rfl,(w1.fresh hp).1,zi,by have:=r2.1;rw [am] at this;exact this,fun i x d e1 e2=>?_⟩
  have:=r2.2 i x (tiA d) e1 (by rw [aE,e2];rfl)
  cases d <;> exact this⟩⟩
theorem MS {M0 M:MH}(f:Fr M0 M){p:ay}{l:List AV}{ds:List Dat}(h0:M0 p=none)(h:M p=some (.lst l))(hp:pur l=some ds){m:List (Dat ⊕ ay)}(hm:∀ r,cv r ∈ m->r=p):vI M0 M (.tp m) (.tp m) (mup M0 p (.lst l)):=by
 obtain ⟨h1,h2,h3⟩:=QH f h0 h hp
 exact ⟨h1,h2,.inl ⟨rfl,fun q z=>by rw [hm q z,ze];exact fun z=>nomatch z⟩⟩
inductive J1 (M:MH):AV->Dat->Prop
 | d {x:Dat}:J1 M (.d x) x
 | lst {p:ay} {l:List AV} {ds:List Dat}:M p=some (.lst l)->l.length=ds.length->(∀ (i:Nat) a b,l[i]?=some a->ds[i]?=some b->J1 M a b)->J1 M (.ref p) (.lst ds)
 | tp {l:List (Dat ⊕ ay)} {ds:List Dat}:l.length=ds.length->(∀ (i:Nat) a b,l[i]?=some a->ds[i]?=some b->J1 M (tiA a) b)->J1 M (.tp l) (.tup ds)
theorem Ya {C:ay}{m:Str}{sp:xg}{te:TE}{ta:TA}{ae:AE}{aa:AA}(ho:zH te ae)(hu:jc ta aa):zH (vd C m (ja sp) (fun _=>E0) te ta) (yz C m sp (fun _ _ _ _=>False) ae aa):=
 ⟨fun {σ H O ρ M Q Q'} w e q k=>y8 (HX:=H) (OX:=O) (MX:=M) ⟨fun _ _ _ _ _ _ _ _ z=>z.elim⟩ ho hu .refl w e q k⟩
open AutoSeq1 (wpAny_loadPart')
section
variable {prog:ba}{w:bE}{A:bt}{E:aq->ax->Prop}{s:ax}
variable {r:ay} {a b c:Int} {t u v:Tok} {n:Nat}
theorem ZV {Q:List aq->ax->Prop} (hh:A.handled=none)(hr:IsRange s.heap r a b c t u v)(hsmall:cy a b c=true)
  (hn:bR a b c=n) (hlen:n<=2 ^ 24)
  (hQ:∀ (h':Heap) (tk:Nat) (acc:Array aq),(∀ b o,s.heap.get? b=some o->h'.get? b=some o)->nU (fun i v=>∃ t,v=.int (a+i * c) t) acc n->Q acc.toList { s with heap:=h',toks:=tk }) :
  aL (aN prog w) A (collect (.ref r)) Q E s:=by
 unfold collect
 refine aw (mU (ft F.entry_proto_collect ?_))
 rw [bt.under_plainId F.plain_proto_collect _]
 show aL _ A.in1 (oB [] >>= fun l=>again (.builtin "list.__iadd__" ⟨[l,.ref r],[]⟩)) _ _ s
 refine aw (bO ?_)
 refine aJ ⟨plainId_quiet F.plain_list_iadd _,ft F.entry_list_iadd ?_⟩
 rw [bt.under_plainId F.plain_list_iadd _]
 show aL _ A.in1 (fF (.ref s.heap.objs.size) (.ref r) (.ref s.heap.objs.size)) _ _ _
 have hS:(s.heap.push { cls:=.type "list",data:=.seq ([]:List aq).toArray }).get? s.heap.objs.size=some { cls:=.type "list",data:=.seq #[] 0 }:=aS _ rfl
 have fin':∀ (h':Heap) tk (acc:Array aq) (c':Nat),(∀ b o,s.heap.get? b=some o->h'.get? b=some o)->h'.get? s.heap.objs.size=some { cls:=.type "list",dict:=none,data:=.seq acc c',slots:=#[] }->nU (fun i v=>∃ t,v=.int (a+i * c) t) acc n ->
   aL (aN prog w) A (match aq.ref s.heap.objs.size with
   | aq.ref a=>do
    match (<- load a).data with
     | Data.seq xs _=>pure xs.toList
     | _=>unsupported "internal:collect"
   | _=>unsupported "internal:collect") Q E { s with heap:=h',toks:=tk }:=fun h' tk acc c' hk hg hi=>by
  show aL _ A (load s.heap.objs.size >>= _) _ _ _
  refine aw (nA hg ?_)
  refine aJ ?_
  exact hQ h' tk acc hk hi
 refine aR (wpAny_extend_range (A:=A) (R:=fun r' s'=>r'=.ok (.ret (.ref s.heap.objs.size))/\∃ h' tk acc c',s'={ s with heap:=h',toks:=tk }/\(∀ b o,s.heap.get? b=some o->h'.get? b=some o)/\h'.get? s.heap.objs.size=some { cls:=.type "list",dict:=none,data:=.seq acc c',slots:=#[] }/\nU (fun i v=>∃ t,v=.int (a+i * c) t) acc n)
  (s:={ s with heap:=s.heap.push { cls:=.type "list",data:=.seq ([]:List aq).toArray } }) hh (aD _ hr) hsmall hn hlen s.heap.objs.size _ 0 hS
  fun h' tk acc' c' hk hg hi=>⟨rfl,h',tk,acc',c',rfl,fun b o e=>hk b o (bw (aM e)) (aD _ e),hg,hi⟩) (fun fin s' h=>?_) (fun e s' h=>?_)
 ·cases fin with
  | done f=>
   obtain ⟨e,h',tk,acc,c',rfl,h1,h2,h3⟩:=h
   cases e
   exact fin' h' tk acc c' h1 h2 h3
  | again c'=>exact ⟨h.1,e9 h.2 fun r s'' hr=>by obtain ⟨rfl,h',tk,acc,c',rfl,h1,h2,h3⟩:=hr;exact fin' h' tk acc c' h1 h2 h3⟩
 ·exact absurd h.1 (by simp)
theorem vp {Q₁:aq->ax->Prop} (hh:A.handled=none)(hr:IsRange s.heap r a b c t u v)(hsmall:cy a b c=true)
  (hn:bR a b c=n) (hlen:n<=100000)
  (h:∀ (h':Heap) (tk:Nat) (acc:Array aq),(∀ b o,s.heap.get? b=some o->h'.get? b=some o)->nU (fun i v=>∃ t,v=.int (a+i * c) t) acc n->Q₁ (.ref h'.objs.size) { s with heap:=h'.push { cls:=.type "tuple",data:=.seq acc },toks:=tk }) :
  dX (aN prog w) A (.call (.builtin "tuple.__new__") ⟨[.type "tuple",.ref r],[]⟩) (wants Q₁ E) s:=by
 refine codeAny_of_tree ?_
 show aL _ A.in1 (do checkBuiltinCall "tuple.__new__" ⟨[.type "tuple",.ref r],[]⟩;again (.builtin "tuple.__new__" ⟨[.type "tuple",.ref r],[]⟩)) _ _ s
 refine aw (wpAny_of_eq (F.newCall_tuple_1 _) (aJ ⟨plainId_quiet F.plain_tuple_new _,ft F.entry_tuple_new ?_⟩))
 rw [bt.under_plainId F.plain_tuple_new _]
 have hsub:=sub_tuple_self
 have hinit:=init_tuple_lookup
 have hmh:=madeHere_tuple
 have hTI:s.TypeIs (.ref r) "range":=⟨_,hr,rfl⟩
 have hlen':n<=2 ^ 24:=bf hlen (by decide)
 wp_walk using iz hTI,ZV (A:=A.in1) (show A.in1.handled=none from hh) hr hsmall hn hlen'
 intro h' tk acc hm hacc
 show aL _ _ (bU acc.toList.toArray >>= fun v=>ret v) _ _ _
 unfold bU
 refine aw (bO ?_ (by show acc.toList.toArray.size<=aT;simp only [Array.toArray_toList];rw [hacc.1,dq];exact bf hlen (by decide)))
 refine aJ ?_
 have e:acc.toList.toArray=acc:=by simp
 rw [e]
 exact h h' tk acc hm hacc
theorem vi {Q:aq->ax->Prop} (hh:A.handled=none)(hr:IsRange s.heap r a b c t u v)(hsmall:cy a b c=true)
  (hn:bR a b c=n) (hlen:n<=100000)
  (hQ:∀ (h':Heap) (tk:Nat) (acc:Array aq),(∀ b o,s.heap.get? b=some o->h'.get? b=some o)->nU (fun i v=>∃ t,v=.int (a+i * c) t) acc n->Q (.ref h'.objs.size) { s with heap:=h'.push { cls:=.type "tuple",data:=.seq acc },toks:=tk }) :
  aL (aN prog w) A (call (.type "tuple") [.ref r]) Q E s:=by
 refine callType_codes (Q₁:=fun obj s₁=>s₁.TypeIs obj "tuple"/\Q obj s₁) F.called_tuple (F.typeCall_tuple_1 _) F.entry_object_init
  (vp hh hr hsmall hn hlen fun h' tk acc hm hacc=>⟨⟨_,aS _ rfl,rfl⟩,hQ h' tk acc hm hacc⟩) fun obj s₁ h₁=>?_
 exact ⟨h₁.1,F.args_object_init_2 obj _,object_init_meets F.called_tuple.init.lookup F.called_tuple.made (by decide) prog w A.in1 _ s₁ ⟨h₁.1,rfl,h₁.2⟩⟩
end
section
variable {X:Cx}
theorem xG (hc:X.calm=true):ju X (.type "tuple") (fun xs H Q=>∃ p a b c n,xs=[.ref p]/\H p=some (wH p a b c)/\cy a b c=true/\bR a b c=((n:Nat):Int)/\n<=100000/\∀ l,H l=none->Q (.ref l) (upd H l (.tup ((zA a c n).map V.int)))):=by
 intro pins s σ H xs us Q I r h
 obtain ⟨p,a,b,c,n,rfl,hp,hs,hn,hz,q⟩:=h
 obtain ⟨u,rfl,rx⟩:=ki r
 cases rx
 obtain ⟨⟨t,u,v,e⟩,_⟩:=(show zV X.prog X.w H s.heap p (wH p a b c) from I.hok _ _ hp)
 refine vi (I.ok.hd hc) e hs hn hz fun h' tk acc hk hi=>?_
 have I1:Inv X pins σ H { s with heap:=h',toks:=tk }:=I.kept (t':=tk) hk
 refine ⟨.ref h'.objs.size,_,I1.laid (t':=tk) (fun b o e=>aD _ e) (aF _) (show zV X.prog X.w _ _ _ (.tup ((zA a c n).map V.int)) from ⟨?_,acc.toList,wK hi,by simpa using wt.new h' acc⟩),rfl,q _ (I1.hok.fresh (aF _))⟩
 rw [am,zD]
 exact bf hz (by decide)
end
noncomputable def HR:List AV->MH->AK->Prop:=fun xs M Q=>∃ a b c n,xs=[.d (.rng a b c)]/\cy a b c=true/\bR a b c=((n:Nat):Int)/\n<=100000/\Q (.d (.tup ((zA a c n).map .int))) M
theorem DO:Q2 (fun xs H Q=>∃ p a b c n,xs=[.ref p]/\H p=some (wH p a b c)/\cy a b c=true/\bR a b c=((n:Nat):Int)/\n<=100000/\∀ l,H l=none->Q (.ref l) (upd H l (.tup ((zA a c n).map V.int)))) HR:=⟨fun {vs xs H O M Q Q'} w r ⟨a,b,c,n,e,h1,h2,h3,q⟩ k=>by
  subst e
  obtain ⟨v,rfl,rv⟩:=jk r
  cases (show Rep H O v (.rng a b c) from rv) with
  | rng o h => exact ⟨_, a, b, c, n, rfl, h, h1, h2, h3, fun l hl => k _ _ _ _ _ q (qj w hl _) (jS w hl _) (Rep.tup (w.fresh hl).1 zi (by simp) fun i x d e1 e2 => by
      rw [aE] at e1 e2
      cases ei:(zA a c n)[i]? with
      | none=>rw [ei] at e1;cases e1
      | some j=>rw [ei] at e1 e2;cases e1;cases e2;exact .int)⟩⟩
end L2
namespace Ot
open PySem PySem.Spec PyProof.Rows L2
noncomputable def top (i:Nat):cJ:=PySem.Challenge.pw_ownturn_k68_whole_rooms_by_any_plan.main.body.getD i (.Pass ⟨0,0,0,0⟩)
section
variable {P:ba}{w:bE}{K:az}{mg:Str->Option aq}{base:Heap}{k:Nat}
local macro_rules | `(tactic| walk_at "rd")=>do
 let t:=("BL Wk Hl YI tOp tUn rU ZC tC tB FX MG Yy rI0 rI JK Kr GE VA D8 Aj Fo Ni ND tCB KY Wu HJ KR HV Xo Nw Hj rEq rNe Nn Wr tBM wc wo LQ Ws NA N4 Nl Ha Qe VC NK Gg EU Ec ipI Yt V1 We tIf tOr Nz Lq L8 A1 NT Eu Jh D5 cxK B9 IB iLT HY Q4 tSl EI JF G2 List.append_nil List.getElem?_cons_zero List.getElem?_cons_succ Option.some.injEq exists_eq_left' exists_eq_left V.int.injEq V.ref.injEq V.bl.injEq List.cons.injEq and_true true_and and_assoc decide_eq_true_eq Bool.not_eq_true' decide_eq_false_iff_not Bool.false_eq_true if_false if_true reduceIte exists_and_left exists_and_right List.set_cons_zero List.set_cons_succ List.nil_append List.cons_append".splitOn " ").toArray.map fun s=>(iA s.toName:Lean.Ident)
 `(tactic| try simp only [$[$t:ident],*])
variable {H:Hp} {a b:ay}
theorem xJ {o:HO}(h':H b=none)(h:H a=some o):a ≠ b:=zm h h'
variable {H':Hp}
theorem JO {l:ay}(h:H' l=none)(e:Kp [] H H'):H l=none:=e.free h
variable {xs:List V}
theorem X6 (h:SqL K H a xs)(e:Kp [] H H'):SqL K H' a xs:=by
 rcases h with (h | ⟨o,h⟩) | h
 ·exact .inl (.inl (e _ _ (by simp) h))
 ·exact .inl (.inr ⟨o,e _ _ (by simp) h⟩)
 ·exact .inr h
theorem hsl:100000<aT:=by rw [dq];decide
theorem DJ {α:Type}(k:Nat)(v:α):(aG k [v]).flatten=aG k v:=by simp
variable {j:Int}
theorem kJ (i:Int) (h:0<j):0<=i % j/\i % j<j:=⟨Int.emod_nonneg _ (by omega),Int.emod_lt_of_pos _ h⟩
variable {i:Int}
theorem NG (h1:0<=i)(h2:i<18446744073709551616):Ed i j:=.inl ⟨by omega,by omega⟩
theorem D7 (h1:0<=j)(h2:j<18446744073709551616):Ed i j:=.inr ⟨by omega,by omega⟩
theorem b01 (c:Prop)[Decidable c]:0<=(if c then (1:Int) else 0):=by split <;> decide
theorem Hc (h1:0<j)(h2:j<1073741824):Lk i j:=⟨h1,h2⟩
local macro_rules | `(tactic| walk_at "ne")=>`(tactic| first | (with_reducible assumption) | exact Ne.symm (by with_reducible assumption) | exact xJ (by with_reducible assumption) (by walk_at "hp") | exact Ne.symm (xJ (by with_reducible assumption) (by walk_at "hp")))
local macro_rules | `(tactic| walk_at "hp")=>`(tactic| first | (with_reducible assumption) | (with_reducible exact zi) | ((with_reducible refine Eq.trans (zh ?ne) ?_);(case ne=>walk_at "ne");walk_at "hp"))
local macro_rules | `(tactic| walk_at "kp")=>`(tactic| first | (with_reducible assumption) | (with_reducible exact Kp.refl) | ((with_reducible refine Kp.trans ?_ (Kp.new _ ?h));(case h=>with_reducible assumption);walk_at "kp") | ((with_reducible refine Kp.trans ?_ (Kp.set _ ?h));(case h=>(simp;done));walk_at "kp"))
local macro_rules | `(tactic| walk_at "fr")=>`(tactic| first | (with_reducible assumption) | exact JO (by with_reducible assumption) (by walk_at "kp"))
local macro_rules | `(tactic| walk_at "sz")=>`(tactic| (simp only [aK,fk,am,bg,bM,bZ,b8,zD,DJ,lZ,Nat.one_mul];omega))
local macro_rules | `(tactic| walk_at "fact")=>`(tactic| first | (with_reducible assumption) | exact rfl | exact SqL.of (by walk_at "hp") | exact SqT.of (by walk_at "hp") | exact bq (SqL.of (by walk_at "hp")) | exact bu (SqT.of (by walk_at "hp")) | exact bq (by with_reducible assumption) | exact X6 (by with_reducible assumption) (by walk_at "kp") | exact bq (X6 (by with_reducible assumption) (by walk_at "kp")) | exact Exists.intro _ (SqL.of (by walk_at "hp")) | exact Exists.intro _ (X6 (by with_reducible assumption) (by walk_at "kp")) | (walk_at "hp") | decide | omega | exact NG (by omega) (by omega) | exact D7 (by omega) (by omega) | exact Hc (by omega) (by omega) | exact ⟨by omega,by omega⟩ | (walk_at "sz") | exact ⟨by decide,by decide,by decide⟩ | exact D7 (b01 _) (b01' _) | (walk_at "fr"))
local macro_rules | `(tactic| walk_at "x1")=>`(tactic| first
 | ((with_reducible refine Exists.intro ?w (And.intro ?h ?_));(case h=>walk_at "fact"))
 | ((with_reducible refine And.intro ?h ?_);(case h=>walk_at "fact"))
 | ((with_reducible refine Exists.intro ?w (Exists.intro ?w2 (And.intro ?h ?_)));(case h=>walk_at "fact")))
local macro_rules | `(tactic| walk_at "xs")=>`(tactic| repeat walk_at "x1")
local macro_rules | `(tactic| walk_at "sim1")=>do
 let a←("An WN".splitOn " ").toArray.mapM fun s=>`(fu| apply $(iA s.toName))
 let b←("B5 EJ Fg DN JS XJ Av WK E3 Hs Fb BM EO FQ Vk X7".splitOn " ").toArray.mapM fun s=>`(fu| apply $(iA s.toName))
 let c←("DD HH IK Ng LV MJ LM Hg DC W5 DT Hk AH GT L9 Gf Dt Bl Gv FI Hh D1 Me Hw DH F0 Nc Au DO G8 Ej Hb Dn XW Yg Gr Wx X3 Bt Ko Wp yL Z1 AW Ya Ke.cons Ke.nil Fx Es G7 FL Gz FW DG GI GQ B7 DF D6 WS E4 BK OL Hd IM GG Nb Hq Ld BW Gu ML WF AB Fy D0 GR Ht IZ HC MK Zn Qy BG Vi F6 Ek Jl WP F3 BB BR LX Yc Al Lp Yq As WW wl".splitOn " ").toArray.mapM fun s=>`(fu| apply $(iA s.toName))
 `(tactic| first | (with_reducible first $[| $a]*) | ((with_reducible apply Wt Vk);intro HX_ OX_ MX_ E_ EA_ hE_) | (with_reducible first $[| $b]*) | ((with_reducible apply sim_try);intro HX_ OX_ MX_ E_ EA_ hE_) | ((with_reducible apply sim_try0);intro HX_ OX_ MX_ E_ EA_ hE_) | (with_reducible assumption) | (with_reducible first $[| $c]*))
local macro_rules | `(tactic| walk_at "sim")=>`(tactic| repeat' walk_at "sim1")
local macro_rules | `(tactic| walk_at "ra")=>do
 let t:=("HR HW YK HU YJ Iq Ib IG OY EQ HL yz YZ HM HN jD QX yf aC aOp aUn JY yG aCB Y9 aFz aOw Mg IX aB KQ FM aOr OK Ij OS aIf Ds xp yX Vv Mo wL yo Io A4 IA HZ asL G4 Ol Ii HS IU aiS N2 aiE yS Yv Vh aI aI0 aU Dx aIx fOp Oa NF N3 Iu fSl ON N8 Oh Bb Lj bI2 Fp fCB HI wI OQ HQ Bs OG Ia BZ aBM OZ YR VN OJ B8 FU yr Ba Ma kO Bk N7 Oq OI Oe Og OM D9 V3 Option.map_some Nr LD Mr Nm NW IV NH Le IN MZ Ms MF Mt Lv L7 Ln Mc Ll Nd Mx Nx NV Mm Nj NL NM LP Lr Mf NX Lz MQ L6 NI Ml LH FA Wn zM jw Gy KO Ig NR LF Lg G5 FG GB Gd G0 Gi Ga Jw Ow zY Lc Li Bv vE NB AU LZ Lo Mz Lh Nk id decide_true decide_false Bool.decide_eq_true not_true_eq_false not_false_eq_true kN List.getElem?_cons_zero List.getElem?_cons_succ Option.some.injEq exists_eq_left' exists_eq_left AV.d.injEq AV.ref.injEq Dat.int.injEq Dat.bl.injEq Dat.str.injEq Dat.lst.injEq Dat.tup.injEq Dat.ty.injEq List.cons.injEq and_true true_and and_assoc decide_eq_true_eq Bool.not_eq_true' decide_eq_false_iff_not Bool.false_eq_true if_false if_true reduceIte exists_and_left exists_and_right List.set_cons_zero List.set_cons_succ List.nil_append List.cons_append List.length_map List.map_cons List.map_nil Nat.zero_le Bool.not_true Bool.not_false Bool.true_eq_false eq_self List.length_cons List.length_nil".splitOn " ").toArray.map fun s=>(iA s.toName:Lean.Ident)
 `(tactic| try simp only [$[$t:ident],*])
local macro_rules | `(tactic| walk_at "sk")=>`(tactic| (refine zk fun r9 hr9=>?_;walk_at "ra";refine ⟨_,rfl,_,rfl,by rw [zY];omega,?_⟩;rw [vE,if_neg (by decide +kernel)];subst hr9))
theorem JZ (ns:List Int)(lo hi:Option Int):ZP (ns.map V.int) lo hi=bS V.int ((ns.drop (HT.sIx ns.length 0 lo)).take (HT.sIx ns.length ns.length hi - HT.sIx ns.length 0 lo)):=by
 unfold ZP
 rw [am,<- fA,<- nu]
theorem JJ (cs:List Int)(j:Nat)(v:Int):(cs.map V.int).set j (.int v)=(cs.set j v).map V.int:=by rw [eR]
variable {cs:List Int}
theorem j5 {k:Int}(h0:0<=k)(h1:k<cs.length):ixN (cs.map V.int).length k=some k.toNat/\atI (cs.map V.int) k=some (.int (cs.getD k.toNat 0)):=by
 have hk:k.toNat<cs.length:=by omega
 have e1:ixN (cs.map V.int).length k=some k.toNat:=by unfold ixN;rw [am,if_pos h0,if_pos h1]
 refine ⟨e1,?_⟩
 unfold atI
 rw [e1]
 show (cs.map V.int)[k.toNat]?=_
 rw [aE,af,aj hk];rfl
theorem yW {ns:List Int}{i:Nat}{x:V}(h:(ns.map V.int)[i]?=some x):x=.int (ns.getD i 0)/\i<ns.length:=by
 rw [aE] at h
 cases e:ns[i]? with
 | none=>rw [e] at h;cases h
 | some v=>
  rw [e] at h
  cases h
  exact ⟨by rw [af,e];rfl,(aA.mp e).1⟩
variable {p:ay}
theorem Kp.un {bs:List ay} (h:Kp (p :: bs) H H')(hp:H p=none):Kp bs H H':=fun c o n e=>h c o (by
 intro z
 rcases aO.mp z with z | z
 ·subst z;rw [hp] at e;cases e
 ·exact n z) e
theorem KW (h:SqL K H a xs \/ SqT K H a xs)(e:Kp [] H H'):SqL K H' a xs \/ SqT K H' a xs:=h.imp (fun z=>IY z e) (fun z=>MW z e)
noncomputable def rfs (rs:List (ay × List Int)):List V:=rs.map fun r=>V.ref r.1
noncomputable abbrev Xy:cJ:=top 31
theorem VP:zn ["_law_box_here","_law_many","_law_once","_law_found"] ["_law_box_here","_law_many"] (zd Xy):=⟨rfl,rfl,rfl,by decide +kernel,rfl,by decide +kernel,by decide +kernel⟩
noncomputable def XX:Sp:=fun vs H Q _=>∃ (b:ay) (many:Int) (N:Nat),vs=[.ref b,.int many]/\Bx H b N/\N<1000000000/\0<many/\many<1073741824/\∀ r H',Kp [b] H H'->Bx H' b (N+1)->0<=r->r<many->Q (.int r) H'
theorem Hn (a:At K mg "_law_take" Xy)(B:Blt mg):Df P w K mg base "_law_take" ["_law_box_here","_law_many"] 1 XX:=by
 refine vU (k:=0) a VP (fun _ _ _ _ _ _=>Pn2_ fun _ _=>rfl) (fun vs H Q E h=>?_) (fun f cdv A outer s H vs Q E hr h=>?_)
 ·obtain ⟨b,m,N,rfl,_⟩:=h;rfl
 obtain ⟨b,m,N,rfl,⟨x,y,z,hb,hx,hy,hy',hz,hz'⟩,hN,hm,hm',q⟩:=h
 have sc:=VP
 refine ⟨_,(zc (zS (zq QD (zv qC (pv 0) zg (fun _ _=>rfl)) zg (zt _)) (zc (qE (zu J9 rfl B.divmod Am (za (zv qC (pv 0) zg (fun _ _=>rfl)) (za (pv 1) zb))) (jg (K:=K) 2 rfl rfl (zK (qM (pv 0) zg zL) (zK (zw (i:=3) sc.nd rfl (by first | exact bq rfl | exact bu rfl)) jf))))
  (zf (zy (pv 3)))) zx)
  (zc (qE (zO qW (zv qC (pv 0) zg (fun _ _=>rfl)) zg) (qM (pv 0) zg zL))
  (zc (zB (i:=2) sc.nd rfl (by first | exact bq rfl | exact bu rfl) (zO ka (zO kQ (zO qW (zv qC (pv 0) zg (fun _ _=>rfl)) (zO kQ zg (zv qC (pv 0) zg (fun _ _=>rfl)))) (zO qW zg (zv qC (pv 0) zg (fun _ _=>rfl)))) zg))
  (zc (qE (zO ka (zO qW (zO kQ (pv 2) (zO qW (zO ka (pv 2) zg) zg)) (zv qC (pv 0) zg (fun _ _=>rfl))) zg) (qM (pv 0) zg zL))
  (zf (zy (zO ka (zO YB (zO ka (zO kQ (zv qC (pv 0) zg (fun _ _=>rfl)) (zO qW (zO ka (zv qC (pv 0) zg (fun _ _=>rfl)) zg) zg)) zg) zg) (pv 1)))))))),?_⟩
 rw [show qB ["_law_box_here","_law_many","_law_once","_law_found"] [V.ref b,V.int m]=[some (.ref b),some (.int m),none,none] from rfl]
 walk_at "rd"
 walk_at "xs"
 refine EX (fun c=>?_) (fun c=>?_)
 ·walk_at "xs"
  refine fun p hp=>?_
  walk_at "xs"
  refine q _ _ ((Kp.new _ hp).trans (Kp.set _ (by simp))) ⟨_,_,_,zi,Int.ediv_nonneg hx (by omega),hy,hy',hz,by omega⟩ (kJ x hm).1 (kJ x hm).2
 ·walk_at "xs"
  refine q _ _ ((Kp.set _ (by simp)).trans (Kp.set _ (by simp))) ⟨_,_,_,zi,hx,?_,?_,?_,?_⟩ (kJ _ hm).1 (kJ _ hm).2
  ·exact (kJ _ (by decide)).1
  ·exact Int.lt_trans (kJ _ (by decide)).2 (by decide)
  ·omega
  ·omega
noncomputable abbrev Bw:cJ:=top 30
theorem Bz:zn ["_law_script","_law_k","_law_cell"] ["_law_script","_law_k"] (zd Bw):=⟨rfl,rfl,rfl,by decide +kernel,rfl,by decide +kernel,by decide +kernel⟩
noncomputable def Ir:Sp:=fun vs H Q _=>∃ (a:ay) (k:Int) (cs:List Int),vs=[.ref a,.int k]/\H a=some (il cs)/\0<=k/\k<=1000/\cs.length<=1000/\∀ p H',Kp [] H H'->H p=none->Bx H' p 0->Q (.ref p) H'
theorem He {k:Int}(h0:0<=k):∃ c:Int,atI (cs.map V.int ++ aG (k+1).toNat (V.int 0)) k=some (.int c):=by
 have e:cs.map V.int ++ aG (k+1).toNat (V.int 0)=(cs ++ aG (k+1).toNat 0).map V.int:=by simp
 have ek:k=((k.toNat:Nat):Int):=by omega
 have hk:k.toNat<(cs ++ aG (k+1).toNat (0:Int)).length:=by rw [bg,bM];omega
 refine ⟨(cs ++ aG (k+1).toNat 0)[k.toNat],?_⟩
 rw [e]
 have q:atI ((cs ++ aG (k+1).toNat (0:Int)).map V.int) ((k.toNat:Nat):Int)=some (.int (cs ++ aG (k+1).toNat 0)[k.toNat]):=Gk (by rw [aE,aj hk] <;> rfl)
 rw [<- ek] at q
 exact q
theorem NE (a:At K mg "_law_box" Bw)(B:Blt mg):Df P w K mg base "_law_box" ["_law_script","_law_k"] 1 Ir:=by
 refine vU (k:=0) a Bz (fun _ _ _ _ _ _=>Pn2_ fun _ _=>rfl) (fun vs H Q E h=>?_) (fun f cdv A outer s H vs Q E hr h=>?_)
 ·obtain ⟨a,k,cs,rfl,_⟩:=h;rfl
 obtain ⟨a,k,cs,rfl,ha,hk,hk',hcs,q⟩:=h
 have sc:=Bz
 have hsl:=hsl
 refine ⟨_,(zc (zB (i:=2) sc.nd rfl (by first | exact bq rfl | exact bu rfl) (zv qC (zO BN (pv 0) (zO Zi (qA (za zg zb)) (zO qW (pv 1) zg))) (pv 1) (fun _ _=>rfl)))
  (zf (zy (qA (za (zO kQ (zu Xh rfl B.abs DY (za (pv 2) zb)) (zR Z4 rfl B.int XO (za (jZ Ou (zu Xh rfl B.abs DY (za (pv 2) zb)) (zO Nh zg zg) (zt _)) zb))) (za (zO ka (zO kQ (zO qW (zO qW (zO ka (pv 2) zg) (zO kQ zg (pv 1))) zg) zg) zg) (za zg zb))))))),?_⟩
 rw [show qB ["_law_script","_law_k","_law_cell"] [V.ref a,V.int k]=[some (.ref a),some (.int k),none] from rfl]
 walk_at "rd"
 walk_at "xs"
 intro p1 hp1
 walk_at "xs"
 intro p2 hp2
 walk_at "xs"
 intro p3 hp3
 simp only [DJ] at hp3 ⊢
 obtain ⟨c,hc⟩:=He (cs:=cs) hk
 walk_at "xs"
 intro p4 hp4
 refine q _ _ (by walk_at "kp") (by walk_at "fr") ⟨_,_,_,zi,?_,?_,?_,?_,?_⟩
 ·exact Int.mul_nonneg (by split <;> omega) (b01 _)
 ·exact (kJ _ (by decide)).1
 ·exact Int.lt_trans (kJ _ (by decide)).2 (by decide)
 ·decide
 ·decide
noncomputable abbrev wx:cJ:=top 32
theorem Qx:zn ["_law_script","_law_many","_law_cells","_law_k","_law_cell"] ["_law_script","_law_many"] (zd wx):=⟨rfl,rfl,rfl,by decide +kernel,rfl,by decide +kernel,by decide +kernel⟩
noncomputable def K8 (K:az):Sp:=fun vs H Q _=>∃ (a:ay) (m:Int) (ns:List Int),vs=[.ref a,.int m]/\SqL K H a (ns.map V.int)/\0<m/\m<=60/\ns.length<=63/\∀ p H' cs,Kp [] H H'->H p=none->H' p=some (il cs)->cs.length<=1000->Q (.ref p) H'
theorem W8 (a:At K mg "_law_folded" wx)(B:Blt mg):Df P w K mg base "_law_folded" ["_law_script","_law_many"] 1 (K8 K):=by
 refine vU (k:=0) a Qx (fun _ _ _ _ _ _=>Pn2_ fun _ _=>rfl) (fun vs H Q E h=>?_) (fun f cdv A outer s H vs Q E hr h=>?_)
 ·obtain ⟨a,k,cs,rfl,_⟩:=h;rfl
 obtain ⟨a,m,ns,rfl,ha,hm,hm',hns,q⟩:=h
 obtain ⟨M,rfl⟩:∃ M:Nat,m=M:=⟨m.toNat,by omega⟩
 have sc:=Qx
 have hsl:=hsl
 refine ⟨_,(zc (zB (i:=2) sc.nd rfl (by first | exact bq rfl | exact bu rfl) (zR jK rfl B.list kF (za (jl xO (pv 0) jh (qP (pv 1))) zb)))
  (zc (qZ cc rfl (GS rfl B.enumerate (za (jl xO (pv 0) (qP (pv 1)) (qP zg)) zb)) (jg (K:=K) 2 rfl rfl (zK (zw (i:=3) sc.nd rfl (by first | exact bq rfl | exact bu rfl)) (zK (zw (i:=4) sc.nd rfl (by first | exact bq rfl | exact bu rfl)) jf))) (zf (qE (zO qW (zv qC (pv 2) (zO ka (pv 3) (pv 1)) (fun _ _=>rfl)) (zO kQ (pv 4) (zO qW (pv 3) zg))) (qM (pv 2) (zO ka (pv 3) (pv 1)) zL))))
  (zf (zy (pv 2))))),?_⟩
 rw [show qB ["_law_script","_law_many","_law_cells","_law_k","_law_cell"] [V.ref a,V.int M]=[some (.ref a),some (.int M),none,none,none] from rfl]
 walk_at "rd"
 walk_at "xs"
 intro p1 hp1
 rw [JZ]
 walk_at "xs"
 intro p2 hp2
 walk_at "xs"
 intro p3 hp3
 rw [JZ]
 have e63:(63:Int)=((63:Nat):Int):=rfl
 simp only [HT.sIx_none,HT.sIx_nat,e63,List.drop_zero,Nat.sub_zero] at hp2 hp3 ⊢
 walk_at "xs"
 generalize hc0:ns.take (min M ns.length)=c0 at hp2 hp3 ⊢
 generalize hd0:(ns.drop (min M ns.length)).take (min 63 ns.length - min M ns.length)=d0 at hp2 hp3 ⊢
 have lc:c0.length=min M ns.length:=by rw [<- hc0,bZ];omega
 have ld:d0.length<=ns.length - M:=by rw [<- hd0,bZ,b8];omega
 have n23:p2 ≠ p3:=by walk_at "ne"
 refine GH (xs:=d0.map V.int) (fun i τ H'=>∃ u v cs,τ=[some (.ref a),some (.int M),some (.ref p2),u,v]/\Kp [p2] (upd (upd (upd H p1 (HO.lst (bS V.int c0))) p2 (HO.lst (bS V.int c0))) p3 (HO.lst (bS V.int d0))) H'/\H' p2=some (il cs)/\cs.length=c0.length) ?_ ?_ ?_ ?_
 ·exact ⟨none,none,c0,rfl,Kp.refl,by walk_at "hp",rfl⟩
 ·rintro i τ H' _ ⟨u,v,cs,rfl,kp,_⟩
  exact SqL.of (kp _ _ (by simp [Ne.symm n23]) (by walk_at "hp"))
 ·rintro i x pp τ H' hx hpp ⟨u,v,cs,rfl,kp,hcs,hl⟩
  obtain ⟨rfl,hi⟩:=yW hx
  have b1:=kJ (i:Int) hm
  obtain ⟨g1,g2⟩:=j5 (cs:=cs) (k:=(i:Int) % (M:Int)) b1.1 (by omega)
  have hcs':upd H' pp (HO.tup [V.int i,V.int (d0.getD i 0)]) p2=some (il cs):=by walk_at "hp"
  walk_at "rd"
  walk_at "xs"
  refine ⟨(kp.trans (Kp.new _ hpp)).trans (Kp.set _ (by simp)),_,zi.trans (congrArg some (congrArg HO.lst (JJ _ _ _))),by rw [bp];exact hl⟩
 ·rintro τ H' ⟨u,v,cs,rfl,kp,hcs,hl⟩
  walk_at "rd"
  refine q _ _ cs (fun c o hc hh=>kp c o ?_ ((((Kp.new _ hp1).trans (Kp.new _ hp2)).trans (Kp.new _ hp3)) c o hc hh)) (by walk_at "fr") hcs (by omega)
  have:c ≠ p2:=xJ (JO hp2 (Kp.new _ hp1)) hh
  simpa using this
noncomputable abbrev J8:List Int:=[0,1,2,3,4,5,6,7,4,5,6,7]
noncomputable abbrev Zd:cJ:=top 33
theorem Qg:zn ["_law_box_here","_law_most","_law_few"] ["_law_box_here","_law_most"] (zd Zd):=⟨rfl,rfl,rfl,by decide +kernel,rfl,by decide +kernel,by decide +kernel⟩
noncomputable def Kw:Sp:=fun vs H Q _=>∃ (b:ay) (m:Int) (N:Nat),vs=[.ref b,.int m]/\Bx H b N/\N<100000000/\24<=m/\m<=1000/\∀ r H',Kp [b] H H'->Bx H' b (N+10)->0<=r->r<=m->Q (.int r) H'
theorem Ak (a:At K mg "_law_length" Zd)(B:Blt mg)(D_law_take:Df P w K mg base "_law_take" ["_law_box_here","_law_many"] 1 XX):Df P w K mg base "_law_length" ["_law_box_here","_law_most"] 2 Kw:=by
 refine vU (k:=1) a Qg (fun _ _ _ _ _ _=>Pn2_ fun _ _=>rfl) (fun vs H Q E h=>?_) (fun f cdv A outer s H vs Q E hr h=>?_)
 ·obtain ⟨a,k,cs,rfl,_⟩:=h;rfl
 obtain ⟨b,m,N,rfl,hb,hN,hm,hm',q⟩:=h
 have sc:=Qg
 have hsl:=hsl
 refine' ⟨_,zc (zS (zq IH (zU D_law_take hr rfl (za (pv 0) (za zg zb))) zg (zt _)) (zf (zy (zO ZL (pv 1) (zU D_law_take hr rfl (za (pv 0) (za (zu (Qm rfl) rfl B.max DP (za zg (za (zO YB (pv 1) zg) zb))) zb)))))) zx) (zc _ _),?_⟩
 rotate_left 2
 ·refine' zB (i:=2) _ _ _ _ _ _
  rotate_left 1
  ·exact sc.nd
  ·rfl
  ·first | exact bq rfl | exact bu rfl
  ·refine' zv _ _ _ _
   rotate_left 3
   ·exact qC
   ·refine' qA _
    rotate_left 1
    refine' VX (is:=[0,1,2,3,4,5,6,7,4,5,6,7]) _
    rfl
   ·exact (zU D_law_take hr rfl (za (pv 0) (za zg zb)))
   ·exact (fun _ _=>rfl)
  ·rfl
  ·first | exact .inl rfl | exact .inr rfl | assumption
 ·refine' zf _
  rotate_left 1
  refine' zy _
  rotate_left 1
  refine' zv _ _ _ _
  rotate_left 3
  ·exact qC
  ·refine' qA _
   rotate_left 1
   refine' za _ _ _
   rotate_left 2
   ·exact pv 2
   ·exact (za (zO qW zg (zU D_law_take hr rfl (za (pv 0) (za zg zb)))) zb)
   ·rfl
  ·exact (zR Z4 rfl B.int XO (za (jZ IH (zU D_law_take hr rfl (za (pv 0) (za zg zb))) zg (zt _)) zb))
  ·exact (fun _ _=>rfl)
 rw [show qB ["_law_box_here","_law_most","_law_few"] [V.ref b,V.int m]=[some (.ref b),some (.int m),none] from rfl]
 walk_at "rd"
 refine ⟨b,16,N,rfl,hb,by omega,by decide,by decide,fun r1 H1 k1 b1 l1 u1=>⟨rfl,?_⟩⟩
 walk_at "rd"
 refine EX (fun c=>?_) (fun c=>?_)
 ·walk_at "xs"
  refine ⟨b,_,_,rfl,b1,by omega,by split <;> omega,by split <;> omega,fun r2 H2 k2 b2 l2 u2=>⟨_,rfl,?_⟩⟩
  refine q _ _ (k1.trans k2) (b2.mono (by omega)) ?_ ?_
  ·split at u2 <;> omega
  ·omega
 ·walk_at "xs"
  intro p1 hp1
  refine ⟨b,12,_,rfl,b1.new hp1,by omega,by decide,by decide,fun r2 H2 k2 b2 l2 u2=>?_⟩
  have hne:p1 ≠ b:=by obtain ⟨_,_,_,h,_⟩:=b1;exact Ne.symm (zm h hp1)
  have h2:=k2 p1 _ (by simpa using hne) zi
  obtain ⟨e1,e2⟩:=j5 (cs:=J8) (k:=r2) l2 (by simpa using u2)
  refine ⟨_,_,rfl,SqL.of h2,_,e2,b,17,_,rfl,b2,by omega,by decide,by decide,fun r3 H3 k3 b3 l3 u3=>?_⟩
  have hv:0<=J8.getD r2.toNat 0/\J8.getD r2.toNat 0<=(24:Int):=by
   have:∀ j:Nat,0<=J8.getD j 0/\J8.getD j 0<=(24:Int):=by
    intro j
    by_cases hj:j<12
    ·have hd:∀ j:Nat,j<12->0<=J8.getD j 0/\J8.getD j 0<=(24:Int):=by decide
     exact hd j hj
    ·have e:J8.getD j (0:Int)=0:=by rw [af,bN (by simpa using hj)];rfl
     rw [e];decide
   exact this _
  refine ⟨_,rfl,by show 2<=aT;decide,fun p2 hp2=>?_⟩
  refine ⟨b,6,_,rfl,b3.new hp2,by omega,by decide,by decide,fun r4 H4 k4 b4 l4 u4=>⟨rfl,?_⟩⟩
  have hne2:p2 ≠ b:=by obtain ⟨_,_,_,h,_⟩:=b3;exact Ne.symm (zm h hp2)
  have h4:=k4 p2 _ (by simpa using hne2) zi
  have fin:∀ r,0<=r->r<=24->Q (.int r) H4:=fun r g1 g2=>by
   refine q r H4 ?_ (b4.mono (by omega)) g1 (by omega)
   exact (((k1.trans (Kp.new _ hp1)).trans k2).trans k3).trans ((Kp.new _ hp2).trans k4)
  by_cases c4:r4=0
  ·subst c4
   exact ⟨_,SqL.of h4,_,rfl,fin _ (by omega) (by omega)⟩
  ·rw [if_neg (fun z=>c4 (V.int.inj z))]
   exact ⟨_,SqL.of h4,_,rfl,fin _ hv.1 hv.2⟩
noncomputable def cE:Option Int->V
 | none=>.non
 | some x=>.int x
inductive De where
 | swap (a b:Nat) | take (p:Nat) | move (p g:Nat) | lay (g:Nat)
noncomputable abbrev NZ:V:=.str (au "swap")
noncomputable abbrev Ov:V:=.str (au "take")
noncomputable abbrev OW:V:=.str (au "move")
noncomputable abbrev Pb:V:=.str (au "lay")
noncomputable def deV:De->List V
 | .swap a b=>[NZ,.int (a:Int),.int (b:Int)]
 | .take p=>[Ov,.int (p:Int)]
 | .move p g=>[OW,.int (p:Int),.int (g:Int)]
 | .lay g=>[Pb,.int (g:Int)]
abbrev ES:=List (Option Int) × Option Int
inductive DoE:De->ES->ES->Prop
 | swap {a b:Nat} {row:List (Option Int)} {h:Option Int} {x y:Int}:a ≠ b->row[a]?=some (some x)->row[b]?=some (some y)->DoE (.swap a b) (row,h) ((row.set a (some y)).set b (some x),h)
 | take {p:Nat} {row:List (Option Int)} {x:Int}:row[p]?=some (some x)->DoE (.take p) (row,none) (row.set p none,some x)
 | move {p g:Nat} {row:List (Option Int)} {h:Option Int} {x:Int}:row[p]?=some (some x)->row[g]?=some none->DoE (.move p g) (row,h) ((row.set p none).set g (some x),h)
 | lay {g:Nat} {row:List (Option Int)} {x:Int}:row[g]?=some none->DoE (.lay g) (row,some x) (row.set g (some x),none)
inductive qu:List De->ES->ES->Prop
 | nil {s:ES}:qu [] s s
 | cons {d:De} {l:List De} {s t u:ES}:DoE d s t->qu l t u->qu (d :: l) s u
theorem qu.append {a b:List De}{s t u:ES}(h1:qu a s t)(h2:qu b t u):qu (a ++ b) s u:=by
 induction h1 with
 | nil=>exact h2
 | cons d _ ih=>exact .cons d (ih h2)
variable {d:De} {s t:ES}
theorem qu.one (h:DoE d s t):qu [d] s t:=.cons h .nil
theorem DoE.len (h:DoE d s t):t.1.length=s.1.length:=by
 cases h <;> simp
noncomputable def De.back:De->De
 | .swap a b=>.swap a b
 | .take p=>.lay p
 | .move p g=>.move g p
 | .lay g=>.take g
variable {row:List (Option Int)} {v:Option Int}
theorem Yz {p:Nat} (h:row[p]?=some v)(w:Option Int):(row.set p w).set p v=row:=by
 rw [List.set_set]
 refine dF fun i=>?_
 rw [bj]
 by_cases e:p=i
 ·subst e
  rw [if_pos rfl,if_pos (aA.mp h).1,h]
 ·rw [if_neg e]
theorem DoE.back {d:De}{s t:ES}(h:DoE d s t):DoE d.back t s:=by
 cases h with
 | @swap a b row hh x y ne h1 h2=>
  have la:=(aA.mp h1).1
  have lb:=(aA.mp h2).1
  have e1:((row.set a (some y)).set b (some x))[a]?=some (some y):=by rw [bj,if_neg (fun z=>ne z.symm),bj,if_pos rfl,if_pos la]
  have e2:((row.set a (some y)).set b (some x))[b]?=some (some x):=by rw [bj,if_pos rfl,bp,if_pos lb]
  have:=DoE.swap (h:=hh) ne e1 e2
  have er:(((row.set a (some y)).set b (some x)).set a (some x)).set b (some y)=row:=by
   refine dF fun i=>?_
   simp only [bj,bp]
   by_cases ib:b=i
   ·subst ib
    rw [if_pos rfl,if_pos lb,h2]
   ·rw [if_neg ib]
    by_cases ia:a=i
    ·subst ia
     rw [if_pos rfl,if_pos la,h1]
    ·rw [if_neg ia,if_neg ib,if_neg ia]
  rw [er] at this
  exact this
 | @take p row x h1=>
  have l:=(aA.mp h1).1
  have:=DoE.lay (g:=p) (row:=row.set p none) (x:=x) (by rw [bj,if_pos rfl,if_pos l])
  rw [Yz h1] at this
  exact this
 | @move p g row hh x h1 h2=>
  have lp:=(aA.mp h1).1
  have lg:=(aA.mp h2).1
  have ne:p ≠ g:=fun z=>by rw [z,h2] at h1;cases h1
  have e1:((row.set p none).set g (some x))[g]?=some (some x):=by rw [bj,if_pos rfl,bp,if_pos lg]
  have e2:((row.set p none).set g (some x))[p]?=some none:=by rw [bj,if_neg (fun z=>ne z.symm),bj,if_pos rfl,if_pos lp]
  have:=DoE.move (h:=hh) e1 e2
  have er:(((row.set p none).set g (some x)).set g none).set p (some x)=row:=by
   refine dF fun i=>?_
   simp only [bj,bp]
   by_cases ip:p=i
   ·subst ip
    rw [if_pos rfl,if_pos lp,h1]
   ·rw [if_neg ip]
    by_cases ig:g=i
    ·subst ig
     rw [if_pos rfl,if_pos lg,h2]
    ·rw [if_neg ig,if_neg ig,if_neg ip]
  rw [er] at this
  exact this
 | @lay g row x h1=>
  have l:=(aA.mp h1).1
  have:=DoE.take (p:=g) (row:=row.set g (some x)) (x:=x) (by rw [bj,if_pos rfl,if_pos l])
  rw [Yz h1] at this
  exact this
noncomputable def Gm:Dd->De
 | .take p=>.take p
 | .move p g=>.move p g
 | .lay g=>.lay g
theorem OU:MR rNe:=fun _ _ _ _ _ hq ⟨e,h⟩=>⟨e,hq _ _ h⟩
variable {ss:List Bool}
theorem ZF {i:Nat}(h:i<ss.length):ixN (ss.map V.bl).length (i:Int)=some i/\atI (ss.map V.bl) (i:Int)=some (.bl (ss.getD i false)):=by
 have e1:ixN (ss.map V.bl).length (i:Int)=some i:=by unfold ixN;rw [am,if_pos (by omega),if_pos (by omega),aY]
 refine ⟨e1,?_⟩
 unfold atI
 rw [e1]
 show (ss.map V.bl)[i]?=_
 rw [aE,af,aj h];rfl
theorem Wv {i j:Nat}{v:Bool}(h:i<ss.length):(ss.set i v).getD j false=if j=i then v else ss.getD j false:=by
 rw [af,af,bj]
 by_cases e:i=j
 ·subst e;rw [if_pos rfl,if_pos h,if_pos rfl];rfl
 ·rw [if_neg e,if_neg (fun z=>e z.symm)]
noncomputable abbrev xI:cJ:=top 13
theorem yN:zn ["order","first","ring","place"] ["order","first"] (zd xI):=⟨rfl,rfl,rfl,by decide +kernel,rfl,by decide +kernel,by decide +kernel⟩
noncomputable def wR (K:az):Sp:=fun vs H Q _=>∃ (a:ay) (n:Nat) (os:List Int) (p:Int),vs=[.ref a,.int p]/\(SqL K H a (os.map V.int) \/ SqT K H a (os.map V.int))/\zF n os/\n<=1000/\0<=p/\p<n/\∀ t H',Kp [] H H'->H t=none->H' t=some (il (zG os p))->Q (.ref t) H'
theorem Jc (a:At K mg "ring_from" xI)(B:Blt mg):Df P w K mg base "ring_from" ["order","first"] 1 (wR K):=by
  refine vU (k:=0) a yN (fun _ _ _ _ _ _=>Pn2_ fun _ _=>rfl) (fun vs H Q E h=>?_) (fun f cdv A outer s H vs Q E hr h=>?_)
  · obtain ⟨a,_,_,_,rfl,_⟩:=h;rfl
  obtain ⟨a,n,os,p,rfl,ha,ho,hn,p0,p1,q⟩:=h
  have sc:=yN
  have hsl:=hsl
  have ol:=ho.1
  obtain ⟨M,hM,hMn⟩:=jC ho p0 p1
  refine ⟨_,(zc (zB (i:=2) sc.nd rfl (by first | exact bq rfl | exact bu rfl) (qA (za (pv 1) zb)))
    (zc (zB (i:=3) sc.nd rfl (by first | exact bq rfl | exact bu rfl) (zv zI (pv 0) (pv 1) (fun _ _=>rfl)))
    (zc (BF cc (zq NY (pv 3) (pv 1) (zt _)) (zc (zZ (kl bB bV bW qD (pv 2) (za (pv 3) zb)))
    (zf (zB (i:=3) sc.nd rfl (by first | exact bq rfl | exact bu rfl) (zv zI (pv 0) (pv 3) (fun _ _=>rfl))))))
    (zf (zy (pv 2)))))),?_⟩
  rw [show qB ["order","first","ring","place"] [V.ref a,V.int p]=[some (.ref a),some (.int p),none,none] from rfl]
  walk_at "rd"
  obtain ⟨e1,e2⟩:=j5 (cs:=os) (k:=p) p0 (by omega)
  refine ⟨by show 1<=aT;decide,fun t ht=>⟨_,KW ha (Kp.new _ ht),_,e2,?_⟩⟩
  refine DZ (fun τ H'=>∃ (j:Nat),τ=[some (.ref a),some (.int p),some (.ref t),some (.int (itn os j p))]/\Kp [t] (upd H t (.lst [.int p])) H'/\H' t=some (il (itl os p j))/\1<=j/\j<=M/\∀ i,1<=i->i<j->itn os i p ≠ p)
    (fun _ H'=>match H' t with | some (.lst xs)=>M+1 - xs.length | _=>0) ?_ ?_ (FO (Od OU DL DL))
  · exact ⟨1,rfl,Kp.refl,zi,aF _,hM.1,fun i h1 h2=>by omega⟩
  · rintro τ H' ⟨j,rfl,kp,hH,j1,jM,hj⟩
    have bd:=qQ ho p0 p1 j
    have k0:=Kp.drop1 ht kp
    walk_at "rd"
    refine ⟨rfl,EX (fun c=>?_) (fun c=>?_)⟩
    · have jM' : j < M := by
        rcases nV j M with z | z
        · exact z
        · have e:j=M:=by omega
          subst e
          exact absurd hM.2.1 c
      obtain ⟨g1,g2⟩:=j5 (cs:=os) (k:=itn os j p) bd.1 (by omega)
      have k1:Kp [] H (upd H' t (HO.lst (bS V.int (itl os p j) ++ [V.int (itn os j p)]))):=Kp.drop1 ht (kp.trans (Kp.set _ (by simp)))
      refine ⟨.inl ⟨rfl,_,SqL.of hH⟩,_,hH,by rw [am,qT];omega,_,KW ha k1,_,g2,⟨j+1,rfl,kp.trans (Kp.set _ (by simp)),?_,by omega,by omega,fun i h1 h2=>?_⟩,?_⟩
      · rw [DV]
        exact zi.trans (congrArg some (congrArg HO.lst (by rw [aQ];rfl)))
      · by_cases e:i=j
        · subst e;exact c
        · exact hj i h1 (by omega)
      · rw [zi,hH]
        show M+1 - (bS V.int (itl os p j) ++ [V.int (itn os j p)]).length<M+1 - (bS V.int (itl os p j)).length
        rw [bg,am,qT]
        show M+1 - (j+1)<M+1 - j
        omega
    · have hw:kS os p j:=⟨j1,by by_cases z:itn os j p=p;exact z;exact absurd z c,hj⟩
      refine q _ _ k0 ht ?_
      unfold zG
      rw [hw.per]
      exact hH
noncomputable abbrev Jk:cJ:=top 14
theorem Xa:zn ["order","seen","found","first","ring","place"] ["order"] (zd Jk):=⟨rfl,rfl,rfl,by decide +kernel,rfl,by decide +kernel,by decide +kernel⟩
noncomputable def YX (K:az):Sp:=fun vs H Q _=>∃ (a:ay) (n:Nat) (os:List Int),vs=[.ref a]/\(SqL K H a (os.map V.int) \/ SqT K H a (os.map V.int))/\zF n os/\n<=1000 /\
 ∀ p H' rs,Kp [] H H'->H p=none->H' p=some (.lst (rfs rs))->(∀ r ∈ rs,H r.1=none/\r.1 ≠ p/\H' r.1=some (il r.2))->rs.map (·.2)=zr os n->Q (.ref p) H'
theorem Fs (a:At K mg "rings" Jk)(B:Blt mg)(D_ring_from:Df P w K mg base "ring_from" ["order","first"] 1 (wR K)):Df P w K mg base "rings" ["order"] 2 (YX K):=by
 refine vU (k:=1) a Xa (fun _ _ _ _ _ _=>Pn1_ fun _=>rfl) (fun vs H Q E h=>?_) (fun f cdv A outer s H vs Q E hr h=>?_)
 ·obtain ⟨a,_,_,rfl,_⟩:=h;rfl
 obtain ⟨a,n,os,rfl,ha,ho,hn,q⟩:=h
 have sc:=Xa
 have hsl:=hsl
 have ol:=ho.1
 refine ⟨_,(zc (zB (i:=1) sc.nd rfl (by first | exact bq rfl | exact bu rfl) (zO Zi (qA (za kT zb)) (zu zp rfl B.len qg (za (pv 0) zb))))
  (zc (zB (i:=2) sc.nd rfl (by first | exact bq rfl | exact bu rfl) (qA zb))
  (zc (qZ cc rfl (kj rfl B.range (za (zu zp rfl B.len qg (za (pv 0) zb)) zb)) (zw (i:=3) sc.nd rfl (by first | exact bq rfl | exact bu rfl)) (zf (zS (xj (j6 (zv qC (pv 1) (pv 3) (fun _ _=>rfl)) (fun _=>rfl))) (zc (zB (i:=4) sc.nd rfl (by first | exact bq rfl | exact bu rfl) (zU D_ring_from hr rfl (za (pv 0) (za (pv 3) zb))))
  (zc (qZ cc rfl (FS (pv 4)) (zw (i:=5) sc.nd rfl (by first | exact bq rfl | exact bu rfl)) (zf (qE kT (qM (pv 1) (pv 5) zL))))
  (zf (zS (zq QD (zu zp rfl B.len qg (za (pv 4) zb)) zg (zt _)) (zf (zZ (kl bB bV bW qD (pv 2) (za (pv 4) zb)))) zx)))) zx)))
  (zf (zy (pv 2)))))),?_⟩
 rw [show qB ["order","seen","found","first","ring","place"] [V.ref a]=[some (.ref a),none,none,none,none,none] from rfl]
 walk_at "rd"
 refine ⟨by show 1<=aT;decide,fun pz hpz=>⟨_,KW ha (Kp.new _ hpz),_,zi,?_⟩⟩
 rw [am,ol,aY,DJ]
 refine ⟨by omega,by omega,by show 1 * n<=aT;omega,fun ps hps=>?_⟩
 refine ⟨cn _,fun pf hpf=>?_⟩
 have kH:=((Kp.new (bs:=[]) (HO.lst [V.bl false]) hpz).trans (Kp.new (HO.lst (aG n (V.bl false))) hps)).trans (Kp.new (HO.lst []) hpf)
 have nps:H ps=none:=(Kp.new (bs:=[]) _ hpz).free hps
 have npf:H pf=none:=((Kp.new (bs:=[]) _ hpz).trans (Kp.new _ hps)).free hpf
 have hps0:=(Kp.new (bs:=[]) (HO.lst []) hpf) ps _ (by simp) (zi (H:=upd H pz (HO.lst [V.bl false])) (o:=HO.lst (aG n (V.bl false))))
 have hpf0:=zi (H:=upd (upd H pz (HO.lst [V.bl false])) ps (HO.lst (aG n (V.bl false)))) (a:=pf) (o:=HO.lst [])
 have nsf:ps ≠ pf:=zm zi hpf
 generalize upd (upd (upd H pz (HO.lst [V.bl false])) ps (HO.lst (aG n (V.bl false)))) pf (HO.lst [])=H0 at *
 refine ⟨_,KW ha kH,?_⟩
 rw [am,ol]
 refine ⟨by omega,by omega,?_⟩
 rw [aY]
 refine BY (fun i τ G=>∃ (x3 x4 x5:Option V) (ss:List Bool) (rs:List (ay × List Int)),τ=[some (.ref a),some (.ref ps),some (.ref pf),x3,x4,x5]/\Kp [ps,pf] H0 G/\G ps=some (.lst (ss.map V.bl))/\ss.length=n/\(∀ x:Nat,x<n->(ss.getD x false=true ↔ ql os i (x:Int)))/\G pf=some (.lst (rfs rs))/\(∀ r ∈ rs,H r.1=none/\r.1 ≠ pf/\r.1 ≠ ps/\G r.1=some (il r.2))/\rs.map (·.2)=zr os i) ?_ ?_ ?_
 ·refine ⟨none,none,none,aG n false,[],rfl,Kp.refl,by rw [iR];exact hps0,by simp,fun x hx=>?_,hpf0,fun r hr=>(nomatch hr),rfl⟩
  constructor
  ·intro z
   rw [af,eX,if_pos hx] at z
   cases z
  ·rintro ⟨q,hq,_⟩;omega
 ·rintro i τ G hi ⟨x3,x4,x5,ss,rs,rfl,kG,gs,ls,hs,gf,hr,er⟩
  have kHG:Kp [] H G:=Kp.un (Kp.un ((kH.mono (by simp)).trans kG) nps) npf
  obtain ⟨s1,s2⟩:=ZF (ss:=ss) (i:=i) (by omega)
  have lrs:rs.length<=i:=by
   have:=yA os i
   rw [<- er,am] at this
   exact this
  rw [nW]
  walk_at "rd"
  refine ⟨_,SqL.of gs,_,s2,_,rfl,EX (fun c=>?_) (fun c=>?_)⟩
  ·have hns:¬ ql os i (i:Int):=by rw [<- hs i hi,c];simp
   refine ⟨a,n,os,i,rfl,KW ha kHG,ho,hn,by omega,by omega,fun t G1 k1 ht h1=>?_⟩
   have gs1:=k1 _ _ (by simp) gs
   have gf1:=k1 _ _ (by simp) gf
   obtain ⟨M,hM,hMn⟩:=jC ho (p:=(i:Int)) (by omega) (by omega)
   have hrl:(zG os (i:Int)).length=M:=by unfold zG;rw [qT,hM.per]
   have nts:t ≠ ps:=Ne.symm (zm gs ht)
   have ntf:t ≠ pf:=Ne.symm (zm gf ht)
   refine ⟨t,rfl,⟨_,SqL.of h1⟩,?_⟩
   refine FE (xs:=(zG os (i:Int)).map V.int) (fun j τ G'=>∃ (x5:Option V) (ss':List Bool),τ=[some (.ref a),some (.ref ps),some (.ref pf),some (.int (i:Int)),some (.ref t),x5]/\Kp [ps] G1 G'/\G' ps=some (.lst (ss'.map V.bl))/\ss'.length=n/\∀ x:Nat,x<n->(ss'.getD x false=true ↔ ql os i (x:Int) \/ (x:Int) ∈ (zG os (i:Int)).take j)) ?_ ?_ ?_ ?_
   ·exact ⟨x5,ss,rfl,Kp.refl,gs1,ls,fun x hx=>by rw [hs x hx];simp⟩
   ·rintro j τ G' _ ⟨_,ss',rfl,kp,_⟩
    exact SqL.of (kp _ _ (by simpa using nts) h1)
   ·rintro j x τ G' hx ⟨y5,ss',rfl,kp,gs',ls',hs'⟩
    obtain ⟨rfl,hj⟩:=yW hx
    have hm:(zG os (i:Int)).getD j 0 ∈ zG os (i:Int):=by rw [j0 hj];exact bo hj
    have hb:0<=(zG os (i:Int)).getD j 0/\(zG os (i:Int)).getD j 0<(n:Int):=by
     obtain ⟨k,_,e⟩:=qx.mp hm
     rw [<- e]
     exact qQ ho (by omega) (by omega) k
    have htk:(zG os (i:Int)).take (j+1)=(zG os (i:Int)).take j ++ [(zG os (i:Int)).getD j 0]:=by
     rw [j0 hj];exact (List.take_append_getElem hj).symm
    generalize (zG os (i:Int)).getD j 0=v at *
    obtain ⟨vn,rfl⟩:∃ vn:Nat,v=vn:=⟨v.toNat,by omega⟩
    obtain ⟨g1,g2⟩:=ZF (ss:=ss') (i:=vn) (by omega)
    walk_at "rd"
    refine ⟨_,gs',vn,g1,kp.trans (Kp.set _ (by simp)),ss'.set vn true,zi.trans (congrArg some (congrArg HO.lst (by rw [eR]))),by rw [bp];exact ls',fun x hx=>?_⟩
    rw [Wv (by omega),htk,cO,cK]
    by_cases e:x=vn
    ·subst e;rw [if_pos rfl];simp
    ·have e':¬ ((x:Int)=(vn:Int)):=by omega
     rw [if_neg e,hs' x hx]
     simp [e']
   ·rintro τ G' ⟨y5,ss',rfl,kp,gs',ls',hs'⟩
    rw [am,dr] at hs'
    have h1':=kp _ _ (by simpa using nts) h1
    have gf':=kp _ _ (by simpa using Ne.symm nsf) gf1
    have hs'':∀ x:Nat,x<n->(ss'.getD x false=true ↔ ql os (i+1) (x:Int)):=fun x hx=>by
     rw [hs' x hx,ql.succ,Rch.mem_ring hM]
     unfold zG
     rw [hM.per]
    have kp2:Kp [ps,pf] H0 G':=(kG.trans (k1.mono (by simp))).trans (kp.mono (by simp))
    have hr':∀ r ∈ rs,H r.1=none/\r.1 ≠ pf/\r.1 ≠ ps/\G' r.1=some (il r.2):=fun r hr0=>by
     obtain ⟨z1,z2,z3,z4⟩:=hr r hr0
     exact ⟨z1,z2,z3,kp _ _ (by simpa using z3) (k1 _ _ (by simp) z4)⟩
    have hL:kZ os i:=jV.mpr hns
    walk_at "rd"
    refine ⟨_,.inl (SqL.of h1'),EX (fun c1=>?_) (fun c1=>?_)⟩
    ·have hpe:1<per os (i:Int):=by rw [hM.per];rw [am,hrl] at c1;omega
     refine ⟨.inl ⟨rfl,_,SqL.of gf'⟩,_,gf',by unfold rfs;rw [am];omega,⟨_,rfl⟩,kp2.trans (Kp.set _ (by simp)),ss',(zh nsf).trans gs',ls',hs'',rs ++ [(t,zG os (i:Int))],?_,fun r hr0=>?_,?_⟩
     ·refine zi.trans (congrArg some (congrArg HO.lst ?_))
      unfold rfs;rw [aQ];rfl
     ·rcases cO.mp hr0 with z | z
      ·obtain ⟨z1,z2,z3,z4⟩:=hr' r z
       exact ⟨z1,z2,z3,(zh z2).trans z4⟩
      ·rw [cK.mp z]
       exact ⟨kHG.free ht,ntf,nts,(zh ntf).trans h1'⟩
     ·show _=zr os i ++ _
      rw [if_pos ⟨hL,hpe⟩,aQ,er]
      rfl
    ·have hpe:¬ 1<per os (i:Int):=by rw [hM.per];rw [am,hrl] at c1;omega
     refine ⟨⟨_,rfl⟩,kp2,ss',gs',ls',hs'',rs,gf',hr',?_⟩
     show _=zr os i ++ _
     rw [if_neg (fun z=>hpe z.2),bP,er]
  ·have hsi:ql os i (i:Int):=(hs i hi).mp (by cases z:ss.getD i false with | true=>rfl | false=>exact absurd z c)
   refine ⟨kG,ss,gs,ls,fun x hx=>by rw [hs x hx,ql.step ho hi hsi],rs,gf,hr,?_⟩
   show _=zr os i ++ _
   rw [if_neg (fun z=>jV.mp z.1 hsi),bP,er]
 ·rintro τ G ⟨x3,x4,x5,ss,rs,rfl,kG,gs,ls,hs,gf,hr,er⟩
  have kHG:Kp [] H G:=Kp.un (Kp.un ((kH.mono (by simp)).trans kG) nps) npf
  walk_at "rd"
  exact q _ _ rs kHG npf gf (fun r hr0=>⟨(hr r hr0).1,(hr r hr0).2.1,(hr r hr0).2.2.2⟩) er
abbrev Tst (c:AT)(ρ:ASt)(M:MH)(b:Bool):Prop:=∀ Q,Q b M->c ρ M Q
variable {c:AT} {ρ:ASt} {M:MH}
theorem ji {b b':Bool}(h:Tst c ρ M b)(e:b=b'):Tst c ρ M b':=e ▸ h
theorem XU {c d:AT} (h:Tst c ρ M false):Tst (FM c d) ρ M false:=fun Q q=>h _ (by rw [if_neg (fun z=>nomatch z)];exact q)
theorem vv {c d:AT} {b:Bool}(h:Tst c ρ M true)(h':Tst d ρ M b):Tst (FM c d) ρ M b:=fun Q q=>h _ (by rw [if_pos rfl];exact h' _ q)
variable {B:MH} {D:jA}
theorem vw {t r:AS} (h:Tst c ρ M false)(k:r B D ρ M):yX (wL c t xp) r B D ρ M:=h _ (by rw [if_neg (fun z=>nomatch z)];exact k)
theorem Np {t:AS} (h:Tst c ρ M false)(k:D.nx ρ M):wL c t xp B D ρ M:=h _ (by rw [if_neg (fun z=>nomatch z)];exact k)
variable {e f:AE} {Q:AK}
theorem O8 (h:Tst c ρ M true)(k:e ρ M Q):aIf c e f ρ M Q:=h _ (by rw [if_pos rfl];exact k)
theorem Pa (h:Tst c ρ M false)(k:f ρ M Q):aIf c e f ρ M Q:=h _ (by rw [if_neg (fun z=>nomatch z)];exact k)
theorem tNN {i:Nat}{x:AV} (hρ:ρ[i]?=some (some x)):Tst (aB (aOp (Dx not) (yf i) (aC .non))) ρ M (!jX x):=fun Q q=>⟨_,hρ,rfl,_,rfl,q⟩
theorem tIN {i:Nat}{x:AV} (hρ:ρ[i]?=some (some x)):Tst (aB (aOp (Dx id) (yf i) (aC .non))) ρ M (jX x):=fun Q q=>⟨_,hρ,rfl,_,rfl,q⟩
theorem Eg {t r:AS} (h:Tst c ρ M true)(k:t B { D with nx:=r B D } ρ M):yX (wL c t xp) r B D ρ M:=h _ (by rw [if_pos rfl];exact k)
theorem BP {i:Nat}{t:AS} (h:∀ r,r=t->Bs i r B D ρ M):Bs i t B D ρ M:=h t rfl
noncomputable def zX (ms:List Int)(x:Int):List Int:=ms.set x.toNat (ms.getD x.toNat 0+1)
theorem yJ (ms:List Int)(x:Int):(zX ms x).length=ms.length:=by unfold zX;rw [bp]
def OkM (s:ES)(n:Nat):Prop:=(∀ x,some x ∈ s.1->0<=x/\x<(n:Int))/\∀ x,s.2=some x->0<=x/\x<(n:Int)
noncomputable def cA:Option Int->AV
 | none=>.d .non
 | some x=>.d (.int x)
noncomputable abbrev WO (row:List (Option Int)):MO:=.lst (row.map cA)
noncomputable abbrev msA (ms:List Int):MO:=.lst (ms.map fun i=>AV.d (.int i))
noncomputable abbrev Ax (C rw_ mv:ay)(h:Option Int):MO:=.ins C [("row",.ref rw_),("hand",cA h),("moved",.ref mv)]
structure zW (C:ay)(M:MH)(p rw_ mv:ay)(s:ES)(ms:List Int):Prop where
 ins:M p=some (Ax C rw_ mv s.2)
 row:M rw_=some (WO s.1)
 mvd:M mv=some (msA ms)
 ne:rw_ ≠ mv
noncomputable def rmP (C:ay)(M:MH)(p rw_ mv:ay)(s:ES)(ms:List Int):MH:=mup (mup (mup M p (Ax C rw_ mv s.2)) rw_ (WO s.1)) mv (msA ms)
variable {C:ay} {ms:List Int}
theorem zW.pr {p rw_ mv:ay} (r:zW C M p rw_ mv s ms):p ≠ rw_/\p ≠ mv:=
 ⟨fun z=>(by have:=r.ins;rw [z,r.row] at this;cases this),fun z=>(by have:=r.ins;rw [z,r.mvd] at this;cases this)⟩
theorem zW.same {p rw_ mv:ay} (r:zW C M p rw_ mv s ms):rmP C M p rw_ mv s ms=M:=by
 funext b
 unfold rmP mup
 by_cases c1:b=mv
 ·rw [if_pos c1,c1,r.mvd]
 ·rw [if_neg c1]
  by_cases c2:b=rw_
  ·rw [if_pos c2,c2,r.row]
  ·rw [if_neg c2]
   by_cases c3:b=p
   ·rw [if_pos c3,c3,r.ins]
   ·rw [if_neg c3]
theorem zW.to {p rw_ mv:ay} (r:zW C M p rw_ mv s ms)(s':ES)(ms':List Int):zW C (rmP C M p rw_ mv s' ms') p rw_ mv s' ms':=by
 obtain ⟨n1,n2⟩:=r.pr
 have n3:=r.ne
 unfold rmP
 exact ⟨by rw [zl n2,zl n1,ze],by rw [zl n3,ze],ze,n3⟩
theorem zW.again {p rw_ mv:ay} (r:zW C M p rw_ mv s ms)(s' s2:ES)(ms' ms2:List Int):rmP C (rmP C M p rw_ mv s' ms') p rw_ mv s2 ms2=rmP C M p rw_ mv s2 ms2:=by
 funext b
 unfold rmP mup
 by_cases c1:b=mv <;> by_cases c2:b=rw_ <;> by_cases c3:b=p <;> simp [c1,c2,c3]
theorem zW.setRow {p rw_ mv:ay} (r:zW C M p rw_ mv s ms)(row:List (Option Int)):mup M rw_ (WO row)=rmP C M p rw_ mv (row,s.2) ms:=by
 obtain ⟨n1,n2⟩:=r.pr
 funext b
 unfold rmP mup
 by_cases c1:b=mv
 ·rw [if_pos c1,if_neg (fun z=>r.ne (z.symm.trans c1)),c1,r.mvd]
 ·rw [if_neg c1]
  by_cases c2:b=rw_
  ·rw [if_pos c2,if_pos c2]
  ·rw [if_neg c2,if_neg c2]
   by_cases c3:b=p
   ·rw [if_pos c3,c3,r.ins]
   ·rw [if_neg c3]
theorem zW.setMv {p rw_ mv:ay} (r:zW C M p rw_ mv s ms)(ms':List Int):mup M mv (msA ms')=rmP C M p rw_ mv s ms':=by
 have:=r.same
 calc mup M mv (msA ms')=mup (rmP C M p rw_ mv s ms) mv (msA ms'):=by rw [this]
  _=_:=by unfold rmP;rw [kN]
theorem zW.setHand {p rw_ mv:ay} (r:zW C M p rw_ mv s ms)(h:Option Int):mup M p (Ax C rw_ mv h)=rmP C M p rw_ mv (s.1,h) ms:=by
 obtain ⟨n1,n2⟩:=r.pr
 funext b
 unfold rmP mup
 by_cases c1:b=mv
 ·rw [if_pos c1,if_neg (fun z=>n2 (z.symm.trans c1)),c1,r.mvd]
 ·rw [if_neg c1]
  by_cases c2:b=rw_
  ·rw [if_pos c2,if_neg (fun z=>n1 (z.symm.trans c2)),c2,r.row]
  ·rw [if_neg c2]
theorem zW.fin {p rw_ mv:ay} (r:zW C M p rw_ mv s ms)(s':ES)(ms':List Int)(d:Dat):vI M (rmP C M p rw_ mv s' ms') (.d d) (.d d) (rmP C M p rw_ mv s' ms'):=by
 have t:=r.to s' ms'
 refine ⟨fun q=>.inl rfl,fun q o e=>?_,.inl ⟨rfl,fun p z=>nomatch z⟩⟩
 by_cases c1:q=mv
 ·rw [c1,t.mvd] at e
  cases e
  exact .inr fun z hz=>absurd hz (y4 (ds:=ms'.map .int) (jw _) z)
 ·by_cases c2:q=rw_
  ·rw [c2,t.row] at e
   cases e
   refine .inr fun z hz=>?_
   obtain ⟨y,hy,hz⟩:=(show ∃ x ∈ s'.1.map cA,x.Has z from hz)
   obtain ⟨x,_,rfl⟩:=bn.mp hy
   cases x <;> exact (show False from hz).elim
  ·by_cases c3:q=p
   ·rw [c3,t.ins] at e
    cases e
    refine .inr fun z hz=>?_
    obtain ⟨y,hy,hz⟩:=(show ∃ x ∈ [AV.ref rw_,cA s'.2,AV.ref mv],x.Has z from hz)
    simp only [aO,cm,or_false] at hy
    rcases hy with rfl | rfl | rfl
    ·obtain rfl:rw_=z:=hz
     rw [t.row];exact fun z=>nomatch z
    ·cases h:s'.2 <;> rw [h] at hz <;> exact (show False from hz).elim
    ·obtain rfl:mv=z:=hz
     rw [t.mvd];exact fun z=>nomatch z
   ·refine .inl ?_
    unfold rmP at e
    rw [zl c1,zl c2,zl c3] at e
    exact e
structure RTx (K:az)(C:ay):Prop where
 cl:Cls K C
 nr:jQ K C "row"
 nh:jQ K C "hand"
 nm:jQ K C "moved"
noncomputable abbrev wrd (x:String):List (Str × V):=[("word",.str (au x))]
noncomputable def fnW (vs:List V):List (Str × V):=[("word",vs.getD 0 .non)]
theorem y9 {a:Nat}(h:a<row.length):atI (row.map cA) (a:Int)=some (cA (row.getD a none))/\ixN (row.map cA).length (a:Int)=some a:=by
 have e:ixN (row.map cA).length (a:Int)=some a:=by rw [am,qV (by omega) (by omega),aY]
 refine ⟨?_,e⟩
 unfold atI
 rw [e]
 show (row.map cA)[a]?=_
 rw [aE,aj h,af,aj h];rfl
theorem YY {x:Int}(h0:0<=x)(h1:x<(ms.length:Int)):atI (ms.map fun i=>AV.d (.int i)) x=some (.d (.int (ms.getD x.toNat 0)))/\ixN (ms.map fun i=>AV.d (Dat.int i)).length x=some x.toNat:=by
 have hx:x.toNat<ms.length:=by omega
 have e:ixN (ms.map fun i=>AV.d (Dat.int i)).length x=some x.toNat:=by rw [am,qV h0 (by omega)]
 refine ⟨?_,e⟩
 unfold atI
 rw [e]
 show (ms.map fun i=>AV.d (Dat.int i))[x.toNat]?=_
 rw [aE,aj hx,af,aj hx];rfl
theorem F2 (x:Int):(ms.map fun i=>AV.d (.int i)).set x.toNat (.d (.int (ms.getD x.toNat 0+1)))=(zX ms x).map fun i=>AV.d (.int i):=by unfold zX;rw [eR]
theorem Dw (row:List (Option Int))(a:Nat)(c:Option Int):(row.map cA).set a (cA c)=(row.set a c).map cA:=eR.symm
variable {cB:ay}
theorem rz {M0 M' M'':MH}{E0:AXK} {w:Str}(f:vI M0 M' (.d .non) (.d .non) M'')(q:E0 cB [("word",.str w)] M''):∃ vs,[Bo (.d (.str w))]=bS some vs/\vs.length=1/\1<=1000/\exA M0 E0 cB (fnW vs) M':=⟨[.str w],rfl,rfl,by decide,M'',f,q⟩
theorem qH (c:Option Int):jX (cA c)=c.isNone:=by cases c <;> rfl
noncomputable def By (C cB:ay):xg:=fun xs M Q E=>∃ (p rw_ mv:ay) (s:ES) (ms:List Int) (a:Nat),xs=[.ref p,.d (.int a)]/\zW C M p rw_ mv s ms/\a<s.1.length/\OkM s ms.length /\
 (∀ x,s.1.getD a none=some x->Q (.d (.int x)) (rmP C M p rw_ mv (s.1.set a none,s.2) (zX ms x)))/\(s.1.getD a none=none->E cB (wrd "empty") M)
noncomputable abbrev Xw:cJ:=(qF (top 11) 6)
theorem Vn:zn ["self","a","thing"] ["self","a"] (zd Xw):=⟨rfl,rfl,rfl,by decide +kernel,rfl,by decide +kernel,by decide +kernel⟩
theorem Bd {C:ay}(a:AtM K C "lift" "Room.lift" Xw)(R:RTx K C)(B:Blt mg){cBadDeed:ay}(MX_BadDeed:MkX P w K mg base cBadDeed 1 1 fnW)(XG_BadDeed:mg "BadDeed"=some (.ref cBadDeed)):DmX P w K mg base C "lift" ["self","a"] 3 (ja (By C cBadDeed)):=by
 refine Ww (k:=2) a Vn (fun _ _ _ _ _ _=>Pn2_ fun _ _=>rfl) (fun xs M Q E h=>?_) (fun f cdv A outer s H HX OX MX E1 hr hD=>?_)
 ·obtain ⟨_,_,_,_,_,_,rfl,_⟩:=h;rfl
 have sc:=Vn
 have hsl:=hsl
 have CL:=R.cl
 refine ⟨_,(zc (zB (i:=2) sc.nd rfl (by first | exact bq rfl | exact bu rfl) (zv zI (qa (pv 0) rfl) (pv 1) (fun _ _=>rfl)))
  (zc (zS (zq yD (pv 2) qi (zt _)) (zf (qy hD rfl MX_BadDeed hr rfl XG_BadDeed (za zC zb))) zx)
  (zc (qE qi (qM (qa (pv 0) rfl) (pv 1) zL))
  (zc (v0 (qa (pv 0) rfl) (pv 2) ya zg QO zL)
  (zf (zy (pv 2))))))),?_⟩
 refine exX (by walk_at "sim") ?_
 rintro xs Q E0 rfl ⟨p,rw_,mv,⟨row,hd⟩,ms,a,rfl,r,ha,ok,q,qe⟩
 rw [show zJ ["self","a","thing"] [.ref p,.d (.int a)]=[some (.ref p),some (.d (.int a)),none] from rfl]
 refine zk fun r1 hr1=>?_
 walk_at "ra"
 obtain ⟨c1,c2⟩:=y9 ha
 refine ⟨_,_,r.ins,R.cl,R.nr,_,rfl,_,qh r.row,_,c1,?_⟩
 subst hr1
 refine zk fun r1 hr1=>?_
 walk_at "ra"
 cases hx:row.getD a none with
 | none=>
  rw [if_pos (by rw [qH];rfl)]
  exact rz (qp Fr.refl .non) (qe hx)
 | some x=>
  rw [if_neg (by rw [qH];exact fun z=>nomatch z)]
  subst hr1
  obtain ⟨x0,x1⟩:=ok.1 x (by rw [af,aj ha] at hx;rw [<- hx];exact bo ha)
  obtain ⟨m1,m2⟩:=YY x0 x1
  show yX _ _ _ _ _ _
  rw [show cA (some x)=.d (.int x) from rfl]
  refine zk fun r1 hr1=>?_
  walk_at "ra"
  refine ⟨_,_,r.ins,R.cl,R.nr,_,rfl,_,rfl,_,r.row,_,c2,?_⟩
  rw [show (row.map cA).set a (.d .non)=(row.set a none).map cA from Dw row a none,r.setRow]
  have r2:=r.to (row.set a none,hd) ms
  subst hr1
  walk_at "ra"
  refine ⟨_,_,r2.ins,R.cl,R.nm,_,rfl,_,jj r2.mvd,_,m1,_,rfl,_,rfl,_,r2.mvd,_,m2,?_⟩
  rw [F2,r2.setMv,r.again]
  exact ⟨_,_,r.fin _ _ (.int x),q x hx⟩
variable {n:Nat}
theorem Vl (ok:OkM s n){a:Nat}{x:Int}(ha:a<s.1.length)(h:s.1.getD a none=some x):0<=x/\x<(n:Int):=ok.1 x (by rw [af,aj ha] at h;rw [<- h];exact bo ha)
noncomputable def ID (C cB:ay):xg:=fun xs M Q E=>∃ (p rw_ mv:ay) (s:ES) (ms:List Int) (a b:Nat),xs=[.ref p,.d (.int a),.d (.int b)]/\zW C M p rw_ mv s ms/\a<s.1.length/\b<s.1.length/\OkM s ms.length /\
 (a=b->E cB (wrd "same") M)/\(a ≠ b->s.1.getD a none=none \/ s.1.getD b none=none->E cB (wrd "empty") M) /\
 (a ≠ b->∀ x y,s.1.getD a none=some x->s.1.getD b none=some y->Q (.d .non) (rmP C M p rw_ mv ((s.1.set a (some y)).set b (some x),s.2) (zX (zX ms x) y)))
noncomputable abbrev XT:cJ:=(qF (top 11) 2)
theorem YS:zn ["self","a","b","one","other"] ["self","a","b"] (zd XT):=⟨rfl,rfl,rfl,by decide +kernel,rfl,by decide +kernel,by decide +kernel⟩
theorem AR {C:ay}(a:AtM K C "swap" "Room.swap" XT)(R:RTx K C)(B:Blt mg){cBadDeed:ay}(MX_BadDeed:MkX P w K mg base cBadDeed 1 1 fnW)(XG_BadDeed:mg "BadDeed"=some (.ref cBadDeed)):DmX P w K mg base C "swap" ["self","a","b"] 3 (ja (ID C cBadDeed)):=by
 refine Ww (k:=2) a YS (fun _ _ _ _ _ _=>Pn3_ fun _ _ _=>rfl) (fun xs M Q E h=>?_) (fun f cdv A outer s H HX OX MX E1 hr hD=>?_)
 ·obtain ⟨_,_,_,_,_,_,_,rfl,_⟩:=h;rfl
 have sc:=YS
 have hsl:=hsl
 have CL:=R.cl
 refine ⟨_,(zc (zS (zq (qt hr.units) (pv 1) (pv 2) (zt _)) (zf (qy hD rfl MX_BadDeed hr rfl XG_BadDeed (za zC zb))) zx)
  (zc (zB (i:=3) sc.nd rfl (by first | exact bq rfl | exact bu rfl) (zv zI (qa (pv 0) rfl) (pv 1) (fun _ _=>rfl)))
  (zc (zB (i:=4) sc.nd rfl (by first | exact bq rfl | exact bu rfl) (zv zI (qa (pv 0) rfl) (pv 2) (fun _ _=>rfl)))
  (zc (zS (PW.pt (wy (zq yD (pv 3) qi (zt _)) (yl (zq yD (pv 4) qi (zt _))))) (zf (qy hD rfl MX_BadDeed hr rfl XG_BadDeed (za zC zb))) zx)
  (zc (qE (pv 4) (qM (qa (pv 0) rfl) (pv 1) zL))
  (zc (qE (pv 3) (qM (qa (pv 0) rfl) (pv 2) zL))
  (zc (v0 (qa (pv 0) rfl) (pv 3) ya zg QO zL)
  (zf (v0 (qa (pv 0) rfl) (pv 4) ya zg QO zL))))))))),?_⟩
 refine exX (by walk_at "sim") ?_
 rintro xs Q E0 rfl ⟨p,rw_,mv,⟨row,hd⟩,ms,a,b,rfl,r,ha,hb,ok,qs,qe,q⟩
 rw [show zJ ["self","a","b","one","other"] [.ref p,.d (.int a),.d (.int b)]=[some (.ref p),some (.d (.int a)),some (.d (.int b)),none,none] from rfl]
 refine zk fun r1 hr1=>?_
 walk_at "ra"
 by_cases hab:a=b
 ·rw [if_pos (by rw [hab])]
  exact rz (qp Fr.refl .non) (qs hab)
 rw [if_neg (by omega)]
 subst hr1
 obtain ⟨c1,c2⟩:=y9 ha
 obtain ⟨d1,d2⟩:=y9 hb
 refine zk fun r1 hr1=>?_
 walk_at "ra"
 refine ⟨_,_,r.ins,R.cl,R.nr,_,rfl,_,qh r.row,_,c1,?_⟩
 subst hr1
 refine zk fun r1 hr1=>?_
 walk_at "ra"
 refine ⟨_,_,r.ins,R.cl,R.nr,_,rfl,_,qh r.row,_,d1,?_⟩
 subst hr1
 refine zk fun r1 hr1=>?_
 walk_at "ra"
 cases hx:row.getD a none with
 | none=>
  rw [if_pos (by rw [qH];rfl)]
  exact rz (qp Fr.refl .non) (qe hab (.inl hx))
 | some x=>
  rw [if_neg (by rw [qH];exact fun z=>nomatch z)]
  cases hy:row.getD b none with
  | none=>
   rw [if_pos (by rw [qH];rfl)]
   exact rz (qp Fr.refl .non) (qe hab (.inr hy))
  | some y=>
   rw [if_neg (by rw [qH];exact fun z=>nomatch z)]
   obtain ⟨x0,x1⟩:=Vl ok ha hx
   obtain ⟨y0,y1⟩:=Vl ok hb hy
   obtain ⟨m1,m2⟩:=YY x0 x1
   obtain ⟨n1,n2⟩:=YY (ms:=zX ms x) y0 (by rw [yJ];exact y1)
   subst hr1
   rw [show cA (some x)=.d (.int x) from rfl,show cA (some y)=.d (.int y) from rfl]
   refine zk fun r1 hr1=>?_
   walk_at "ra"
   refine ⟨_,_,r.ins,R.cl,R.nr,_,rfl,_,rfl,_,r.row,_,c2,?_⟩
   rw [show (row.map cA).set a (.d (.int y))=(row.set a (some y)).map cA from Dw row a (some y),r.setRow]
   have r2:=r.to (row.set a (some y),hd) ms
   subst hr1
   refine zk fun r1 hr1=>?_
   walk_at "ra"
   refine ⟨_,_,r2.ins,R.cl,R.nr,_,rfl,_,rfl,_,r2.row,b,by rw [am,bp,qV (by omega) (by show (b:Int)<row.length;have:b<row.length:=hb;omega),aY],?_⟩
   rw [show ((row.set a (some y)).map cA).set b (.d (.int x))=((row.set a (some y)).set b (some x)).map cA from Dw _ b (some x),r2.setRow,r.again]
   have r3:=r.to ((row.set a (some y)).set b (some x),hd) ms
   subst hr1
   refine zk fun r1 hr1=>?_
   walk_at "ra"
   refine ⟨_,_,r3.ins,R.cl,R.nm,_,rfl,_,jj r3.mvd,_,m1,_,rfl,_,rfl,_,r3.mvd,_,m2,?_⟩
   rw [F2,r3.setMv,r.again]
   have r4:=r.to ((row.set a (some y)).set b (some x),hd) (zX ms x)
   subst hr1
   walk_at "ra"
   refine ⟨_,_,r4.ins,R.cl,R.nm,_,rfl,_,jj r4.mvd,_,n1,_,rfl,_,rfl,_,r4.mvd,_,n2,?_⟩
   rw [F2,r4.setMv,r.again]
   exact ⟨_,_,r.fin _ _ .non,q hab x y hx hy⟩
theorem K9 {a b c y:AV}:jD (au "hand") y [(au "row",a),(au "hand",b),(au "moved",c)]=[(au "row",a),(au "hand",y),(au "moved",c)]:=by
 unfold jD;rw [if_neg (by decide +kernel)];unfold jD;rw [if_pos rfl]
noncomputable def BA (C cB:ay):xg:=fun xs M Q E=>∃ (p rw_ mv:ay) (s:ES) (ms:List Int) (a:Nat),xs=[.ref p,.d (.int a)]/\zW C M p rw_ mv s ms/\a<s.1.length/\OkM s ms.length /\
 (s.2 ≠ none->E cB (wrd "full") M)/\(s.2=none->s.1.getD a none=none->E cB (wrd "empty") M) /\
 (s.2=none->∀ x,s.1.getD a none=some x->Q (.d .non) (rmP C M p rw_ mv (s.1.set a none,some x) (zX ms x)))
noncomputable abbrev Q5:cJ:=(qF (top 11) 3)
theorem Xf:zn ["self","a"] ["self","a"] (zd Q5):=⟨rfl,rfl,rfl,by decide +kernel,rfl,by decide +kernel,by decide +kernel⟩
theorem V8 {C:ay}(a:AtM K C "take" "Room.take" Q5)(R:RTx K C)(B:Blt mg){cBadDeed:ay}(MX_BadDeed:MkX P w K mg base cBadDeed 2 1 fnW)(XG_BadDeed:mg "BadDeed"=some (.ref cBadDeed))(DM_lift:DmX P w K mg base C "lift" ["self","a"] 3 (ja (By C cBadDeed))):DmX P w K mg base C "take" ["self","a"] 4 (ja (BA C cBadDeed)):=by
 refine Ww (k:=3) a Xf (fun _ _ _ _ _ _=>Pn2_ fun _ _=>rfl) (fun xs M Q E h=>?_) (fun f cdv A outer s H HX OX MX E1 hr hD=>?_)
 ·obtain ⟨_,_,_,_,_,_,rfl,_⟩:=h;rfl
 have sc:=Xf
 have hsl:=hsl
 have CL:=R.cl
 refine ⟨_,(zc (zS (zq jW (qa (pv 0) rfl) qi (zt _)) (zf (qy hD rfl MX_BadDeed hr rfl XG_BadDeed (za zC zb))) zx)
  (zf (xy (pv 0) (jO CL DM_lift hr hD.passX (pv 0) (za (pv 1) zb)) rfl))),?_⟩
 refine exX (by walk_at "sim") ?_
 rintro xs Q E0 rfl ⟨p,rw_,mv,⟨row,hd⟩,ms,a,rfl,r,ha,ok,qf,qe,q⟩
 rw [show zJ ["self","a"] [.ref p,.d (.int a)]=[some (.ref p),some (.d (.int a))] from rfl]
 refine zk fun r1 hr1=>?_
 walk_at "ra"
 refine ⟨_,_,r.ins,R.cl,R.nh,_,rfl,?_⟩
 cases hd with
 | some x=>
  rw [if_pos (by rw [qH];rfl)]
  exact rz (qp Fr.refl .non) (qf (fun z=>nomatch z))
 | none=>
  rw [if_neg (by rw [qH];exact fun z=>nomatch z)]
  subst hr1
  walk_at "ra"
  refine ⟨_,r.ins,rfl,p,rw_,mv,(row,none),ms,a,rfl,r,ha,ok,fun x hx=>?_,fun hx=>⟨_,qp Fr.refl .non,qe rfl hx⟩⟩
  have r2:=r.to (row.set a none,none) (zX ms x)
  refine ⟨_,_,r2.ins,R.cl,R.nh,eJ rfl,?_⟩
  rw [K9,show AV.d (.int x)=cA (some x) from rfl,r2.setHand,r.again]
  exact ⟨_,_,r.fin _ _ .non,q rfl x hx⟩
noncomputable def Ih (C cB:ay):xg:=fun xs M Q E=>∃ (p rw_ mv:ay) (s:ES) (ms:List Int) (a b:Nat),xs=[.ref p,.d (.int a),.d (.int b)]/\zW C M p rw_ mv s ms/\a<s.1.length/\b<s.1.length/\OkM s ms.length /\
 (a=b->E cB (wrd "same") M)/\(a ≠ b->s.1.getD b none ≠ none->E cB (wrd "full") M)/\(a ≠ b->s.1.getD b none=none->s.1.getD a none=none->E cB (wrd "empty") M) /\
 (a ≠ b->s.1.getD b none=none->∀ x,s.1.getD a none=some x->Q (.d .non) (rmP C M p rw_ mv ((s.1.set a none).set b (some x),s.2) (zX ms x)))
noncomputable abbrev XQ:cJ:=(qF (top 11) 4)
theorem Y0:zn ["self","a","b"] ["self","a","b"] (zd XQ):=⟨rfl,rfl,rfl,by decide +kernel,rfl,by decide +kernel,by decide +kernel⟩
theorem Et {C:ay}(a:AtM K C "move" "Room.move" XQ)(R:RTx K C)(B:Blt mg){cBadDeed:ay}(MX_BadDeed:MkX P w K mg base cBadDeed 2 1 fnW)(XG_BadDeed:mg "BadDeed"=some (.ref cBadDeed))(DM_lift:DmX P w K mg base C "lift" ["self","a"] 3 (ja (By C cBadDeed))):DmX P w K mg base C "move" ["self","a","b"] 4 (ja (Ih C cBadDeed)):=by
 refine Ww (k:=3) a Y0 (fun _ _ _ _ _ _=>Pn3_ fun _ _ _=>rfl) (fun xs M Q E h=>?_) (fun f cdv A outer s H HX OX MX E1 hr hD=>?_)
 ·obtain ⟨_,_,_,_,_,_,_,rfl,_⟩:=h;rfl
 have sc:=Y0
 have hsl:=hsl
 have CL:=R.cl
 refine ⟨_,(zc (zS (zq (qt hr.units) (pv 1) (pv 2) (zt _)) (zf (qy hD rfl MX_BadDeed hr rfl XG_BadDeed (za zC zb))) zx)
  (zc (zS (zq jW (zv zI (qa (pv 0) rfl) (pv 2) (fun _ _=>rfl)) qi (zt _)) (zf (qy hD rfl MX_BadDeed hr rfl XG_BadDeed (za zC zb))) zx)
  (zf (qE (jO CL DM_lift hr hD.passX (pv 0) (za (pv 1) zb)) (qM (qa (pv 0) rfl) (pv 2) zL))))),?_⟩
 refine exX (by walk_at "sim") ?_
 rintro xs Q E0 rfl ⟨p,rw_,mv,⟨row,hd⟩,ms,a,b,rfl,r,ha,hb,ok,qs,qf,qe,q⟩
 rw [show zJ ["self","a","b"] [.ref p,.d (.int a),.d (.int b)]=[some (.ref p),some (.d (.int a)),some (.d (.int b))] from rfl]
 refine zk fun r1 hr1=>?_
 walk_at "ra"
 by_cases hab:a=b
 ·rw [if_pos (by rw [hab])]
  exact rz (qp Fr.refl .non) (qs hab)
 rw [if_neg (by omega)]
 subst hr1
 obtain ⟨d1,d2⟩:=y9 hb
 refine zk fun r1 hr1=>?_
 walk_at "ra"
 refine ⟨_,_,r.ins,R.cl,R.nr,_,rfl,_,qh r.row,_,d1,?_⟩
 cases hy:row.getD b none with
 | some y=>
  rw [if_pos (by rw [qH];rfl)]
  exact rz (qp Fr.refl .non) (qf hab (by rw [hy];exact fun z=>nomatch z))
 | none=>
  rw [if_neg (by rw [qH];exact fun z=>nomatch z)]
  subst hr1
  walk_at "ra"
  refine ⟨_,r.ins,rfl,p,rw_,mv,(row,hd),ms,a,rfl,r,ha,ok,fun x hx=>?_,fun hx=>⟨_,qp Fr.refl .non,qe hab hy hx⟩⟩
  have r2:=r.to (row.set a none,hd) (zX ms x)
  refine ⟨_,_,r2.ins,R.cl,R.nr,_,rfl,_,rfl,_,r2.row,b,by rw [am,bp,qV (by omega) (by show (b:Int)<row.length;have:b<row.length:=hb;omega),aY],?_⟩
  rw [show ((row.set a none).map cA).set b (.d (.int x))=((row.set a none).set b (some x)).map cA from Dw _ b (some x),r2.setRow,r.again]
  exact ⟨_,_,r.fin _ _ .non,q hab hy x hx⟩
noncomputable def Ob (C cB:ay):xg:=fun xs M Q E=>∃ (p rw_ mv:ay) (s:ES) (ms:List Int) (b:Nat),xs=[.ref p,.d (.int b)]/\zW C M p rw_ mv s ms/\b<s.1.length/\OkM s ms.length /\
 (s.1.getD b none ≠ none->E cB (wrd "full") M)/\(s.1.getD b none=none->s.2=none->E cB (wrd "empty") M) /\
 (s.1.getD b none=none->∀ x,s.2=some x->Q (.d .non) (rmP C M p rw_ mv (s.1.set b (some x),none) (zX ms x)))
noncomputable abbrev Be:cJ:=(qF (top 11) 5)
theorem D2:zn ["self","b"] ["self","b"] (zd Be):=⟨rfl,rfl,rfl,by decide +kernel,rfl,by decide +kernel,by decide +kernel⟩
theorem GP {C:ay}(a:AtM K C "lay" "Room.lay" Be)(R:RTx K C)(B:Blt mg){cBadDeed:ay}(MX_BadDeed:MkX P w K mg base cBadDeed 1 1 fnW)(XG_BadDeed:mg "BadDeed"=some (.ref cBadDeed)):DmX P w K mg base C "lay" ["self","b"] 3 (ja (Ob C cBadDeed)):=by
 refine Ww (k:=2) a D2 (fun _ _ _ _ _ _=>Pn2_ fun _ _=>rfl) (fun xs M Q E h=>?_) (fun f cdv A outer s H HX OX MX E1 hr hD=>?_)
 ·obtain ⟨_,_,_,_,_,_,rfl,_⟩:=h;rfl
 have sc:=D2
 have hsl:=hsl
 have CL:=R.cl
 refine ⟨_,(zc (zS (zq jW (zv zI (qa (pv 0) rfl) (pv 1) (fun _ _=>rfl)) qi (zt _)) (zf (qy hD rfl MX_BadDeed hr rfl XG_BadDeed (za zC zb))) zx)
  (zc (zS (zq yD (qa (pv 0) rfl) qi (zt _)) (zf (qy hD rfl MX_BadDeed hr rfl XG_BadDeed (za zC zb))) zx)
  (zc (qE (qa (pv 0) rfl) (qM (qa (pv 0) rfl) (pv 1) zL))
  (zc (v0 (qa (pv 0) rfl) (qa (pv 0) rfl) ya zg QO zL)
  (zf (xy (pv 0) qi rfl)))))),?_⟩
 refine exX (by walk_at "sim") ?_
 rintro xs Q E0 rfl ⟨p,rw_,mv,⟨row,hd⟩,ms,b,rfl,r,hb,ok,qf,qe,q⟩
 rw [show zJ ["self","b"] [.ref p,.d (.int b)]=[some (.ref p),some (.d (.int b))] from rfl]
 obtain ⟨d1,d2⟩:=y9 hb
 refine zk fun r1 hr1=>?_
 walk_at "ra"
 refine ⟨_,_,r.ins,R.cl,R.nr,_,rfl,_,qh r.row,_,d1,?_⟩
 cases hy:row.getD b none with
 | some y=>
  rw [if_pos (by rw [qH];rfl)]
  exact rz (qp Fr.refl .non) (qf (by rw [hy];exact fun z=>nomatch z))
 | none=>
  rw [if_neg (by rw [qH];exact fun z=>nomatch z)]
  subst hr1
  refine zk fun r1 hr1=>?_
  walk_at "ra"
  refine ⟨_,_,r.ins,R.cl,R.nh,_,rfl,?_⟩
  cases hd with
  | none=>
   rw [if_pos (by rw [qH];rfl)]
   exact rz (qp Fr.refl .non) (qe hy rfl)
  | some x=>
   rw [if_neg (by rw [qH];exact fun z=>nomatch z)]
   obtain ⟨x0,x1⟩:=ok.2 x rfl
   obtain ⟨m1,m2⟩:=YY x0 x1
   subst hr1
   refine zk fun r1 hr1=>?_
   walk_at "ra"
   refine ⟨_,_,r.ins,R.cl,R.nh,_,rfl,_,_,r.ins,R.cl,R.nr,_,rfl,_,rfl,_,r.row,_,d2,?_⟩
   rw [show (row.map cA).set b (cA (some x))=(row.set b (some x)).map cA from Dw row b (some x),r.setRow]
   have r2:=r.to (row.set b (some x),some x) ms
   subst hr1
   refine zk fun r1 hr1=>?_
   walk_at "ra"
   refine ⟨_,_,r2.ins,R.cl,R.nm,_,rfl,_,_,r2.ins,R.cl,R.nh,_,rfl,_,jj r2.mvd,_,rfl,_,m1,_,rfl,_,rfl,_,_,rfl,r2.mvd,_,m2,?_⟩
   rw [F2,r2.setMv,r.again]
   have r3:=r.to (row.set b (some x),some x) (zX ms x)
   subst hr1
   walk_at "ra"
   refine ⟨_,_,r3.ins,R.cl,R.nh,eJ rfl,?_⟩
   rw [K9,show AV.d .non=cA none from rfl,r3.setHand,r.again]
   exact ⟨_,_,r.fin _ _ .non,q hy x rfl⟩
noncomputable abbrev yy:cJ:=top 6
theorem vN:zn ["thing","n"] ["thing","n"] (zd yy):=⟨rfl,rfl,rfl,by decide +kernel,rfl,by decide +kernel,by decide +kernel⟩
noncomputable def qU (d:Dat)(n:Int):Bool:=match d with
 | .int i=>decide (0<=i/\i<n)
 | _=>false
noncomputable def Kz:ASp:=fun xs M Q=>∃ (d:Dat) (n:Int),xs=[.d d,.d (.int n)]/\dp d<=100/\Q (.d (.bl (qU d n))) M
theorem K2 (a:At K mg "is_place" yy)(B:Blt mg):Df P w K mg base "is_place" ["thing","n"] 1 (cSp Kz):=by
 refine dfA (k:=0) a vN (fun _ _ _ _ _ _=>Pn2_ fun _ _=>rfl) (fun xs M Q h=>?_) (fun f cdv A outer s H E hr=>?_)
 ·obtain ⟨_,_,rfl,_⟩:=h;rfl
 have sc:=vN
 have hsl:=hsl
 refine ⟨_,(zc (zS (PW.pt (wy (j6 (zu yE rfl B.isinstance qS (za (pv 0) (za (xX (v:=.ty "bool") rfl B.bool Gp rfl) zb))) (fun _=>rfl)) (yl (xj (j6 (zu yE rfl B.isinstance qS (za (pv 0) (za (xX (v:=.ty "int") rfl B.int XO rfl) zb))) (fun _=>rfl)))))) (zf (zy kT)) zx)
  (zf (zy (E2 Iz Os zg (pv 0) (pv 1))))),?_⟩
 refine ex2 (by walk_at "sim") ?_
 rintro xs M Q ⟨d,n,rfl,hd,q⟩
 rw [show zJ ["thing","n"] [.d d,.d (.int n)]=[some (.d d),some (.d (.int n))] from rfl]
 have fin:=fun b=>qp (M0:=M) Fr.refl (.bl b)
 cases d with
 | non=>walk_at "ra";exact ⟨_,_,fin _,q⟩
 | bl b=>walk_at "ra";exact ⟨_,_,fin _,q⟩
 | str b=>walk_at "ra";exact ⟨_,_,fin _,q⟩
 | lst b=>walk_at "ra";exact ⟨_,_,fin _,q⟩
 | tup b=>walk_at "ra";exact ⟨_,_,fin _,q⟩
 | int i=>
  walk_at "ra"
  have q:Q (.d (.bl (decide (0<=i/\i<n)))) M:=q
  by_cases c:0<=i
  ·rw [if_pos c]
   rw [show decide (0<=i/\i<n)=decide (i<n) by simp [c]] at q
   walk_at "ra"
   exact ⟨_,_,fin _,q⟩
  ·rw [if_neg c]
   rw [show decide (0<=i/\i<n)=false by simp [c]] at q
   walk_at "ra"
   exact ⟨_,_,fin _,q⟩
 | ty _=>rw [dp] at hd;omega
 | rng _ _ _=>rw [dp] at hd;omega
 | scr _ _=>rw [dp] at hd;omega
noncomputable abbrev Fz:List (Key × V):=[(cv (au "swap"),.int 2),(cv (au "take"),.int 1),(cv (au "move"),.int 2),(cv (au "lay"),.int 1)]
noncomputable def j7 (w:Str):Option Int:=if w=au "swap" then some 2 else if w=au "take" then some 1 else if w=au "move" then some 2 else if w=au "lay" then some 1 else none
noncomputable def oD:Option Int->Dat
 | none=>.non
 | some x=>.int x
theorem La (w:Str):A9 ((wZ Fz (cv w)).getD .non)=some (oD (j7 w)):=by
 unfold j7 wZ
 by_cases c1:w=au "swap"
 ·subst c1;rfl
 rw [if_neg c1]
 by_cases c2:w=au "take"
 ·subst c2;rfl
 rw [if_neg c2]
 by_cases c3:w=au "move"
 ·subst c3;rfl
 rw [if_neg c3]
 by_cases c4:w=au "lay"
 ·subst c4;rfl
 rw [if_neg c4]
 have n:∀ x:Str,w ≠ x->¬ decide ((cv x:Key)=cv w)=true:=fun x h z=>h (cv.inj (of_decide_eq_true z)).symm
 simp only [gg,n _ c1,n _ c2,n _ c3,n _ c4,List.find?_nil]
 rfl
theorem QZ:∀ {l:List Dat} {n:Nat},dps l<=n->∀ d ∈ l,dp d<=n
 | a :: r,n,h,d,hd=>by
  rw [dps] at h
  rcases aO.mp hd with rfl | hd
  ·omega
  ·exact QZ (by omega) d hd
noncomputable def qG (x:Dat)(n:Int):Bool:=match x with
 | .tup (.str w :: ps)=>j7 w == some (ps.length:Int) && ps.all (qU · n)
 | _=>false
noncomputable def Vg:ASp:=fun xs M Q=>∃ (x:Dat) (n:Int),xs=[.d x,.d (.int n)]/\dp x<=40/\(∀ l,x=.tup l->l.length<=1000)/\Q (.d (.bl (qG x n))) M
noncomputable abbrev Zz:cJ:=top 10
theorem Z3:zn ["thing","n","word","part"] ["thing","n"] (zd Zz):=⟨rfl,rfl,rfl,by decide +kernel,rfl,by decide +kernel,by decide +kernel⟩
theorem WI (a:At K mg "is_deed" Zz)(B:Blt mg)(Ball:mg "all"=none)(D_is_place:Df P w K mg base "is_place" ["thing","n"] 1 (cSp Kz)){pa:ay}(KP:KD K w pa Fz)(MP:mg "PLACES_OF"=some (.ref pa)):Df P w K mg base "is_deed" ["thing","n"] 2 (cSp Vg):=by
 refine dfA (k:=1) a Z3 (fun _ _ _ _ _ _=>Pn2_ fun _ _=>rfl) (fun xs M Q h=>?_) (fun f cdv A outer s H E hr=>?_)
 ·obtain ⟨_,_,rfl,_⟩:=h;rfl
 have sc:=Z3
 have hsl:=hsl
 refine ⟨_,(zc (zS (PW.pt (wy (xj (j6 (zu yE rfl B.isinstance qS (za (pv 0) (za (xX (v:=.ty "tuple") rfl B.tuple jy rfl) zb))) (fun _=>rfl))) (yl (zq (qt hr.units) (zu zp rfl B.len qg (za (pv 0) zb)) zg (zt _))))) (zf (zy kT)) zx)
  (zc (zB (i:=2) sc.nd rfl (by first | exact bq rfl | exact bu rfl) (zv zI (pv 0) zg (fun _ _=>rfl)))
  (zc (zS (PW.pt (wy (xj (j6 (zu yE rfl B.isinstance qS (za (pv 2) (za (xX (v:=.ty "str") rfl B.str LS rfl) zb))) (fun _=>rfl))) (yl (zq (jH hr.units) (GC KP rfl MP (pv 2) ⟨rfl,rfl,rfl,rfl⟩) (zO ZL (zu zp rfl B.len qg (za (pv 0) zb)) zg) (zt _))))) (zf (zy kT)) zx)
  (zf (zy (zu (WZ rfl) rfl Ball LY (za (vb (ts:=[3]) rfl rfl (jJ (jl Yo (pv 0) (qP zg) jh)) (fun _ _ _ _=>(zw (i:=3) sc.nd rfl (by first | exact bq rfl | exact bu rfl))) (fun _ _ _ _=>kC) (fun _ _ _ _=>(zU D_is_place hr rfl (za (pv 3) (za (pv 1) zb))))) zb))))))),?_⟩
 refine ex2 (by walk_at "sim") ?_
 rintro xs M Q ⟨x,n,rfl,hd,hl,q⟩
 rw [show zJ ["thing","n","word","part"] [.d x,.d (.int n)]=[some (.d x),some (.d (.int n)),none,none] from rfl]
 have fin:=fun b=>qp (M0:=M) Fr.refl (.bl b)
 refine zk fun r1 hr1=>?_
 cases x with
 | non=>walk_at "ra";exact ⟨_,_,fin _,q⟩
 | bl b=>walk_at "ra";exact ⟨_,_,fin _,q⟩
 | str b=>walk_at "ra";exact ⟨_,_,fin _,q⟩
 | lst b=>walk_at "ra";exact ⟨_,_,fin _,q⟩
 | int i=>walk_at "ra";exact ⟨_,_,fin _,q⟩
 | ty _=>rw [dp] at hd;omega
 | rng _ _ _=>rw [dp] at hd;omega
 | scr _ _=>rw [dp] at hd;omega
 | tup l=>
  have hl:=hl l rfl
  walk_at "ra"
  cases l with
  | nil=>walk_at "ra";exact ⟨_,_,fin _,q⟩
  | cons w ps=>
   rw [if_neg (by rw [aK];omega)]
   subst hr1
   refine zk fun r1 hr1=>?_
   walk_at "ra"
   have a0:atI (AV.d w :: ps.map AV.d) 0=some (.d w):=by
    unfold atI
    rw [qV (by omega) (by rw [aK];omega)]
    rfl
   refine ⟨_,a0,?_⟩
   have dw:dps (w :: ps)<=39:=by rw [dp] at hd;omega
   have dwi:∀ d ∈ w :: ps,dp d<=39:=QZ dw
   subst hr1
   refine zk fun r1 hr1=>?_
   have no:(∀ t,w ≠ .str t)->Q (.d (.bl false)) M:=fun h=>by
    have e:qG (.tup (w :: ps)) n=false:=by
     unfold qG
     split
     ·rename_i w' ps' z
      cases z
      exact absurd rfl (h _)
     ·rfl
    rw [e] at q;exact q
   have dpw:=dwi w bJ
   cases w with
   | non=>walk_at "ra";exact ⟨_,_,fin _,no fun _ z=>nomatch z⟩
   | bl b=>walk_at "ra";exact ⟨_,_,fin _,no fun _ z=>nomatch z⟩
   | lst b=>walk_at "ra";exact ⟨_,_,fin _,no fun _ z=>nomatch z⟩
   | tup b=>walk_at "ra";exact ⟨_,_,fin _,no fun _ z=>nomatch z⟩
   | int i=>walk_at "ra";exact ⟨_,_,fin _,no fun _ z=>nomatch z⟩
   | ty _=>rw [dp] at dpw;omega
   | rng _ _ _=>rw [dp] at dpw;omega
   | scr _ _=>rw [dp] at dpw;omega
   | str t=>
    walk_at "ra"
    refine ⟨_,La t,?_,?_⟩
    ·cases j7 t <;> simp [oD,dp]
    have ee:eqD (oD (j7 t)) (.int (((ps.length+1:Nat):Int) - 1))=(j7 t == some (ps.length:Int)):=by
     cases j7 t with
     | none=>show eqD .non (.int _)=_;rw [AU];rfl
     | some k=>
      show eqD (.int k) (.int _)=_
      rw [Bv,show ((ps.length+1:Nat):Int) - 1=ps.length by omega]
      by_cases c:k=(ps.length:Int)
      ·simp [c]
      ·simp [c]
    rw [ee]
    have q:Q (.d (.bl (j7 t == some (ps.length:Int) && ps.all (qU · n)))) M:=q
    cases hp:j7 t == some (ps.length:Int) with
    | false=>
     rw [if_pos rfl]
     rw [hp,Bool.false_and] at q
     exact ⟨_,_,fin _,q⟩
    | true=>
     rw [if_neg (fun z=>nomatch z)]
     rw [hp,Bool.true_and] at q
     subst hr1
     walk_at "ra"
     have ec:yH (Dat.str t :: ps) (some 1) none=ps:=by
      rw [show (some 1:Option Int)=some ((1:Nat):Int) from rfl,vq];rfl
     rw [ec]
     refine ⟨?_,?_⟩
     ·rintro ⟨z,_⟩
      unfold HT.sIx at z
      simp at z
      try omega
     refine NQ (fun (o:Option AV)=>[some (.d (.tup (.str t :: ps))),some (.d (.int n)),some (.d (.str t)),o]) (fun x=>match x with | .d d=>.d (.bl (qU d n)) | x=>x) ⟨_,rfl⟩ trivial (by rw [am];rw [aK] at hl;omega) (fun o x Q hx q=>?_) fun o=>?_
     ·obtain ⟨d,hd,rfl⟩:=bn.mp hx
      walk_at "ra"
      exact ⟨d,n,rfl,by have:=dwi d (aZ _ hd);omega,q (some (.d d))⟩
     ·refine ⟨ps.map fun d=>.bl (qU d n),by rw [bv,<- zM (ps.map fun d=>.bl (qU d n)),bv];rfl,ps.map (qU · n),by rw [bv,bv];rfl,?_⟩
      rw [List.all_map]
      exact ⟨_,_,fin _,q⟩
theorem WL {pa:ay}{t1 t2 t3 t4 u1 u2 u3 u4:Tok}{ep:Nat}(lP:K.lookup pa=some ⟨.type "dict",none,.dict #[⟨iX w "swap",.str "swap" t1,.int 2 u1⟩,⟨iX w "take",.str "take" t2,.int 1 u2⟩,⟨iX w "move",.str "move" t3,.int 2 u3⟩,⟨iX w "lay",.str "lay" t4,.int 1 u4⟩] ep,#[]⟩)(nP:(pa == lN)=false):KD K w pa Fz:=by
 refine ⟨⟨_,_,lP,fun P=>?_⟩,nP⟩
 refine ⟨fun e he=>?_,[(cv "swap",.int 2 u1),(cv "take",.int 1 u2),(cv "move",.int 2 u3),(cv "lay",.int 1 u4)],?_,?_,by show ([cv (au "swap"),cv (au "take"),cv (au "move"),cv (au "lay")]:List Key).Nodup;decide +kernel⟩
 ·have he:e ∈ [_,_,_,_]:=mI.mpr he
  rcases aO.mp he with z | he
  ·exact ⟨cv "swap",by rw [z];rfl,by rw [z];rfl⟩
  rcases aO.mp he with z | he
  ·exact ⟨cv "take",by rw [z];rfl,by rw [z];rfl⟩
  rcases aO.mp he with z | he
  ·exact ⟨cv "move",by rw [z];rfl,by rw [z];rfl⟩
  rw [cK.mp he]
  exact ⟨cv "lay",rfl,rfl⟩
 ·exact .cons ⟨rfl,_,rfl⟩ (.cons ⟨rfl,_,rfl⟩ (.cons ⟨rfl,_,rfl⟩ (.cons ⟨rfl,_,rfl⟩ .nil)))
 ·exact .cons rfl rfl (.cons rfl rfl (.cons rfl rfl (.cons rfl rfl .nil)))
abbrev RS:=ES × List Int
noncomputable def xD (s:ES)(ms:List Int)(a b:Nat):Except String RS:=if a=b then .error "same" else match s.1.getD a none,s.1.getD b none with
 | some x,some y=>.ok (((s.1.set a (some y)).set b (some x),s.2),zX (zX ms x) y)
 | _,_=>.error "empty"
noncomputable def kY (s:ES)(ms:List Int)(a b:Nat):Except String RS:=if a=b then .error "same" else match s.1.getD b none with
 | some _=>.error "full"
 | none=>match s.1.getD a none with
  | some x=>.ok (((s.1.set a none).set b (some x),s.2),zX ms x)
  | none=>.error "empty"
noncomputable def xw (s:ES)(ms:List Int)(a:Nat):Except String RS:=match s.2 with
 | some _=>.error "full"
 | none=>match s.1.getD a none with
  | some x=>.ok ((s.1.set a none,some x),zX ms x)
  | none=>.error "empty"
noncomputable def ZA (s:ES)(ms:List Int)(b:Nat):Except String RS:=match s.1.getD b none with
 | some _=>.error "full"
 | none=>match s.2 with
  | some x=>.ok ((s.1.set b (some x),none),zX ms x)
  | none=>.error "empty"
noncomputable def iN:Dat->Nat
 | .int i=>i.toNat
 | _=>0
noncomputable def doR (s:ES)(ms:List Int)(x:Dat):Except String RS:=if qG x s.1.length=true then (match x with
  | .tup (.str w :: ps)=>if w=au "swap" then xD s ms (iN (ps.getD 0 .non)) (iN (ps.getD 1 .non)) else if w=au "take" then xw s ms (iN (ps.getD 0 .non)) else if w=au "move" then kY s ms (iN (ps.getD 0 .non)) (iN (ps.getD 1 .non)) else ZA s ms (iN (ps.getD 0 .non))
  | _=>.error "form") else .error "form"
theorem Qi {x:Dat} (h:qG x n=true):∃ (w:Str) (ps:List Dat),x=.tup (.str w :: ps)/\j7 w=some (ps.length:Int)/\∀ d ∈ ps,∃ k:Nat,d=.int k/\k<n:=by
 unfold qG at h
 split at h
 ·rename_i w ps
  rw [cS] at h
  refine ⟨w,ps,rfl,eq_of_beq h.1,fun d hd=>?_⟩
  have:=fP.mp h.2 d hd
  cases d with
  | int i=>
   have:decide (0<=i/\i<(n:Int))=true:=this
   have:=of_decide_eq_true this
   exact ⟨i.toNat,by rw [cb this.1],by omega⟩
  | _=>cases this
 ·cases h
theorem QJ {w:Str}{ps:List Dat}{n:Nat}(h:j7 w=some (ps.length:Int))(hp:∀ d ∈ ps,∃ k:Nat,d=.int k/\k<n)(hw:w=au "swap" \/ w=au "move"):∃ a b:Nat,ps=[.int a,.int b]/\a<n/\b<n:=by
 have e:j7 w=some 2:=by rcases hw with rfl | rfl <;> rfl
 rw [e] at h
 have hl:ps.length=2:=by injection h with h;omega
 match ps,hl with
 | [x,y],_=>
  obtain ⟨a,rfl,ha⟩:=hp x (by simp)
  obtain ⟨b,rfl,hb⟩:=hp y (by simp)
  exact ⟨a,b,rfl,ha,hb⟩
variable {ps:List Dat}
theorem Jg {w:Str} (h:j7 w=some (ps.length:Int))(hp:∀ d ∈ ps,∃ k:Nat,d=.int k/\k<n)(h1:w ≠ au "swap")(h2:w ≠ au "move"):∃ a:Nat,ps=[.int a]/\a<n:=by
 have e:j7 w=some 1 \/ j7 w=none:=by
  unfold j7
  rw [if_neg h1]
  by_cases c:w=au "take"
  ·rw [if_pos c];exact .inl rfl
  rw [if_neg c,if_neg h2]
  by_cases c:w=au "lay"
  ·rw [if_pos c];exact .inl rfl
  rw [if_neg c];exact .inr rfl
 rcases e with e | e <;> rw [e] at h
 ·have hl:ps.length=1:=by injection h with h;omega
  match ps,hl with
  | [x],_=>
   obtain ⟨a,rfl,ha⟩:=hp x (by simp)
   exact ⟨a,rfl,ha⟩
 ·cases h
noncomputable def aDo (C cB:ay):xg:=fun xs M Q E=>∃ (p rw_ mv:ay) (s:ES) (ms:List Int) (x:Dat),xs=[.ref p,.d x]/\zW C M p rw_ mv s ms/\OkM s ms.length/\dp x<=40/\(∀ l,x=.tup l->l.length<=1000) /\
 (∀ w,doR s ms x=.error w->E cB (wrd w) M)/\(∀ t,doR s ms x=.ok t->Q (.d .non) (rmP C M p rw_ mv t.1 t.2))
noncomputable abbrev LG:cJ:=(qF (top 11) 1)
theorem HP:zn ["self","thing","word"] ["self","thing"] (zd LG):=⟨rfl,rfl,rfl,by decide +kernel,rfl,by decide +kernel,by decide +kernel⟩
theorem MU {C:ay}(a:AtM K C "do" "Room.do" LG)(R:RTx K C)(B:Blt mg){cBadDeed:ay}(MX_BadDeed:MkX P w K mg base cBadDeed 3 1 fnW)(XG_BadDeed:mg "BadDeed"=some (.ref cBadDeed))(D_is_deed:Df P w K mg base "is_deed" ["thing","n"] 4 (cSp Vg))(DM_swap:DmX P w K mg base C "swap" ["self","a","b"] 4 (ja (ID C cBadDeed)))(DM_take:DmX P w K mg base C "take" ["self","a"] 4 (ja (BA C cBadDeed)))(DM_move:DmX P w K mg base C "move" ["self","a","b"] 4 (ja (Ih C cBadDeed)))(DM_lay:DmX P w K mg base C "lay" ["self","b"] 4 (ja (Ob C cBadDeed))):DmX P w K mg base C "do" ["self","thing"] 5 (ja (aDo C cBadDeed)):=by
 refine Ww (k:=4) a HP (fun _ _ _ _ _ _=>Pn2_ fun _ _=>rfl) (fun xs M Q E h=>?_) (fun f cdv A outer s H HX OX MX E1 hr hD=>?_)
 ·obtain ⟨_,_,_,_,_,_,rfl,_⟩:=h;rfl
 have sc:=HP
 have hsl:=hsl
 have CL:=R.cl
 refine ⟨_,(zc (zS (xj (j6 (zU D_is_deed hr rfl (za (pv 1) (za (zu zp rfl B.len qg (za (qa (pv 0) rfl) zb)) zb))) (fun _=>rfl))) (zf (qy hD rfl MX_BadDeed hr rfl XG_BadDeed (za zC zb))) zx)
  (zc (zB (i:=2) sc.nd rfl (by first | exact bq rfl | exact bu rfl) (zv zI (pv 1) zg (fun _ _=>rfl)))
  (zf (zS (zq (qt hr.units) (pv 2) zC (zt _)) (zf (zZ (jO CL DM_swap hr hD.passX (pv 0) (za (zv zI (pv 1) zg (fun _ _=>rfl)) (za (zv zI (pv 1) zg (fun _ _=>rfl)) zb))))) (zf (zS (zq (qt hr.units) (pv 2) zC (zt _)) (zf (zZ (jO CL DM_take hr hD.passX (pv 0) (za (zv zI (pv 1) zg (fun _ _=>rfl)) zb)))) (zf (zS (zq (qt hr.units) (pv 2) zC (zt _)) (zf (zZ (jO CL DM_move hr hD.passX (pv 0) (za (zv zI (pv 1) zg (fun _ _=>rfl)) (za (zv zI (pv 1) zg (fun _ _=>rfl)) zb))))) (zf (zZ (jO CL DM_lay hr hD.passX (pv 0) (za (zv zI (pv 1) zg (fun _ _=>rfl)) zb)))))))))))),?_⟩
 refine exX (by walk_at "sim") ?_
 rintro xs Q E0 rfl ⟨p,rw_,mv,⟨row,hd⟩,ms,x,rfl,r,ok,hdp,hl,qe,q⟩
 rw [show zJ ["self","thing","word"] [.ref p,.d x]=[some (.ref p),some (.d x),none] from rfl]
 refine zk fun r1 hr1=>?_
 walk_at "ra"
 refine ⟨_,_,r.ins,R.cl,R.nr,_,rfl,_,qh r.row,x,row.length,by rw [am],hdp,hl,_,rfl,?_⟩
 cases hf:qG x row.length with
 | false=>
  rw [if_pos rfl]
  exact rz (qp Fr.refl .non) (qe "form" (by unfold doR;rw [if_neg (by show ¬ qG x row.length=true;rw [hf];exact fun z=>nomatch z)]))
 | true=>
  rw [if_neg (fun z=>nomatch z)]
  obtain ⟨w,ps,rfl,hpl,hps⟩:=Qi hf
  have ed:doR (row,hd) ms (.tup (.str w :: ps))=if w=au "swap" then xD (row,hd) ms (iN (ps.getD 0 .non)) (iN (ps.getD 1 .non)) else if w=au "take" then xw (row,hd) ms (iN (ps.getD 0 .non)) else if w=au "move" then kY (row,hd) ms (iN (ps.getD 0 .non)) (iN (ps.getD 1 .non)) else ZA (row,hd) ms (iN (ps.getD 0 .non)):=by
   unfold doR;rw [if_pos (show qG (.tup (.str w :: ps)) row.length=true from hf)]
  rw [ed] at qe q
  subst hr1
  refine zk fun r1 hr1=>?_
  walk_at "ra"
  have a0:atI (AV.d (.str w) :: ps.map AV.d) 0=some (.d (.str w)):=by
   unfold atI
   rw [qV (by omega) (by rw [aK];omega)]
   rfl
  refine ⟨_,a0,?_⟩
  subst hr1
  walk_at "ra"
  have f0:=qp (M0:=MX) Fr.refl .non
  by_cases w1:w=au "swap"
  ·rw [if_pos w1] at qe q ⊢
   obtain ⟨a,b,rfl,ha,hb⟩:=QJ hpl hps (.inl w1)
   have qe:∀ w,xD (row,hd) ms a b=.error w->E0 cBadDeed (wrd w) MX:=qe
   have q:∀ t,xD (row,hd) ms a b=.ok t->Q (.d .non) (rmP C MX p rw_ mv t.1 t.2):=q
   refine ⟨_,r.ins,rfl,_,rfl,_,rfl,p,rw_,mv,(row,hd),ms,a,b,rfl,r,ha,hb,ok,fun hab=>⟨_,f0,qe "same" (by unfold xD;rw [if_pos hab])⟩,fun hab hh=>⟨_,f0,qe "empty" ?_⟩,fun hab x y hx hy=>⟨_,_,r.fin _ _ .non,q (_,_) ?_⟩⟩
   ·unfold xD
    rw [if_neg hab]
    dsimp only at hh ⊢
    rcases hh with hh | hh
    ·rw [hh]
    ·rw [hh];cases row.getD a none <;> rfl
   ·unfold xD
    rw [if_neg hab]
    dsimp only at hx hy ⊢
    rw [hx,hy];rfl
  rw [if_neg w1] at qe q ⊢
  by_cases w2:w=au "take"
  ·rw [if_pos w2] at qe q ⊢
   obtain ⟨a,rfl,ha⟩:=Jg hpl hps w1 (by rw [w2];decide +kernel)
   have qe:∀ w,xw (row,hd) ms a=.error w->E0 cBadDeed (wrd w) MX:=qe
   have q:∀ t,xw (row,hd) ms a=.ok t->Q (.d .non) (rmP C MX p rw_ mv t.1 t.2):=q
   refine ⟨_,r.ins,rfl,_,rfl,p,rw_,mv,(row,hd),ms,a,rfl,r,ha,ok,fun hh=>⟨_,f0,qe "full" ?_⟩,fun hh hx=>⟨_,f0,qe "empty" ?_⟩,fun hh x hx=>⟨_,_,r.fin _ _ .non,q (_,_) ?_⟩⟩
   ·unfold xw
    cases hd with
    | none=>exact absurd rfl hh
    | some y=>rfl
   ·unfold xw
    dsimp only at hh hx ⊢
    rw [hh];dsimp only;rw [hx]
   ·unfold xw
    dsimp only at hh hx ⊢
    rw [hh];dsimp only;rw [hx];rfl
  rw [if_neg w2] at qe q ⊢
  by_cases w3:w=au "move"
  ·rw [if_pos w3] at qe q ⊢
   obtain ⟨a,b,rfl,ha,hb⟩:=QJ hpl hps (.inr w3)
   have qe:∀ w,kY (row,hd) ms a b=.error w->E0 cBadDeed (wrd w) MX:=qe
   have q:∀ t,kY (row,hd) ms a b=.ok t->Q (.d .non) (rmP C MX p rw_ mv t.1 t.2):=q
   refine ⟨_,r.ins,rfl,_,rfl,_,rfl,p,rw_,mv,(row,hd),ms,a,b,rfl,r,ha,hb,ok,fun hab=>⟨_,f0,qe "same" (by unfold kY;rw [if_pos hab])⟩,fun hab hh=>⟨_,f0,qe "full" ?_⟩,fun hab hb' hx=>⟨_,f0,qe "empty" ?_⟩,fun hab hb' x hx=>⟨_,_,r.fin _ _ .non,q (_,_) ?_⟩⟩
   ·unfold kY
    rw [if_neg hab]
    dsimp only at hh ⊢
    cases z:row.getD b none with
    | none=>exact absurd z hh
    | some y=>rfl
   ·unfold kY
    rw [if_neg hab]
    dsimp only at hb' hx ⊢
    rw [hb'];dsimp only;rw [hx]
   ·unfold kY
    rw [if_neg hab]
    dsimp only at hb' hx ⊢
    rw [hb'];dsimp only;rw [hx];rfl
  rw [if_neg w3] at qe q ⊢
  obtain ⟨b,rfl,hb⟩:=Jg hpl hps w1 w3
  have qe:∀ w,ZA (row,hd) ms b=.error w->E0 cBadDeed (wrd w) MX:=qe
  have q:∀ t,ZA (row,hd) ms b=.ok t->Q (.d .non) (rmP C MX p rw_ mv t.1 t.2):=q
  refine ⟨_,r.ins,rfl,_,rfl,p,rw_,mv,(row,hd),ms,b,rfl,r,hb,ok,fun hh=>⟨_,f0,qe "full" ?_⟩,fun hh hx=>⟨_,f0,qe "empty" ?_⟩,fun hh x hx=>⟨_,_,r.fin _ _ .non,q (_,_) ?_⟩⟩
  ·unfold ZA
   dsimp only at hh ⊢
   cases z:row.getD b none with
   | none=>exact absurd z hh
   | some y=>rfl
  ·unfold ZA
   dsimp only at hh hx ⊢
   rw [hh];dsimp only;rw [hx]
  ·unfold ZA
   dsimp only at hh hx ⊢
   rw [hh];dsimp only;rw [hx];rfl
theorem Ip (c:Option Int):cA c=.d (oD c):=by cases c <;> rfl
theorem FT (row:List (Option Int)):pur (row.map cA)=some (row.map oD):=by
 rw [show row.map cA=(row.map oD).map AV.d by rw [bv];exact ef fun c _=>Ip c,zM]
noncomputable def Dv (C:ay):ASp:=fun xs M Q=>∃ (p rw_ mv:ay) (s:ES) (ms:List Int),xs=[.ref p]/\zW C M p rw_ mv s ms/\s.1.length<=1000/\Q (.d (.tup (s.1.map oD))) M
noncomputable abbrev Yj:cJ:=(qF (top 11) 7)
theorem Vf:zn ["self"] ["self"] (zd Yj):=⟨rfl,rfl,rfl,by decide +kernel,rfl,by decide +kernel,by decide +kernel⟩
theorem Vd (a:AtM K C "row_now" "Room.row_now" Yj)(R:RTx K C)(B:Blt mg):Dm P w K mg base C "row_now" ["self"] 1 (cSp (Dv C)):=by
 refine dmA (k:=0) a Vf (fun _ _ _ _ _ _=>Pn1_ fun _=>rfl) (fun xs M Q h=>?_) (fun f cdv A outer s H E hr=>?_)
 ·obtain ⟨_,_,_,_,_,rfl,_⟩:=h;rfl
 have sc:=Vf
 have hsl:=hsl
 have CL:=R.cl
 refine ⟨_,(zf (zy (zR jt rfl B.tuple jy (za (qa (pv 0) rfl) zb)))),?_⟩
 refine ex2 (by walk_at "sim") ?_
 rintro xs M Q ⟨p,rw_,mv,⟨row,hd⟩,ms,rfl,r,hl,q⟩
 rw [show zJ ["self"] [.ref p]=[some (.ref p)] from rfl]
 walk_at "ra"
 refine ⟨_,_,r.ins,R.cl,R.nr,_,rfl,_,qh r.row,_,FT _,?_⟩
 exact ⟨_,_,qp Fr.refl _,q⟩
noncomputable def DW (C:ay):ASp:=fun xs M Q=>∃ (p rw_ mv:ay) (s:ES) (ms:List Int),xs=[.ref p]/\zW C M p rw_ mv s ms/\ms.length<=1000/\Q (.d (.tup (ms.map .int))) M
noncomputable abbrev Yn:cJ:=(qF (top 11) 9)
theorem VT:zn ["self"] ["self"] (zd Yn):=⟨rfl,rfl,rfl,by decide +kernel,rfl,by decide +kernel,by decide +kernel⟩
theorem VD (a:AtM K C "moved_now" "Room.moved_now" Yn)(R:RTx K C)(B:Blt mg):Dm P w K mg base C "moved_now" ["self"] 1 (cSp (DW C)):=by
 refine dmA (k:=0) a VT (fun _ _ _ _ _ _=>Pn1_ fun _=>rfl) (fun xs M Q h=>?_) (fun f cdv A outer s H E hr=>?_)
 ·obtain ⟨_,_,_,_,_,rfl,_⟩:=h;rfl
 have sc:=VT
 have hsl:=hsl
 have CL:=R.cl
 refine ⟨_,(zf (zy (zR jt rfl B.tuple jy (za (qa (pv 0) rfl) zb)))),?_⟩
 refine ex2 (by walk_at "sim") ?_
 rintro xs M Q ⟨p,rw_,mv,⟨row,hd⟩,ms,rfl,r,hl,q⟩
 rw [show zJ ["self"] [.ref p]=[some (.ref p)] from rfl]
 walk_at "ra"
 refine ⟨_,_,r.ins,R.cl,R.nm,_,rfl,_,qh r.mvd,_,jw _,?_⟩
 exact ⟨_,_,qp Fr.refl _,q⟩
noncomputable def Az (C:ay):ASp:=fun xs M Q=>∃ (p rw_ mv:ay) (s:ES) (ms:List Int),xs=[.ref p]/\zW C M p rw_ mv s ms/\Q (.d (oD s.2)) M
noncomputable abbrev XA:cJ:=(qF (top 11) 8)
theorem Vx:zn ["self"] ["self"] (zd XA):=⟨rfl,rfl,rfl,by decide +kernel,rfl,by decide +kernel,by decide +kernel⟩
theorem VQ (a:AtM K C "hand_now" "Room.hand_now" XA)(R:RTx K C)(B:Blt mg):Dm P w K mg base C "hand_now" ["self"] 1 (cSp (Az C)):=by
 refine dmA (k:=0) a Vx (fun _ _ _ _ _ _=>Pn1_ fun _=>rfl) (fun xs M Q h=>?_) (fun f cdv A outer s H E hr=>?_)
 ·obtain ⟨_,_,_,_,_,rfl,_⟩:=h;rfl
 have sc:=Vx
 have hsl:=hsl
 have CL:=R.cl
 refine ⟨_,(zf (zy (qa (pv 0) rfl))),?_⟩
 refine ex2 (by walk_at "sim") ?_
 rintro xs M Q ⟨p,rw_,mv,⟨row,hd⟩,ms,rfl,r,q⟩
 rw [show zJ ["self"] [.ref p]=[some (.ref p)] from rfl]
 walk_at "ra"
 refine ⟨_,_,r.ins,R.cl,R.nh,_,rfl,?_⟩
 rw [Ip]
 exact ⟨_,_,qp Fr.refl _,q⟩
theorem K7 {p rw_ mv:ay}{s':ES}{ms':List Int}(t:zW C (rmP C M p rw_ mv s' ms') p rw_ mv s' ms')(d:Dat):vI M (rmP C M p rw_ mv s' ms') (.d d) (.d d) (rmP C M p rw_ mv s' ms'):=by
 refine ⟨fun q=>.inl rfl,fun q o e=>?_,.inl ⟨rfl,fun p z=>nomatch z⟩⟩
 by_cases c1:q=mv
 ·rw [c1,t.mvd] at e
  cases e
  exact .inr fun z hz=>absurd hz (y4 (ds:=ms'.map .int) (jw _) z)
 ·by_cases c2:q=rw_
  ·rw [c2,t.row] at e
   cases e
   refine .inr fun z hz=>?_
   obtain ⟨y,hy,hz⟩:=(show ∃ x ∈ s'.1.map cA,x.Has z from hz)
   obtain ⟨x,_,rfl⟩:=bn.mp hy
   cases x <;> exact (show False from hz).elim
  ·by_cases c3:q=p
   ·rw [c3,t.ins] at e
    cases e
    refine .inr fun z hz=>?_
    obtain ⟨y,hy,hz⟩:=(show ∃ x ∈ [AV.ref rw_,cA s'.2,AV.ref mv],x.Has z from hz)
    simp only [aO,cm,or_false] at hy
    rcases hy with rfl | rfl | rfl
    ·obtain rfl:rw_=z:=hz
     rw [t.row];exact fun z=>nomatch z
    ·cases h:s'.2 <;> rw [h] at hz <;> exact (show False from hz).elim
    ·obtain rfl:mv=z:=hz
     rw [t.mvd];exact fun z=>nomatch z
   ·refine .inl ?_
    unfold rmP at e
    rw [zl c1,zl c2,zl c3] at e
    exact e
theorem WM {a b y:AV}:jD (au "moved") y [(au "row",a),(au "hand",b)]=[(au "row",a),(au "hand",b),(au "moved",y)]:=by
 unfold jD;rw [if_neg (by decide +kernel)];unfold jD;rw [if_neg (by decide +kernel)];unfold jD;rfl
noncomputable def Qq (C:ay):ASp:=fun xs M Q=>∃ (p:ay) (n:Nat),xs=[.ref p,.d (.int n)]/\M p=some (.ins C [])/\n<=1000 /\
 ∀ rw_ mv,M rw_=none->M mv=none->rw_ ≠ mv->rw_ ≠ p->mv ≠ p->Q (.d .non) (rmP C M p rw_ mv ((zA 0 1 n).map some,none) (aG n 0))
noncomputable abbrev Q3:cJ:=(qF (top 11) 0)
theorem KG:zn ["self","n"] ["self","n"] (zd Q3):=⟨rfl,rfl,rfl,by decide +kernel,rfl,by decide +kernel,by decide +kernel⟩
theorem Kj (a:AtM K C "__init__" "Room.__init__" Q3)(R:RTx K C)(B:Blt mg):Dm P w K mg base C "__init__" ["self","n"] 1 (cSp (Qq C)):=by
 refine dmA (k:=0) a KG (fun _ _ _ _ _ _=>Pn2_ fun _ _=>rfl) (fun xs M Q h=>?_) (fun f cdv A outer s H E hr=>?_)
 ·obtain ⟨_,_,rfl,_⟩:=h;rfl
 have sc:=KG
 have hsl:=hsl
 have CL:=R.cl
 refine ⟨_,(zc (xy (pv 0) (jG (zR (yj rfl) rfl B.list kF (za (zR jY rfl B.range yT (za (pv 1) zb)) zb))) rfl)
  (zc (xy (pv 0) qi rfl)
  (zf (xy (pv 0) (jG (zO Zi (qA (za zg zb)) (pv 1))) rfl)))),?_⟩
 refine ex2 (by walk_at "sim") ?_
 rintro xs M Q ⟨p,n,rfl,hp,hn,q⟩
 rw [show zJ ["self","n"] [.ref p,.d (.int n)]=[some (.ref p),some (.d (.int n))] from rfl]
 refine zk fun r1 hr1=>?_
 walk_at "ra"
 refine ⟨_,_,_,rfl,mZ (by omega) (by omega) (by omega) (by omega),n,by rw [hR];split <;> omega,by omega,fun rw_ hrw _=>?_⟩
 have np:p ≠ rw_:=fun z=>by rw [z,hrw] at hp;cases hp
 refine ⟨C,[],by rw [zl np];exact hp,R.cl,R.nr,eJ rfl,?_⟩
 subst hr1
 refine zk fun r1 hr1=>?_
 walk_at "ra"
 refine ⟨_,_,ze,R.cl,R.nh,eJ rfl,?_⟩
 subst hr1
 walk_at "ra"
 rw [if_neg (show ¬ au "row"=au "hand" by decide +kernel)]
 refine ⟨by omega,by omega,by omega,by omega,fun mv hmv _=>?_⟩
 have n1:mv ≠ p:=fun z=>by rw [z,ze] at hmv;cases hmv
 rw [zl n1] at hmv
 have n2:mv ≠ rw_:=fun z=>by rw [z,ze] at hmv;cases hmv
 rw [zl n2] at hmv
 refine ⟨C,_,by rw [zl (Ne.symm n1),ze],R.cl,R.nm,eJ rfl,?_⟩
 rw [WM,DJ,aY]
 have e1:(MO.lst ((zA 0 1 n).map fun i=>AV.d (.int i)))=WO ((zA 0 1 n).map some):=by show MO.lst _=MO.lst _;rw [bv];rfl
 have e2:MO.lst (aG n (AV.d (.int 0)))=msA (aG n 0):=by show MO.lst _=MO.lst _;rw [iR]
 rw [e1,e2]
 have em:∀ (x y:MO),mup (mup (mup (mup M rw_ (WO ((zA 0 1 n).map some))) p x) mv (msA (aG n 0))) p (Ax C rw_ mv none)=rmP C M p rw_ mv ((zA 0 1 n).map some,none) (aG n 0):=fun x _=>by
  funext b
  unfold rmP mup
  by_cases c1:b=mv
  ·have:¬ b=p:=fun z=>n1 (c1.symm.trans z)
   simp [c1,n1]
  ·by_cases c2:b=rw_
   ·have:¬ b=p:=fun z=>np (z.symm.trans c2)
    simp [c1,c2,Ne.symm np,Ne.symm n2]
   ·by_cases c3:b=p <;> simp [c1,c2,c3,np,Ne.symm n1]
 show rtA M Q (.d .non) (mup (mup (mup (mup M rw_ (WO ((zA 0 1 n).map some))) p _) mv (msA (aG n 0))) p (Ax C rw_ mv none))
 rw [em _ (.lst [])]
 have t:zW C (rmP C M p rw_ mv ((zA 0 1 n).map some,none) (aG n 0)) p rw_ mv ((zA 0 1 n).map some,none) (aG n 0):=by
  unfold rmP
  exact ⟨by rw [zl (Ne.symm n1),zl np,ze],by rw [zl (Ne.symm n2),ze],ze,Ne.symm n2⟩
 exact ⟨_,_,K7 t .non,q rw_ mv hrw hmv (Ne.symm n2) (Ne.symm np) n1⟩
theorem MkX.mono {j k n:Nat}{fn:List V->List (Str × V)}(m:MkX P w K mg base C j n fn)(h:j<=k):MkX P w K mg base C k n fn:=
 let ⟨f,fd,ps,q,F,r⟩:=m
 ⟨f,fd,ps,q,F.mono h,r⟩
noncomputable abbrev Zp:cJ:=(qF (top 2) 0)
theorem Z9:zn ["self","word"] ["self","word"] (zd Zp):=⟨rfl,rfl,rfl,by decide +kernel,rfl,by decide +kernel,by decide +kernel⟩
theorem Nf {C f:ay}{fd:dz}(F:Fun K "__init__" "BadDeed.__init__" Zp f fd)(q:jp K C vG "ValueError.__new__" f=true)(hf:dh K (.ref f)=true)(S:ye K C "word"):MkX P w K mg base C 1 1 fnW:=by
 refine X8 (k:=0) F Z9 (fun _ _ _ _ _ _=>Pn2_ fun _ _=>rfl) q hf rfl (fun cdv A outer s H E=>?_)
 have sc:=Z9
 refine ⟨_,(zf (xZ (pv 0) (pv 1) rfl)),?_⟩
 intro a t0 us Q hl ha hq
 match us,hl with
 | [v],_=>
  show Qv _ _ _ _ _ _ _
  refine ⟨v,rfl,.ref a,rfl,a,C,t0,rfl,S,.inl ⟨ha,fun dx hd hne=>hq dx hd hne⟩⟩
noncomputable def Vs:ASp:=fun xs M Q=>∃ (b:ay) (many:Int) (N:Nat),xs=[.ref b,.d (.int many)]/\BxM M b N/\N<1000000000/\0<many/\many<1073741824/\∀ r M',BxS M M' b (N+1)->0<=r->r<many->Q (.d (.int r)) M'
theorem Gq (vs:List V)(H:Hp)(Q:VK)(E:XK)(h:cSp Vs vs H Q E):XX vs H Q E:=by
 obtain ⟨xs,M,O,Q',w,r,⟨b,many,N,rfl,hb,h1,h2,h3,q⟩,k⟩:=h
 obtain ⟨v,u,rfl,rv,ru⟩:=yq r
 rw [zQ ru,rv.1]
 refine ⟨b,many,N,rfl,hb.bx w,h1,h2,h3,fun r H' kp hb' r0 r1=>?_⟩
 obtain ⟨M',s,e,w'⟩:=Fj w hb kp hb'
 exact k _ _ _ _ _ (q r M' s r0 r1) e w' .int
noncomputable def Ox:ASp:=fun xs M Q=>∃ (x:AV) (k:Int) (cs:List Int),xs=[x,.d (.int k)]/\qN x M=some (cs.map fun i=>.d (.int i))/\0<=k/\k<=1000/\cs.length<=1000/\∀ p o,M p=none->BxM (mup M p o) p 0->Q (.ref p) (mup M p o)
theorem IJ (vs:List V)(H:Hp)(Q:VK)(E:XK)(h:cSp Ox vs H Q E):Ir vs H Q E:=by
 obtain ⟨xs,M,O,Q',w,r,⟨x,n,cs,rfl,hx,h1,h2,h3,q⟩,k⟩:=h
 obtain ⟨v,u,rfl,rv,ru⟩:=yq r
 rw [zQ ru]
 obtain ⟨a,rfl,ha⟩:=B3 w rv hx
 refine ⟨a,n,cs,rfl,ha,h1,h2,h3,fun p H' kp hp hb'=>?_⟩
 obtain ⟨x',y',z',g1,g2⟩:=hb'
 obtain ⟨e1,w1⟩:=Yx w kp
 have fr:=w.fresh hp
 have e2:=Ext.owned (O':=vY O p) (p:=p) w ⟨fun a o h e=>⟨(e1.fix a o h e).1,fun z=>z.elim (zm e hp) h⟩,fun a h e=>⟨(e1.prv a h e).1,.inr h,e⟩,fun _ h=>h⟩ hp (.lst ([x',y',z'].map fun i=>.d (.int i)))
 refine k _ _ _ _ _ (q p _ fr.2 ⟨x',y',z',ze,g2⟩) e2 (JX (O:=vY O p) (xs:=[V.int x',V.int y',V.int z']) ⟨fun a o h=>?_,fun a h=>.inr (w1.own a h),fun a h=>?_⟩ (.inl rfl) fr.2 g1 (JD [x',y',z'])) ⟨rfl,by rw [ze];exact fun z=>nomatch z⟩
 ·have e3:Ext H O M H' (vY O p) M:=⟨fun a o h e=>⟨(e1.fix a o h e).1,fun z=>z.elim (zm e hp) h⟩,fun a h e=>⟨(e1.prv a h e).1,.inr h,e⟩,fun _ h=>h⟩
  refine jb.ext e3 ?_ (w.mo a o h)
  obtain ⟨u,hu,_⟩:=w.al a (w.own a (qc h))
  rw [hu];exact kp a u (by simp) hu
 ·rcases h with rfl | h
  ·exact ⟨_,g1,fun xs z=>nomatch z⟩
  ·exact w1.al a h
noncomputable def YQ (K:az):ASp:=fun xs M Q=>∃ (m:Int) (ns:List Int),xs=[.d (.scr K ns),.d (.int m)]/\0<m/\m<=60/\ns.length<=63/\∀ cs:List Int,cs.length<=1000->Q (.d (.lst (cs.map .int))) M
theorem Aa (vs:List V)(H:Hp)(Q:VK)(E:XK)(h:cSp (YQ K) vs H Q E):K8 K vs H Q E:=by
 obtain ⟨xs,M,O,Q',w,r,⟨m,ns,rfl,h1,h2,h3,q⟩,k⟩:=h
 obtain ⟨v,u,rfl,rv,ru⟩:=yq r
 rw [zQ ru]
 obtain ⟨a,rfl,ha⟩:=F7 rv
 refine ⟨a,m,ns,rfl,ha,h1,h2,h3,fun p H' cs kp hp hc lc=>?_⟩
 obtain ⟨e1,w1⟩:=Yx w kp
 exact k _ _ _ _ _ (q cs lc) e1 w1 (Kh (w.fresh hp).1 hc)
noncomputable def YN:ASp:=fun xs M Q=>∃ (b:ay) (m:Int) (N:Nat),xs=[.ref b,.d (.int m)]/\BxM M b N/\N<100000000/\24<=m/\m<=1000/\∀ r M',BxS M M' b (N+10)->0<=r->r<=m->Q (.d (.int r)) M'
theorem W6 (vs:List V)(H:Hp)(Q:VK)(E:XK)(h:cSp YN vs H Q E):Kw vs H Q E:=by
 obtain ⟨xs,M,O,Q',w,r,⟨b,many,N,rfl,hb,h1,h2,h3,q⟩,k⟩:=h
 obtain ⟨v,u,rfl,rv,ru⟩:=yq r
 rw [zQ ru,rv.1]
 refine ⟨b,many,N,rfl,hb.bx w,h1,h2,h3,fun r H' kp hb' r0 r1=>?_⟩
 obtain ⟨M',s,e,w'⟩:=Fj w hb kp hb'
 exact k _ _ _ _ _ (q r M' s r0 r1) e w' .int
def OkX (x:Dat):Prop:=dp x<=40/\∀ l,x=.tup l->l.length<=1000
def OkP (x:Dat):Prop:=dp x<=41/\∀ l,(x=.tup l \/ x=.lst l)->l.length<=1000/\∀ d ∈ l,OkX d
structure OkS (x:Dat):Prop where
 d:dp x<=5
 s:Sh 500 x
 p:OkP x
theorem MD {x:Dat}(hd:dp x<=5)(h:∀ l,(x=.tup l \/ x=.lst l)->l.length<=1000/\∀ d ∈ l,∀ l',d=.tup l'->l'.length<=1000):OkP x:=by
 refine ⟨by omega,fun l hl=>⟨(h l hl).1,fun d hd'=>⟨?_,(h l hl).2 d hd'⟩⟩⟩
 have:dps l<=4:=by rcases hl with rfl | rfl <;> (rw [dp] at hd;omega)
 exact bf (QZ this d hd') (by decide)
noncomputable def dD:De->Dat
 | .swap a b=>.tup [.str (au "swap"),.int (a:Int),.int (b:Int)]
 | .take p=>.tup [.str (au "take"),.int (p:Int)]
 | .move p g=>.tup [.str (au "move"),.int (p:Int),.int (g:Int)]
 | .lay g=>.tup [.str (au "lay"),.int (g:Int)]
noncomputable def Ic:ASp:=fun xs M Q=>∃ (d:De) (st st':ES),xs=[.d (.lst (st.1.map oD)),.d (oD st.2),.d (dD d)]/\DoE d st st'/\st.1.length<=1000/\Q (.d (.tup [.lst (st'.1.map oD),oD st'.2])) M
noncomputable abbrev OH (row:List (Option Int)):MO:=.lst ((row.map oD).map AV.d)
theorem ku {a:Nat}{c:Option Int}(h:row[a]?=some c):atI ((row.map oD).map AV.d) (a:Int)=some (.d (oD c))/\ixN ((row.map oD).map AV.d).length (a:Int)=some a:=by
 have hl:a<row.length:=(aA.mp h).1
 have e:ixN ((row.map oD).map AV.d).length (a:Int)=some a:=by rw [am,am,qV (by omega) (by omega),aY]
 refine ⟨?_,e⟩
 unfold atI
 rw [e]
 show ((row.map oD).map AV.d)[a]?=_
 rw [aE,aE,h];rfl
theorem jN (row:List (Option Int))(a:Nat)(c:Option Int):((row.map oD).map AV.d).set a (.d (oD c))=((row.set a c).map oD).map AV.d:=by rw [eR,eR]
theorem FV {t u:AS} {v:AS}(h:∀ r,r=t->yX (wL c r u) v B D ρ M):yX (wL c t u) v B D ρ M:=h t rfl
theorem xV {t:AS} (h:∀ D',D'=D->t B D' ρ M):t B D ρ M:=h D rfl
theorem jI {i:Nat}{w w':Str} {t r:AS} (hρ:ρ[i]?=some (some (.d (.tup (.str w :: ps)))))(hw:decide (w=w')=false)(h:r B D ρ M):yX (wL (aB (aOp (Bb id) (aOp (aIx qK) (yf i) (aC (.int 0))) (aC (.str w')))) t xp) r B D ρ M:=by
 refine ⟨_,hρ,_,0,.d (.str w),rfl,rfl,?_,?_⟩
 ·unfold atI;rw [qV (by omega) (by rw [am,aK];omega)];rfl
 ·refine ⟨_,_,rfl,rfl,by rw [zY];omega,by rw [zY];omega,_,rfl,?_⟩
  show (if id (eqD (.str w) (.str w'))=true then _ else _)
  rw [vE,hw]
  exact h
theorem wb {i:Nat}{w w':Str} {t r:AS} (hρ:ρ[i]?=some (some (.d (.tup (.str w :: ps)))))(hw:decide (w=w')=true)(h:t B { nx:=fun ρ' M'=>r B D ρ' M',rt:=D.rt,bk:=D.bk,ct:=D.ct } ρ M):yX (wL (aB (aOp (Bb id) (aOp (aIx qK) (yf i) (aC (.int 0))) (aC (.str w')))) t xp) r B D ρ M:=by
 refine ⟨_,hρ,_,0,.d (.str w),rfl,rfl,?_,?_⟩
 ·unfold atI;rw [qV (by omega) (by rw [am,aK];omega)];rfl
 ·refine ⟨_,_,rfl,rfl,by rw [zY];omega,by rw [zY];omega,_,rfl,?_⟩
  show (if id (eqD (.str w) (.str w'))=true then _ else _)
  rw [vE,hw]
  exact h
noncomputable abbrev XZ:cJ:=top 35
theorem Y8:zn ["_law_row","_law_hand","_law_deed_here","_law_one","_law_other"] ["_law_row","_law_hand","_law_deed_here"] (zd XZ):=⟨rfl,rfl,rfl,by decide +kernel,rfl,by decide +kernel,by decide +kernel⟩
theorem GN (a:At K mg "_law_done" XZ)(B:Blt mg):Df P w K mg base "_law_done" ["_law_row","_law_hand","_law_deed_here"] 1 (cSp Ic):=by
 refine dfA (k:=0) a Y8 (fun _ _ _ _ _ _=>Pn3_ fun _ _ _=>rfl) (fun xs M Q h=>?_) (fun f cdv A outer s H E hr=>?_)
 ·obtain ⟨_,_,_,rfl,_⟩:=h;rfl
 have sc:=Y8
 have hsl:=hsl
 refine ⟨_,(zc (zB (i:=0) sc.nd rfl (by first | exact bq rfl | exact bu rfl) (jG (zR jK rfl B.list kF (za (pv 0) zb))))
  (zc (zS (zq (qt hr.units) (zv zI (pv 2) zg (fun _ _=>rfl)) zC (zt _)) (zc (IS (i:=3) (j:=4) rfl sc.nd rfl rfl (by decide) rfl rfl (za (zv zI (pv 0) (zv zI (pv 2) zg (fun _ _=>rfl)) (fun _ _=>rfl)) (za (zv zI (pv 0) (zv zI (pv 2) zg (fun _ _=>rfl)) (fun _ _=>rfl)) zb)) rfl)
  (zf (qE (qd (za (pv 4) (za (pv 3) zb))) (jg (K:=K) 2 rfl rfl (zK (qM (pv 0) (zv zI (pv 2) zg (fun _ _=>rfl)) zL) (zK (qM (pv 0) (zv zI (pv 2) zg (fun _ _=>rfl)) zL) jf)))))) zx)
  (zc (zS (zq (qt hr.units) (zv zI (pv 2) zg (fun _ _=>rfl)) zC (zt _)) (zf (qE (qd (za qi (za (zv zI (pv 0) (zv zI (pv 2) zg (fun _ _=>rfl)) (fun _ _=>rfl)) zb))) (jg (K:=K) 2 rfl rfl (zK (qM (pv 0) (zv zI (pv 2) zg (fun _ _=>rfl)) zL) (zK (zw (i:=1) sc.nd rfl (by first | exact bq rfl | exact bu rfl)) jf))))) zx)
  (zc (zS (zq (qt hr.units) (zv zI (pv 2) zg (fun _ _=>rfl)) zC (zt _)) (zf (qE (qd (za qi (za (zv zI (pv 0) (zv zI (pv 2) zg (fun _ _=>rfl)) (fun _ _=>rfl)) zb))) (jg (K:=K) 2 rfl rfl (zK (qM (pv 0) (zv zI (pv 2) zg (fun _ _=>rfl)) zL) (zK (qM (pv 0) (zv zI (pv 2) zg (fun _ _=>rfl)) zL) jf))))) zx)
  (zc (zS (zq (qt hr.units) (zv zI (pv 2) zg (fun _ _=>rfl)) zC (zt _)) (zf (qE (qd (za (pv 1) (za qi zb))) (jg (K:=K) 2 rfl rfl (zK (qM (pv 0) (zv zI (pv 2) zg (fun _ _=>rfl)) zL) (zK (zw (i:=1) sc.nd rfl (by first | exact bq rfl | exact bu rfl)) jf))))) zx)
  (VF 0 (zf (zy (qd (za (pv 0) (za (pv 1) zb))))))))))),?_⟩
 refine ex2 (by walk_at "sim") ?_
 rintro xs M Q ⟨d,⟨row,hd⟩,st',rfl,hdo,hl,q⟩
 rw [show zJ ["_law_row","_law_hand","_law_deed_here","_law_one","_law_other"] [.d (.lst (row.map oD)),.d (oD hd),.d (dD d)]=[some (.d (.lst (row.map oD))),some (.d (oD hd)),some (.d (dD d)),none,none] from rfl]
 refine zk fun r1 hr1=>?_
 walk_at "ra"
 intro p hp _
 have hl:row.length<=1000:=hl
 have frz:∀ (row':List (Option Int)) (hd':Option Int) dd,st'=(row',hd')->∀ u v,¬ Kn [u] 0 p->¬ Kn [v] 0 p->Bs 0 (Mo (IX (yG (yf 0) (yG (yf 1) JY)))) M { nx:=fun x M'=>rtA M Q (.d .non) M',rt:=rtA M Q } [some (.ref p),some (.d (oD hd')),some (.d dd),u,v] (mup M p (OH row')):=fun row' hd' dd e u v hu hv=>by
  subst e
  walk_at "ra"
  refine ⟨_,ze,_,zM _,hp,fun j hj z=>?_,fun q' o hq e=>?_,by omega,ZQ (fun q' hq'=>?_) q⟩
  ·match j with
   | 0=>exact hj rfl
   | 1=>cases z
   | 2=>cases z
   | 3=>exact hu z
   | 4=>exact hv z
   | n+5=>cases z
  ·rw [zl hq] at e;exact .inl e
  ·have hne:q' ≠ p:=fun z=>hq' (by rw [z];exact hp)
   rw [jr hne,zl hne]
 subst hr1
 cases hdo with
 | @swap a b row hd x y ne h1 h2=>
  rw [show dD (.swap a b)=.tup [.str (au "swap"),.int (a:Int),.int (b:Int)] from rfl]
  refine wb rfl (by decide +kernel) ?_
  refine xV fun D hD=>?_
  walk_at "ra"
  obtain ⟨a1,a2⟩:=ku h1
  obtain ⟨b1,b2⟩:=ku h2
  refine ⟨_,rfl,_,qh ze,_,rfl,_,a1,_,rfl,_,qh ze,_,rfl,_,b1,by omega,_,rfl,_,_,rfl,ze,a,a2,_,rfl,_,_,rfl,ze,b,by rw [bp];exact b2,?_⟩
  rw [jN,jN]
  subst hD
  refine jI rfl (by decide +kernel) ?_
  refine jI rfl (by decide +kernel) ?_
  refine jI rfl (by decide +kernel) ?_
  exact frz _ _ _ rfl _ _ (fun z=>by cases x <;> cases z) (fun z=>by cases y <;> cases z)
 | @take a row x h1=>
  rw [show dD (.take a)=.tup [.str (au "take"),.int (a:Int)] from rfl]
  refine jI rfl (by decide +kernel) ?_
  refine wb rfl (by decide +kernel) ?_
  refine xV fun D hD=>?_
  walk_at "ra"
  obtain ⟨a1,a2⟩:=ku h1
  refine ⟨_,rfl,_,qh ze,_,rfl,_,a1,by omega,_,rfl,_,_,rfl,ze,a,a2,?_⟩
  rw [show ((row.map oD).map AV.d).set a (AV.d .non)=_ from jN row a none]
  subst hD
  refine jI rfl (by decide +kernel) ?_
  refine jI rfl (by decide +kernel) ?_
  exact frz _ (some x) _ rfl _ _ (fun z=>nomatch z) (fun z=>nomatch z)
 | @move a b row hd x h1 h2=>
  rw [show dD (.move a b)=.tup [.str (au "move"),.int (a:Int),.int (b:Int)] from rfl]
  refine jI rfl (by decide +kernel) ?_
  refine jI rfl (by decide +kernel) ?_
  refine wb rfl (by decide +kernel) ?_
  refine xV fun D hD=>?_
  walk_at "ra"
  obtain ⟨a1,a2⟩:=ku h1
  obtain ⟨b1,b2⟩:=ku h2
  refine ⟨_,rfl,_,qh ze,_,rfl,_,a1,by omega,_,rfl,_,_,rfl,ze,a,a2,_,rfl,_,_,rfl,ze,b,by rw [bp];exact b2,?_⟩
  rw [show ((row.map oD).map AV.d).set a (AV.d .non)=_ from jN row a none,jN]
  subst hD
  refine jI rfl (by decide +kernel) ?_
  exact frz _ _ _ rfl _ _ (fun z=>nomatch z) (fun z=>nomatch z)
 | @lay g row x h1=>
  rw [show dD (.lay g)=.tup [.str (au "lay"),.int (g:Int)] from rfl]
  refine jI rfl (by decide +kernel) ?_
  refine jI rfl (by decide +kernel) ?_
  refine jI rfl (by decide +kernel) ?_
  refine wb rfl (by decide +kernel) ?_
  refine xV fun D hD=>?_
  walk_at "ra"
  obtain ⟨a1,a2⟩:=ku h1
  refine ⟨by omega,_,rfl,_,_,rfl,ze,g,a2,?_⟩
  rw [jN]
  subst hD
  exact frz _ none _ rfl _ _ (fun z=>nomatch z) (fun z=>nomatch z)
theorem JL {a:Nat}(h:a<row.length):atI ((row.map oD).map AV.d) (a:Int)=some (.d (oD (row.getD a none))):=by
 unfold atI
 rw [am,am,qV (by omega) (by omega),aY]
 show ((row.map oD).map AV.d)[a]?=_
 rw [aE,aE,aj h,af,aj h];rfl
noncomputable def vC:Option Int->V
 | none=>.non
 | some x=>.int x
theorem N6 (c:Option Int):flD (oD c)=some (vC c):=by cases c <;> rfl
theorem LA (cs:List (Option Int)):ZX (cs.map fun c=>AV.d (oD c))=some (cs.map vC):=by
 induction cs with
 | nil=>rfl
 | cons c cs ih=>
  show (match flD (oD c),ZX (cs.map fun c=>AV.d (oD c)) with | some v,some l=>some (v :: l) | _,_=>none)=_
  rw [N6,ih];rfl
noncomputable def Iv:ASp:=fun xs M Q=>∃ (b:ay) (row:List (Option Int)) (h:Option Int) (N:Nat),xs=[.ref b,.d (.lst (row.map oD)),.d (oD h)]/\BxM M b N/\N<2000000/\row.length<=1000 /\
 ∀ M',BxS M M' b (N+10)->Q (.d .non) M'/\∀ d t,DoE d (row,h) t->Q (.d (dD d)) M'
noncomputable def vX (p:Option Int->Bool)(row:List (Option Int)):List Nat:=(bI row.length).filter fun k=>p (row.getD k none)
noncomputable abbrev niA (l:List Nat):List AV:=l.map fun k:Nat=>AV.d (.int k)
theorem VI {p:Option Int->Bool} (h:k ∈ vX p row):∃ c,row[k]?=some c/\p c=true:=by
 obtain ⟨h1,h2⟩:=ik.mp h
 have hk:=df.mp h1
 refine ⟨row.getD k none,?_,h2⟩
 rw [af,aj hk];rfl
theorem MA (p:Option Int->Bool)(row:List (Option Int)):(vX p row).Nodup:=dM.sublist List.filter_sublist gZ
variable {l:List Nat} {r:Int}
theorem AD (h0:0<=r)(h1:r<l.length):∃ k,k ∈ l/\l[r.toNat]?=some k/\atI (niA l) r=some (.d (.int k)):=by
 have hr:r.toNat<l.length:=by omega
 refine ⟨l[r.toNat],bo hr,aj hr,?_⟩
 unfold atI
 rw [qV h0 (by rw [am];exact h1)]
 show (niA l)[r.toNat]?=_
 rw [aE,aj hr];rfl
theorem DE {r t:Int}(h0:0<=r)(h1:r<l.length)(t0:0<=t)(t1:t<(l.length:Int) - 1):∃ j k,j ≠ r.toNat/\l[j]?=some k/\atI (niA l) (r - 1 - t)=some (.d (.int k)):=by
 by_cases c:0<=r - 1 - t
 ·obtain ⟨k,_,e1,e2⟩:=AD (l:=l) c (by omega)
  exact ⟨(r - 1 - t).toNat,k,by omega,e1,e2⟩
 ·have hj:(r - 1 - t+l.length).toNat<l.length:=by omega
  refine ⟨(r - 1 - t+l.length).toNat,l[(r - 1 - t+l.length).toNat],by omega,aj hj,?_⟩
  unfold atI ixN
  rw [am,if_neg c,if_pos (by omega)]
  show (niA l)[(r - 1 - t+(l.length:Int)).toNat]?=_
  rw [aE,aj hj];rfl
theorem KM {p : Option Int -> Bool}{row : List (Option Int)}{at_ : AT}{N : List AV -> ASt -> MH -> Prop}{M : MH}{R : Option AV -> ASt}{u : Option AV}(hl : row.length <= 1000)
    (ht:∀ (o:Option AV) (k:Nat) (Q:Bool->MH->Prop),k<row.length->Q (p (row.getD k none)) M->at_ ((R o).set 7 (some (.d (.int k)))) M Q) (hv:∀ o (y:AV),(R o).set 7 (some y)=R (some y)) (h7:∀ (y:AV),(R (some y))[7]?=some (some y)) (hN:∀ o,N (niA (vX p row)) (R o) M) :
    Xd (yo 7) at_ (yS (yf 7)) (fun _=>True) N (Js 0 1 row.length) [] (R u) M:=by
  refine QF R (fun y=>match y with | .d (.int k)=>p (row.getD k.toNat none) | _=>false) id ⟨_,rfl⟩ trivial (by rw [yP];omega) (fun o y Q hy q=>?_) fun o=>?_
  · obtain ⟨i,hi⟩:=bQ hy
    obtain ⟨hk,rfl⟩:=yU hi
    rw [show (0:Int)+(i:Int) * 1=(i:Int) by omega] at q ⊢
    show at_ _ _ _
    refine ht o i _ hk ?_
    have q:Q (if p (row.getD (i:Int).toNat none)=true then some (id (AV.d (.int i))) else none) (R (some (.d (.int i)))) M:=q (some (.d (.int i)))
    rw [aY] at q
    cases hp:p (row.getD i none) with
    | true=>
      rw [if_pos rfl]
      refine ⟨_,by rw [hv];exact h7 _,?_⟩
      rw [hv]
      rw [hp,if_pos rfl] at q;exact q
    | false=>
      rw [if_neg (fun z=>nomatch z),hv]
      rw [hp,if_neg (fun z=>nomatch z)] at q;exact q
  · have e : ((Js 0 1 row.length).filter (fun y => match y with | .d (.int k) => p (row.getD k.toNat none) | _ => false)).map id = niA (vX p row) := by
      rw [oz]
      unfold Js vX niA
      rw [List.filter_map]
      have:((fun y=>match y with | AV.d (.int k)=>p (row.getD k.toNat none) | _=>false) ∘ fun i:Nat=>AV.d (.int (0+(i:Int) * 1)))=fun k=>p (row.getD k none):=by
        funext k
        show p (row.getD (0+(k:Int) * 1).toNat none)=_
        rw [show (0+(k:Int) * 1).toNat=k by omega]
      rw [this]
      exact ef fun k _=>by rw [show (0:Int)+(k:Int) * 1=(k:Int) by omega]
    rw [e];exact hN o
theorem Pd (l:List Dat):eqD (.lst l) (.lst [])=l.isEmpty:=by cases l <;> simp [eqD,kI]
theorem tNe {i:Nat}{x:AV}{l:List Dat} (h:ρ[i]?=some (some x))(hx:Ji x M=some (.lst l))(hd:dp (.lst l)<=40):Tst (aB (aOp (Bb not) (yf i) (aFz (Mg JY)))) ρ M (!l.isEmpty):=fun Q q=>
 ⟨_,h,cn _,_,rfl,_,_,hx,rfl,hd,by simp [dp,dps],_,rfl,by rw [Pd];exact q⟩
theorem yY (l:List Nat):dp (.lst (l.map fun k:Nat=>Dat.int k))<=40:=by
 rw [dp]
 have:=xE (l:=l.map fun k:Nat=>Dat.int k) (n:=0) fun d hd=>by obtain ⟨k,_,rfl⟩:=bn.mp hd;rw [Jw];omega
 omega
variable {N:Nat}
theorem VS {i:Nat} (h0:ρ[0]?=some (some (.ref b)))(hi:ρ[i]?=some (some (.d (.lst (l.map fun k:Nat=>Dat.int k)))))(hb:BxM M b N)(hN:N<10000000)(hl:l.length<=1000)(h:l ≠ [])(k:∀ k ∈ l,∀ M',BxS M M' b (N+1)->Q (.d (.int (k:Nat))) M') :
  aOp (aIx qK) (yf i) (Y9 Vs (yG (yf 0) (yG (aCB Lj (yG (yf i) JY)) JY))) ρ M Q:=by
 have e:(l.map fun k:Nat=>Dat.int k).map AV.d=niA l:=by rw [bv];rfl
 have hp:0<l.length:=List.length_pos_iff.mpr h
 refine ⟨_,hi,_,h0,_,hi,_,_,rfl,rfl,b,_,N,rfl,hb,by omega,by rw [e,am];omega,by rw [e,am];omega,fun r M' s r0 r1=>?_⟩
 rw [e,am] at r1
 obtain ⟨j,hj,_,a⟩:=AD r0 r1
 exact ⟨_,_,_,rfl,rfl,by rw [e];exact a,k j hj M' s⟩
theorem wV (h:l ≠ []):(!(l.map fun k:Nat=>Dat.int k).isEmpty)=true:=by cases l;exact absurd rfl h;rfl
theorem KN {l:List AV}(h:M p=some (.lst l)):qN (.ref p) M=some l:=by unfold qN;dsimp only;rw [h]
structure DIn (M M':MH)(b p:ay)(row:List (Option Int))(hd:Option Int)(N j:Nat)(ds:List De):Prop where
 sb:SB M M' b (N+2 * j)
 p0:M p=none
 pb:p ≠ b
 at_:M' p=some (.lst ((ds.map dD).map .d))
 len:ds.length<=2 * j
 ok:∀ d ∈ ds,∃ t,DoE d (row,hd) t
variable {M':MH} {hd:Option Int} {ds:List De}
theorem DIn.mono {N j k:Nat} (I:DIn M M' b p row hd N j ds)(h:j<=k)(_:j<=k):DIn M M' b p row hd N k ds:=⟨I.sb.mono (by omega),I.p0,I.pb,I.at_,by have:=I.len;omega,I.ok⟩
structure Ai (M M':MH)(b p:ay)(row:List (Option Int))(hd:Option Int)(N j:Nat)(ds:List De):Prop where
 sb:SB M M' b N
 p0:M p=none
 pb:p ≠ b
 at_:M' p=some (.lst ((ds.map dD).map .d))
 len:ds.length<=2 * j
 ok:∀ d ∈ ds,∃ t,DoE d (row,hd) t
theorem DIn.go {M M' M2:MH} {N j N':Nat} (I:DIn M M' b p row hd N j ds)(s:BxS M' M2 b N'):Ai M M2 b p row hd N' j ds:=⟨I.sb.go s,I.p0,I.pb,by rw [s.at I.pb];exact I.at_,I.len,I.ok⟩
theorem Ai.go {M M' M2:MH} {N j N':Nat} (I:Ai M M' b p row hd N j ds)(s:BxS M' M2 b N'):Ai M M2 b p row hd N' j ds:=⟨I.sb.go s,I.p0,I.pb,by rw [s.at I.pb];exact I.at_,I.len,I.ok⟩
theorem Ai.add {N N0 j:Nat} (I:Ai M M' b p row hd N j ds) (h:DoE d (row,hd) t)(hn:N<=N0+2 * (j+1)):DIn M (mup M' p (.lst ((ds.map dD).map .d ++ [.d (dD d)]))) b p row hd N0 (j+1) (ds ++ [d]):=by
 refine ⟨(I.sb.put I.p0 I.pb _).mono hn,I.p0,I.pb,?_,by rw [bg];have:=I.len;show _+1<=_;omega,fun e he=>?_⟩
 ·rw [aQ,aQ];exact ze
 ·rcases cO.mp he with he | he
  ·exact I.ok e he
  ·rw [cK.mp he];exact ⟨t,h⟩
noncomputable abbrev Yi:cJ:=top 34
theorem Vr:zn ["_law_box_here","_law_row","_law_hand","_law_there","_law_free","_law_some","_law_one","_law_k"] ["_law_box_here","_law_row","_law_hand"] (zd Yi):=⟨rfl,rfl,rfl,by decide +kernel,rfl,by decide +kernel,by decide +kernel⟩
theorem GW (a:At K mg "_law_deed" Yi)(B:Blt mg)(D_law_take:Df P w K mg base "_law_take" ["_law_box_here","_law_many"] 1 (cSp Vs)):Df P w K mg base "_law_deed" ["_law_box_here","_law_row","_law_hand"] 2 (cSp Iv):=by
 refine dfA (k:=1) a Vr (fun _ _ _ _ _ _=>Pn3_ fun _ _ _=>rfl) (fun xs M Q h=>?_) (fun f cdv A outer s H E hr=>?_)
 ·obtain ⟨_,_,_,_,rfl,_⟩:=h;rfl
 have sc:=Vr
 have hsl:=hsl
 refine ⟨_,(zc (JB (j:=3) rfl sc.nd rfl (by first | exact bq rfl | exact bu rfl) (ts:=[7]) rfl (kj rfl B.range (za (zu zp rfl B.len qg (za (pv 1) zb)) zb)) (fun _ _ _ _=>(zw (i:=7) sc.nd rfl (by first | exact bq rfl | exact bu rfl))) (fun _ _ _ _=>Jp (zq jW (zv (wO (K:=K) rfl) (pv 1) (pv 7) (fun _ _=>rfl)) qi (zt _))) (fun _ _ _ _=>(pv 7)))
  (zc (JB (j:=4) rfl sc.nd rfl (by first | exact bq rfl | exact bu rfl) (ts:=[7]) rfl (kj rfl B.range (za (zu zp rfl B.len qg (za (pv 1) zb)) zb)) (fun _ _ _ _=>(zw (i:=7) sc.nd rfl (by first | exact bq rfl | exact bu rfl))) (fun _ _ _ _=>Jp (zq yD (zv (wO (K:=K) rfl) (pv 1) (pv 7) (fun _ _=>rfl)) qi (zt _))) (fun _ _ _ _=>(pv 7)))
  (zc (zB (i:=5) sc.nd rfl (by first | exact bq rfl | exact bu rfl) (jG (qA zb)))
  (zc (zS (zq QD (zu zp rfl B.len qg (za (pv 3) zb)) zg (zt _)) (zc (zB (i:=6) sc.nd rfl (by first | exact bq rfl | exact bu rfl) (zU D_law_take hr rfl (za (pv 0) (za (zu zp rfl B.len qg (za (pv 3) zb)) zb))))
  (zf (zZ (kl bB bV bW qD (pv 5) (za (qd (za zC (za (zv zI (pv 3) (pv 6) (fun _ _=>rfl)) (za (zv zI (pv 3) (zO ZL (zO ZL (pv 6) zg) (zU D_law_take hr rfl (za (pv 0) (za (zO ZL (zu zp rfl B.len qg (za (pv 3) zb)) zg) zb)))) (fun _ _=>rfl)) zb)))) zb))))) zx)
  (zc (zS (PW.pt (vF (zq yD (pv 2) qi (zt _)) (xQ (zq (jH hr.units) (pv 3) (qA zb) (zt _))))) (zf (zZ (kl bB bV bW qD (pv 5) (za (qd (za zC (za (zv zI (pv 3) (zU D_law_take hr rfl (za (pv 0) (za (zu zp rfl B.len qg (za (pv 3) zb)) zb))) (fun _ _=>rfl)) zb))) zb)))) zx)
  (zc (zS (PW.pt (vF (zq (jH hr.units) (pv 3) (qA zb) (zt _)) (xQ (zq (jH hr.units) (pv 4) (qA zb) (zt _))))) (zf (zB (i:=5) sc.nd rfl (by first | exact bq rfl | exact bu rfl) (jG (zO BN (pv 5) (zO Zi (qA (za (qd (za zC (za (zv zI (pv 3) (zU D_law_take hr rfl (za (pv 0) (za (zu zp rfl B.len qg (za (pv 3) zb)) zb))) (fun _ _=>rfl)) (za (zv zI (pv 4) (zU D_law_take hr rfl (za (pv 0) (za (zu zp rfl B.len qg (za (pv 4) zb)) zb))) (fun _ _=>rfl)) zb)))) zb)) zg))))) zx)
  (zc (zS (PW.pt (vF (zq jW (pv 2) qi (zt _)) (xQ (zq (jH hr.units) (pv 4) (qA zb) (zt _))))) (zf (zZ (kl bB bV bW qD (pv 5) (za (qd (za zC (za (zv zI (pv 4) (zU D_law_take hr rfl (za (pv 0) (za (zu zp rfl B.len qg (za (pv 4) zb)) zb))) (fun _ _=>rfl)) zb))) zb)))) zx)
  (zf (zy (Di (zq (jH hr.units) (pv 5) (qA zb) (zt _)) (zv zI (pv 5) (zU D_law_take hr rfl (za (pv 0) (za (zu zp rfl B.len qg (za (pv 5) zb)) zb))) (fun _ _=>rfl)) qi)))))))))),?_⟩
 refine ex2 (by walk_at "sim") ?_
 rintro xs M Q ⟨b,row,hd,N,rfl,hb,hN,hl,q⟩
 rw [show zJ ["_law_box_here","_law_row","_law_hand","_law_there","_law_free","_law_some","_law_one","_law_k"] [.ref b,.d (.lst (row.map oD)),.d (oD hd)]=[some (.ref b),some (.d (.lst (row.map oD))),some (.d (oD hd)),none,none,none,none,none] from rfl]
 have sb:=SB.refl hb
 refine zk fun r1 hr1=>?_
 walk_at "ra"
 refine ⟨by omega,by omega,?_⟩
 rw [aY]
 have pn:∀ l:List Nat,pur (niA l)=some (l.map fun k:Nat=>Dat.int k):=fun l=>by
  unfold niA;rw [show (fun k:Nat=>AV.d (.int k))=AV.d ∘ fun k:Nat=>Dat.int k from rfl,<- bv];exact zM _
 refine KM (p:=fun c=>c.isSome) (R:=fun o=>[some (.ref b),some (.d (.lst (row.map oD))),some (.d (oD hd)),none,none,none,none,o]) hl (fun o k Q hk q=>?_) (fun _ _=>rfl) (fun _=>rfl) fun o=>⟨_,pn _,?_⟩
 ·refine ⟨_,rfl,_,rfl,_,_,_,rfl,rfl,JL hk,rfl,_,rfl,?_⟩
  cases h:row.getD k none <;> rw [h] at q <;> exact q
 subst hr1
 refine zk fun r1 hr1=>?_
 walk_at "ra"
 refine ⟨by omega,by omega,?_⟩
 rw [aY]
 refine KM (p:=fun c=>c.isNone) (R:=fun o=>[some (.ref b),some (.d (.lst (row.map oD))),some (.d (oD hd)),some (.d (.lst ((vX (fun c=>c.isSome) row).map fun k:Nat=>Dat.int k))),none,none,none,o]) hl (fun o k Q hk q=>?_) (fun _ _=>rfl) (fun _=>rfl) fun o=>⟨_,pn _,?_⟩
 ·refine ⟨_,rfl,_,rfl,_,_,_,rfl,rfl,JL hk,rfl,_,rfl,?_⟩
  cases h:row.getD k none <;> rw [h] at q <;> exact q
 have hth:∀ k ∈ vX (fun c=>c.isSome) row,∃ x,row[k]?=some (some x):=fun k hk=>by
  obtain ⟨c,h1,h2⟩:=VI hk
  cases c with
  | none=>cases h2
  | some x=>exact ⟨x,h1⟩
 have hfr:∀ k ∈ vX (fun c=>c.isNone) row,row[k]?=some none:=fun k hk=>by
  obtain ⟨c,h1,h2⟩:=VI hk
  cases c with
  | none=>exact h1
  | some x=>cases h2
 have ndt:=MA (fun c=>c.isSome) row
 have lth:(vX (fun c=>c.isSome) row).length<=1000:=bf (eI _ _) (by rw [cq];exact hl)
 have lfr:(vX (fun c=>c.isNone) row).length<=1000:=bf (eI _ _) (by rw [cq];exact hl)
 generalize vX (fun c=>c.isSome) row=th at *
 generalize vX (fun c=>c.isNone) row=fr at *
 subst hr1
 refine zk fun r1 hr1=>?_
 walk_at "ra"
 intro p hp _
 obtain ⟨p0,pb⟩:=sb.new hp
 have I0:DIn M (mup M p (.lst [])) b p row hd N 0 []:=⟨sb.put p0 pb _,p0,pb,ze,aF 0,by simp⟩
 generalize mup M p (.lst [])=M1 at *
 have mth:(th.map fun k:Nat=>Dat.int k).map AV.d=niA th:=by rw [bv];rfl
 have mfr:(fr.map fun k:Nat=>Dat.int k).map AV.d=niA fr:=by rw [bv];rfl
 subst hr1
 refine zk fun r1 hr1=>?_
 have go1:∀ ds u6 M',DIn M M' b p row hd N 1 ds->r1 M { nx:=fun x M'=>rtA M Q (.d .non) M',rt:=rtA M Q } [some (.ref b),some (.d (.lst (row.map oD))),some (.d (oD hd)),some (.d (.lst (th.map fun k:Nat=>Dat.int k))),some (.d (.lst (fr.map fun k:Nat=>Dat.int k))),some (.ref p),u6,none] M':=fun ds u6 M' I=>by
  subst hr1
  refine zk fun r1 hr1=>?_
  have go2:∀ ds M',DIn M M' b p row hd N 2 ds->r1 M { nx:=fun x M'=>rtA M Q (.d .non) M',rt:=rtA M Q } [some (.ref b),some (.d (.lst (row.map oD))),some (.d (oD hd)),some (.d (.lst (th.map fun k:Nat=>Dat.int k))),some (.d (.lst (fr.map fun k:Nat=>Dat.int k))),some (.ref p),u6,none] M':=fun ds M' I=>by
   subst hr1
   refine zk fun r1 hr1=>?_
   have go3:∀ p ds M',DIn M M' b p row hd N 3 ds->r1 M { nx:=fun x M'=>rtA M Q (.d .non) M',rt:=rtA M Q } [some (.ref b),some (.d (.lst (row.map oD))),some (.d (oD hd)),some (.d (.lst (th.map fun k:Nat=>Dat.int k))),some (.d (.lst (fr.map fun k:Nat=>Dat.int k))),some (.ref p),u6,none] M':=fun p ds M' I=>by
    subst hr1
    refine zk fun r1 hr1=>?_
    have go4:∀ ds M',DIn M M' b p row hd N 4 ds->r1 M { nx:=fun x M'=>rtA M Q (.d .non) M',rt:=rtA M Q } [some (.ref b),some (.d (.lst (row.map oD))),some (.d (oD hd)),some (.d (.lst (th.map fun k:Nat=>Dat.int k))),some (.d (.lst (fr.map fun k:Nat=>Dat.int k))),some (.ref p),u6,none] M':=fun ds M' I=>by
     subst hr1
     have hda:Ji (.ref p) M'=some (.lst (ds.map dD)):=by unfold Ji;dsimp only;rw [I.at_];dsimp only;rw [zM];rfl
     have hdd:dp (.lst (ds.map dD))<=40:=by
      rw [dp]
      have:=xE (l:=ds.map dD) (n:=1) fun x hx=>by obtain ⟨d,_,rfl⟩:=bn.mp hx;cases d <;> simp [dD,dp,dps]
      omega
     cases ds with
     | nil=>exact Pa (ji (tNe rfl hda hdd) rfl) ((I.sb.mono (show _<=N+10 by omega)).rt fun M'' s=>(q M'' s).1)
     | cons d0 ds0=>
      refine O8 (ji (tNe rfl hda hdd) rfl) ?_
      have hsq:∀ {M2},M2 p=M' p->qK (.ref p) M2=some (((d0 :: ds0).map dD).map .d):=fun h=>by unfold qK;dsimp only;rw [h,I.at_]
      have hl8:=I.len
      refine ⟨_,rfl,_,rfl,_,rfl,_,_,rfl,hsq rfl,b,_,_,rfl,I.sb.bx,by omega,by rw [am,am,aK];omega,by rw [am,am];omega,fun r M2 s2 r0 r1=>?_⟩
      rw [am,am] at r1
      have hr:r.toNat<(d0 :: ds0).length:=by omega
      have hm:=bo hr
      obtain ⟨t,ht⟩:=I.ok _ hm
      refine ⟨_,_,.d (dD ((d0 :: ds0)[r.toNat])),hsq (s2.at I.pb),rfl,?_,((I.sb.go s2).mono (show _<=N+10 by omega)).rt fun M'' s=>(q M'' s).2 _ t ht⟩
      unfold atI
      rw [qV r0 (by rw [am,am];exact r1)]
      show (((d0 :: ds0).map dD).map AV.d)[r.toNat]?=_
      rw [aE,aE,aj hr];rfl
    cases hd with
    | none=>exact vw (XU (ji (tNN rfl) rfl)) (go4 ds M' (I.mono (by omega) (by omega)))
    | some x=>
     by_cases hf:fr=[]
     ·exact vw (vv (ji (tNN rfl) rfl) (ji (tNe rfl rfl (yY _)) (by rw [hf];rfl))) (go4 ds M' (I.mono (by omega) (by omega)))
     refine Eg (vv (ji (tNN rfl) rfl) (ji (tNe rfl rfl (yY _)) (wV hf))) ?_
     have:=I.len
     refine ⟨_,rfl,⟨_,KN I.at_⟩,VS rfl rfl I.sb.bx (by omega) lfr hf fun k hk M2 s2=>⟨by show 2<=_;omega,_,rfl,_,_,_,rfl,rfl,(I.go s2).at_,by rw [am,am];omega,go4 _ _ ((I.go s2).add (d:=.lay k) (DoE.lay (hfr k hk)) (by omega))⟩⟩
   by_cases ht:th=[]
   ·exact vw (XU (ji (tNe rfl rfl (yY _)) (by rw [ht];rfl))) (go3 p ds M' (I.mono (by omega) (by omega)))
   by_cases hf:fr=[]
   ·exact vw (vv (ji (tNe rfl rfl (yY _)) (wV ht)) (ji (tNe rfl rfl (yY _)) (by rw [hf];rfl))) (go3 p ds M' (I.mono (by omega) (by omega)))
   refine Eg (vv (ji (tNe rfl rfl (yY _)) (wV ht)) (ji (tNe rfl rfl (yY _)) (wV hf))) ?_
   have:=I.len
   refine ⟨_,rfl,VS rfl rfl I.sb.bx (by omega) lth ht fun k hk M2 s2=>VS rfl rfl (I.go s2).sb.bx (by omega) lfr hf fun g hg M3 s3=>?_⟩
   obtain ⟨x,hx⟩:=hth k hk
   have I3:=(I.go s2).go s3
   refine ⟨by show 3<=_;omega,_,rfl,by show 1<=_;omega,_,rfl,_,_,rfl,rfl,by decide,by decide,by show 1 * 2<=_;omega,_,rfl,_,_,KN I3.at_,rfl,by rw [am,am];show _+2<=_;omega,fun p' hp0 hp'=>?_⟩
   obtain ⟨q0,qb⟩:=I3.sb.new hp'
   refine go3 p' (ds ++ [.move k g,.move k g]) _ ⟨(I3.sb.put q0 qb _).mono (by omega),q0,qb,?_,by rw [bg];show _+2<=_;omega,fun e he=>?_⟩
   ·rw [aQ,aQ];exact ze
   ·rcases cO.mp he with he | he
    ·exact I.ok e he
    ·obtain rfl | rfl:e=.move k g \/ e=.move k g:=by simpa using he
     all_goals exact ⟨_,DoE.move hx (hfr g hg)⟩
  cases hd with
  | some x=>exact vw (XU (ji (tIN rfl) rfl)) (go2 ds M' (I.mono (by omega) (by omega)))
  | none=>
   by_cases ht:th=[]
   ·exact vw (vv (ji (tIN rfl) rfl) (ji (tNe rfl rfl (yY _)) (by rw [ht];rfl))) (go2 ds M' (I.mono (by omega) (by omega)))
   refine Eg (vv (ji (tIN rfl) rfl) (ji (tNe rfl rfl (yY _)) (wV ht))) ?_
   have:=I.len
   refine ⟨_,rfl,⟨_,KN I.at_⟩,VS rfl rfl I.sb.bx (by omega) lth ht fun k hk M2 s2=>⟨by show 2<=_;omega,_,rfl,_,_,_,rfl,rfl,(I.go s2).at_,by rw [am,am];omega,?_⟩⟩
   obtain ⟨x,hx⟩:=hth k hk
   exact go2 _ _ ((I.go s2).add (d:=.take k) (DoE.take hx) (by omega))
 refine FV fun r2 hr2=>?_
 walk_at "ra"
 by_cases c:1<(th.length:Int)
 case neg=>rw [if_neg c];exact go1 [] none M1 (I0.mono (by omega) (by omega))
 rw [if_pos c]
 subst hr2
 walk_at "ra"
 refine ⟨b,_,_,rfl,I0.sb.bx,by omega,by omega,by omega,fun one M2 s2 o0 o1=>?_⟩
 have I1:=I0.go s2
 obtain ⟨k1,m1,e1,a1⟩:=AD o0 o1
 refine ⟨⟨_,KN I1.at_⟩,_,rfl,_,by rw [mth];exact a1,_,rfl,b,_,_,rfl,I1.sb.bx,by omega,by omega,by omega,fun oth M3 s3 t0 t1=>?_⟩
 have I2:=I1.go s3
 obtain ⟨j,k2,hj,e2,a2⟩:=DE o0 o1 t0 t1
 obtain ⟨x1,hx1⟩:=hth k1 m1
 obtain ⟨x2,hx2⟩:=hth k2 (bh e2)
 refine ⟨_,rfl,_,by rw [mth];exact a2,by omega,_,rfl,_,I2.at_,by show 0<_;omega,?_⟩
 refine go1 _ _ _ (I2.add (d:=.swap k1 k2) (DoE.swap (fun z=>hj ?_) hx1 hx2) (by omega))
 subst z
 exact (List.getElem?_inj (aA.mp e2).1 ndt).mp (e2.trans e1.symm)
noncomputable def DI:EV:=fun xs M Q=>∃ (b:ay) (n N:Nat) (m:Int),xs=[.ref b,.d (.int n),.d (.int m)]/\n<=1000/\0<=m/\m<=100/\BxM M b N/\N<1000000 /\
 ∀ M' (ds:List De) (st:ES) p,BxS M M' b (N+10 * m.toNat)->M p=none->p ≠ b->ds.length<=m.toNat->qu ds ((zA 0 1 n).map some,none) st->Q [.ref p,.d (.lst (st.1.map oD)),.d (oD st.2)] (mup M' p (.lst ((ds.map dD).map .d)))
theorem OP {t:AS} (h:Tst c ρ M true)(k:t B D ρ M):wL c t xp B D ρ M:=h _ (by rw [if_pos rfl];exact k)
theorem exT {t:TS}{q:AST->Prop}{b:AST}(h:Qk t b)(k:q b):∃ b,Qk t b/\q b:=⟨b,h,k⟩
noncomputable abbrev Yf:cJ:=top 36
theorem VU:zn ["_law_box_here","_law_n","_law_many","_law_turn","_law_row","_law_hand","_law_plan_here","_law_deed_here"] ["_law_box_here","_law_n","_law_many"] (zd Yf):=⟨rfl,rfl,rfl,by decide +kernel,rfl,by decide +kernel,by decide +kernel⟩
theorem GX (a:At K mg "_law_plan" Yf)(B:Blt mg)(D_law_deed:Df P w K mg base "_law_deed" ["_law_box_here","_law_row","_law_hand"] 2 (cSp Iv))(D_law_done:Df P w K mg base "_law_done" ["_law_row","_law_hand","_law_deed_here"] 2 (cSp Ic)):Df P w K mg base "_law_plan" ["_law_box_here","_law_n","_law_many"] 3 (FK DI):=by
 refine dfT (k:=2) a VU (fun _ _ _ _ _ _=>Pn3_ fun _ _ _=>rfl) (fun xs M Q h=>?_) (fun f cdv A outer s H E hr=>?_)
 ·obtain ⟨_,_,_,_,rfl,_⟩:=h;rfl
 have sc:=VU
 have hsl:=hsl
 refine' ⟨_,?q0,?qr⟩
 (case q0=>
  refine' zc ?s1 ?s2
  (case s1=>exact (Gx (i:=4) (j:=5) (k:=6) rfl sc.nd rfl rfl rfl (by decide) (by decide) (by decide) rfl rfl rfl (za (zR (yj rfl) rfl B.list kF (za (zR jY rfl B.range yT (za (pv 1) zb)) zb)) (za qi (za (jG (qA zb)) zb))) rfl))
  (case s2=>
   refine' zc ?s3 ?s4
   (case s3=>exact (qZ cc rfl (kj rfl B.range (za (pv 2) zb)) (zw (i:=3) sc.nd rfl (by first | exact bq rfl | exact bu rfl)) (zc (zB (i:=7) sc.nd rfl (by first | exact bq rfl | exact bu rfl) (zU D_law_deed hr rfl (za (pv 0) (za (pv 4) (za (pv 5) zb))))) (zf (zS (zq jW (pv 7) qi (zt _)) (zc (zZ (kl bB bV bW qD (pv 6) (za (pv 7) zb))) (zf (qE (zU D_law_done hr rfl (za (pv 4) (za (pv 5) (za (pv 7) zb)))) (jg (K:=K) 2 rfl rfl (zK (zw (i:=4) sc.nd rfl (by first | exact bq rfl | exact bu rfl)) (zK (zw (i:=5) sc.nd rfl (by first | exact bq rfl | exact bu rfl)) jf)))))) zx)))))
   (case s4=>exact (zf (zy (qd (za (pv 6) (za (pv 4) (za (pv 5) zb)))))))))
 refine exT (by walk_at "sim") ?_
 rintro xs M Q ⟨b,n,N,m,rfl,hn,hm0,hm1,hb,hN,q⟩
 rw [show zJ ["_law_box_here","_law_n","_law_many","_law_turn","_law_row","_law_hand","_law_plan_here","_law_deed_here"] [.ref b,.d (.int n),.d (.int m)]=[some (.ref b),some (.d (.int n)),some (.d (.int m)),none,none,none,none,none] from rfl]
 refine KI fun r1 hr1=>?_
 walk_at "ra"
 refine ⟨0,n,1,rfl,mZ (by omega) (by omega) (by omega) (by omega),n,by rw [hR];split <;> omega,by omega,fun p hp _=>?_⟩
 have pb:p ≠ b:=fun z=>hb.ne (z ▸ hp)
 subst hr1
 refine KI fun r1 hr1=>?_
 walk_at "ra"
 refine ⟨by omega,by omega,?_⟩
 refine ⟨fun i ρ Mi=>∃ (u3 u7:Option AV) (st:ES) (ds:List De),ρ=[some (.ref b),some (.d (.int n)),some (.d (.int m)),u3,some (.d (.lst (st.1.map oD))),some (.d (oD st.2)),some (.ref p),u7]/\BxM Mi b (N+10 * i)/\Mi p=some (.lst ((ds.map dD).map .d))/\(∀ q,q ≠ b->q ≠ p->Mi q=M q)/\ds.length<=i/\st.1.length=n/\qu ds ((zA 0 1 n).map some,none) st,?_,?_,?_⟩
 ·exact ⟨none,none,((zA 0 1 n).map some,none),[],by rw [bv];rfl,((SB.refl hb).put hp pb _).bx,ze,fun q h1 h2=>zl h2,aF 0,by rw [am,zD],.nil⟩
 ·rintro i y ρ Mi hy ⟨u3,u7,⟨row,hd⟩,ds,rfl,bx,hpl,fr,ld,lr,hdo⟩
  obtain ⟨hi,rfl⟩:=yU hy
  have lr:row.length=n:=lr
  refine ⟨trivial,_,rfl,_,rfl,_,rfl,b,row,hd,N+10 * i,rfl,bx,by omega,by omega,fun M2 s2=>?_⟩
  have p2:M2 p=_:=(s2.at pb).trans hpl
  refine ⟨Np (ji (tNN rfl) rfl) ⟨_,_,(row,hd),ds,rfl,s2.1.mono (by omega),p2,fun q h1 h2=>(s2.at h1).trans (fr q h1 h2),by omega,lr,hdo⟩,fun d t hd'=>?_⟩
  refine OP (ji (tNN rfl) (by cases d <;> rfl)) ?_
  refine ⟨_,rfl,⟨_,KN p2⟩,_,rfl,_,_,_,rfl,rfl,p2,by rw [am,am];omega,?_⟩
  refine ⟨_,rfl,_,rfl,_,rfl,d,(row,hd),t,rfl,hd',by show row.length<=1000;omega,?_⟩
  walk_at "ra"
  refine ⟨_,t,rfl,rfl,rfl,(s2.1.mono (by omega)).put (Ne.symm pb) _,ds ++ [d],?_,fun q h1 h2=>(zl h2).trans ((s2.at h1).trans (fr q h1 h2)),by rw [bg];show _+1<=_;omega,hd'.len.trans lr,hdo.append (.one hd')⟩
  rw [aQ,aQ];exact ze
 ·rintro ρ Mi ⟨u3,u7,st,ds,rfl,bx,hpl,fr,ld,lr,hdo⟩
  subst hr1
  walk_at "ra"
  refine ⟨by omega,?_⟩
  rw [yP] at bx ld
  obtain ⟨o,ho⟩:∃ o,Mi b=some o:=by
   cases e:Mi b with
   | none=>exact absurd e bx.ne
   | some o=>exact ⟨o,rfl⟩
  have e1:Mi=mup (mup M b o) p (.lst ((ds.map dD).map .d)):=by
   funext q
   by_cases c:q=p
   ·rw [c,hpl,ze]
   rw [zl c]
   by_cases c2:q=b
   ·rw [c2,ho,ze]
   ·rw [zl c2];exact fr q c2 c
  have bx2:BxM (mup M b o) b (N+10 * m.toNat):=by
   obtain ⟨x,y,z,h,k⟩:=bx
   exact ⟨x,y,z,by rw [ze,<- ho];exact h,k⟩
  rw [e1]
  exact q _ ds st p ⟨bx2,o,rfl⟩ hp pb ld hdo
theorem xR {a:Nat}{c:Option Int}(h:row[a]?=some c):a<row.length/\row.getD a none=c:=⟨(aA.mp h).1,by rw [af,h];rfl⟩
theorem QE {n a:Nat}(h:a<n):qU (.int (a:Int)) n=true:=decide_eq_true ⟨by omega,by omega⟩
noncomputable def xL (ms:List Int):Option Int->List Int
 | none=>ms
 | some x=>zX ms x
noncomputable def yM (s:ES):De->List (Option Int)
 | .swap a b=>[s.1.getD a none,s.1.getD b none]
 | .take p=>[s.1.getD p none]
 | .move p g=>[s.1.getD p none,s.1.getD g none]
 | .lay _=>[s.2]
theorem wU {d:De}{s t:ES}(h:DoE d s t)(ms:List Int):doR s ms (dD d)=.ok (t,(yM s d).foldl xL ms):=by
 cases h with
 | @swap a b row hd x y ne h1 h2=>
  obtain ⟨l1,g1⟩:=xR h1
  obtain ⟨l2,g2⟩:=xR h2
  have hf:qG (dD (.swap a b)) row.length=true:=by
   show (j7 (au "swap") == some 2 && [Dat.int (a:Int),Dat.int (b:Int)].all (qU · row.length))=true
   simp only [eS,mf,QE l1,QE l2];rfl
  show _=oo (_,[row.getD a none,row.getD b none].foldl xL ms)
  unfold doR
  rw [if_pos hf]
  show xD (row,hd) ms a b=_
  unfold xD
  rw [if_neg ne]
  dsimp only
  rw [g1,g2];rfl
 | @take p row x h1=>
  obtain ⟨l1,g1⟩:=xR h1
  have hf:qG (dD (.take p)) row.length=true:=by
   show (j7 (au "take") == some 1 && [Dat.int (p:Int)].all (qU · row.length))=true
   simp only [eS,mf,QE l1];rfl
  show _=oo (_,[row.getD p none].foldl xL ms)
  unfold doR
  rw [if_pos hf]
  show xw (row,none) ms p=_
  unfold xw
  dsimp only
  rw [g1];rfl
 | @move p g row hd x h1 h2=>
  obtain ⟨l1,g1⟩:=xR h1
  obtain ⟨l2,g2⟩:=xR h2
  have ne:p ≠ g:=fun z=>by rw [z,h2] at h1;cases h1
  have hf:qG (dD (.move p g)) row.length=true:=by
   show (j7 (au "move") == some 2 && [Dat.int (p:Int),Dat.int (g:Int)].all (qU · row.length))=true
   simp only [eS,mf,QE l1,QE l2];rfl
  show _=oo (_,[row.getD p none,row.getD g none].foldl xL ms)
  unfold doR
  rw [if_pos hf]
  show kY (row,hd) ms p g=_
  unfold kY
  rw [if_neg ne]
  dsimp only
  rw [g2];dsimp only;rw [g1];rfl
 | @lay g row x h1=>
  obtain ⟨l1,g1⟩:=xR h1
  have hf:qG (dD (.lay g)) row.length=true:=by
   show (j7 (au "lay") == some 1 && [Dat.int (g:Int)].all (qU · row.length))=true
   simp only [eS,mf,QE l1];rfl
  show _=oo (_,[some x].foldl xL ms)
  unfold doR
  rw [if_pos hf]
  show ZA (row,some x) ms g=_
  unfold ZA
  dsimp only
  rw [g1];rfl
theorem yb {a:Nat}{c:Option Int}(h:a<row.length)(g:row.getD a none=c):row[a]?=some c:=by
 rw [af,aj h] at g
 rw [aj h]
 exact congrArg some g
theorem YO {s:ES}{ms:List Int}{x:Dat}{t:RS}(h:doR s ms x=.ok t):∃ d,x=dD d/\DoE d s t.1:=by
 obtain ⟨row,hd⟩:=s
 unfold doR at h
 by_cases hf:qG x row.length=true
 case neg=>rw [if_neg hf] at h;cases h
 rw [if_pos hf] at h
 obtain ⟨w,ps,rfl,hpl,hps⟩:=Qi hf
 dsimp only at h
 by_cases w1:w=au "swap"
 ·rw [if_pos w1] at h
  obtain ⟨a,b,rfl,ha,hb⟩:=QJ hpl hps (.inl w1)
  have h:xD (row,hd) ms a b=.ok t:=h
  unfold xD at h
  by_cases hab:a=b
  ·rw [if_pos hab] at h;cases h
  rw [if_neg hab] at h
  dsimp only at h
  cases hx:row.getD a none with
  | none=>rw [hx] at h;cases h
  | some x=>
   cases hy:row.getD b none with
   | none=>rw [hx,hy] at h;cases h
   | some y=>
    rw [hx,hy] at h
    cases h
    exact ⟨.swap a b,by rw [w1];rfl,.swap hab (yb ha hx) (yb hb hy)⟩
 rw [if_neg w1] at h
 by_cases w2:w=au "take"
 ·rw [if_pos w2] at h
  obtain ⟨a,rfl,ha⟩:=Jg hpl hps w1 (by rw [w2];decide +kernel)
  have h:xw (row,hd) ms a=.ok t:=h
  unfold xw at h
  dsimp only at h
  cases hd with
  | some y=>cases h
  | none=>
   dsimp only at h
   cases hx:row.getD a none with
   | none=>rw [hx] at h;cases h
   | some x=>
    rw [hx] at h
    cases h
    exact ⟨.take a,by rw [w2];rfl,.take (yb ha hx)⟩
 rw [if_neg w2] at h
 by_cases w3:w=au "move"
 ·rw [if_pos w3] at h
  obtain ⟨a,b,rfl,ha,hb⟩:=QJ hpl hps (.inr w3)
  have h:kY (row,hd) ms a b=.ok t:=h
  unfold kY at h
  by_cases hab:a=b
  ·rw [if_pos hab] at h;cases h
  rw [if_neg hab] at h
  dsimp only at h
  cases hy:row.getD b none with
  | some y=>rw [hy] at h;cases h
  | none=>
   rw [hy] at h
   dsimp only at h
   cases hx:row.getD a none with
   | none=>rw [hx] at h;cases h
   | some x=>
    rw [hx] at h
    cases h
    exact ⟨.move a b,by rw [w3];rfl,.move (yb ha hx) (yb hb hy)⟩
 rw [if_neg w3] at h
 obtain ⟨b,rfl,hb⟩:=Jg hpl hps w1 w3
 have w4:w=au "lay":=by
  unfold j7 at hpl
  rw [if_neg w1,if_neg w2,if_neg w3] at hpl
  by_cases c:w=au "lay"
  ·exact c
  ·rw [if_neg c] at hpl;cases hpl
 have h:ZA (row,hd) ms b=.ok t:=h
 unfold ZA at h
 dsimp only at h
 cases hy:row.getD b none with
 | some y=>rw [hy] at h;cases h
 | none=>
  rw [hy] at h
  dsimp only at h
  cases hd with
  | none=>cases h
  | some x=>
   cases h
   exact ⟨.lay b,by rw [w4];rfl,.lay (yb hb hy)⟩
theorem W9 (ms:List Int)(c:Option Int):(xL ms c).length=ms.length:=by cases c;rfl;exact yJ _ _
theorem Z7 (cs:List (Option Int)):∀ ms,(cs.foldl xL ms).length=ms.length:=by
 induction cs with
 | nil=>exact fun _=>rfl
 | cons c cs ih=>intro ms;rw [eN,ih,W9]
theorem at0 (x:AV)(l:List AV):atI (x :: l) 0=some x:=by
 unfold atI
 rw [qV (by omega) (by rw [aK];omega)]
 rfl
noncomputable def dW:De->Str
 | .swap _ _=>au "swap"
 | .take _=>au "take"
 | .move _ _=>au "move"
 | .lay _=>au "lay"
noncomputable def dPs:De->List Nat
 | .swap a b=>[a,b]
 | .take a=>[a]
 | .move a b=>[a,b]
 | .lay a=>[a]
theorem Dl (d:De):dD d=.tup (.str (dW d) :: (dPs d).map fun k:Nat=>Dat.int k):=by cases d <;> rfl
theorem Gn (d:De):(dPs d).length<=2:=by cases d <;> simp [dPs]
theorem OB (h:DoE d s t):∀ k ∈ dPs d,k<s.1.length:=by
 have g:∀ {row:List (Option Int)} {a:Nat} {c:Option Int},row[a]?=some c->a<row.length:=fun h=>(aA.mp h).1
 cases h <;> intro k hk <;> simp only [dPs,aO,cm,or_false] at hk
 ·rename_i h1 h2;rcases hk with rfl | rfl;exact g h1;exact g h2
 ·rename_i h1;subst hk;exact g h1
 ·rename_i h1 h2;rcases hk with rfl | rfl;exact g h1;exact g h2
 ·rename_i h1;subst hk;exact g h1
theorem DoE.okM {d:De}{s t:ES}{n:Nat}(h:DoE d s t)(o:OkM s n):OkM t n:=by
 have g:∀ {row:List (Option Int)} {a:Nat} {c:Option Int},row[a]?=some c->c ∈ row:=fun h=>bh h
 cases h with
 | swap ne h1 h2=>
  refine ⟨fun x hx=>?_,o.2⟩
  rcases cW hx with hx | hx
  ·rcases cW hx with hx | hx
   ·exact o.1 x hx
   ·exact o.1 x (hx ▸ g h2)
  ·exact o.1 x (hx ▸ g h1)
 | take h1=>
  refine ⟨fun x hx=>?_,fun x hx=>?_⟩
  ·rcases cW hx with hx | hx
   ·exact o.1 x hx
   ·cases hx
  ·cases hx;exact o.1 _ (g h1)
 | move h1 h2=>
  refine ⟨fun x hx=>?_,o.2⟩
  rcases cW hx with hx | hx
  ·rcases cW hx with hx | hx
   ·exact o.1 x hx
   ·cases hx
  ·exact o.1 x (hx ▸ g h1)
 | lay h1=>
  refine ⟨fun x hx=>?_,fun x hx=>nomatch hx⟩
  rcases cW hx with hx | hx
  ·exact o.1 x hx
  ·exact o.2 x hx.symm
theorem v9 (n:Nat):OkM ((zA 0 1 n).map some,none) n:=by
 refine ⟨fun x hx=>?_,fun x hx=>nomatch hx⟩
 obtain ⟨y,hy,e⟩:=bn.mp hx
 injection e with e
 subst e
 unfold zA at hy
 obtain ⟨k,hk,e⟩:=bn.mp hy
 rw [df] at hk
 omega
noncomputable def fnP (vs:List V):List (Str × V):=[("place",vs.getD 0 .non),("word",vs.getD 1 .non)]
noncomputable abbrev plw (i:Nat)(x:String):List (Str × V):=[("place",.int i),("word",.str (au x))]
noncomputable abbrev yR:cJ:=(qF (top 3) 0)
theorem yc:zn ["self","place","word"] ["self","place","word"] (zd yR):=⟨rfl,rfl,rfl,by decide +kernel,rfl,by decide +kernel,by decide +kernel⟩
theorem Vo {C a t0:ay}{us:List V}{H:Hp}{Q:VK}(S1:ye K C "place")(S2:ye K C "word")(hl:us.length=2)(ha:H a=some (j8 a C t0 none))(hq:∀ dx,H dx=none->dx ≠ a->Q .non (upd (upd H a (j8 a C t0 (some dx))) dx (XdE dx (fnP us)))) :
  Wk (Qv K (ZC 0) (ZC 1) "place") (Qv K (ZC 0) (ZC 2) "word") { nx:=fun _ H'=>Q .non H',rt:=Q } (qB ["self","place","word"] (.ref a :: us)) H:=by
 match us,hl with
 | [v,u],_=>
  show Qv _ _ _ _ _ _ _
  refine ⟨v,rfl,.ref a,rfl,a,C,t0,rfl,S1,.inl ⟨ha,fun dx hd hne=>?_⟩⟩
  refine ⟨u,rfl,.ref a,rfl,a,C,t0,rfl,S2,.inr ⟨dx,[("place",v)],by rw [zh (Ne.symm hne),zi],zi,Nat.le_of_ble_eq_true rfl,?_⟩⟩
  rw [xN]
  have e:jE (au "word") u [(au "place",v)]=fnP [v,u]:=by
   unfold jE;rw [if_neg (by decide +kernel)];rfl
  show Q .non (upd _ dx (XdE dx (jE (au "word") u [(au "place",v)])))
  rw [e]
  exact hq dx hd hne
variable {fd:dz}
theorem IL {C f:ay} (F:Fun K "__init__" "BadPlan.__init__" yR f fd)(q:jp K C vG "ValueError.__new__" f=true)(hf:dh K (.ref f)=true)(S1:ye K C "place")(S2:ye K C "word"):MkX P w K mg base C 1 2 fnP:=by
 refine X8 (k:=0) F yc (fun _ _ _ _ _ _=>Pn3_ fun _ _ _=>rfl) q hf rfl (fun cdv A outer s H E=>?_)
 have sc:=yc
 refine ⟨_,(zc (xZ (pv 0) (pv 1) rfl) (zf (xZ (pv 0) (pv 2) rfl))),?_⟩
 intro a t0 us Q hl ha hq
 exact Vo S1 S2 hl ha hq
theorem Hv {C f:ay} (F:Fun K "__init__" "BadPlan.__init__" yR f fd)(q:jp K C vG "ValueError.__new__" f=true)(hf:dh K (.ref f)=true)(S1:ye K C "place")(S2:ye K C "word"):Jf P w K mg base C 1 2 fnP:=by
 refine Gj F yc (fun _ _ _ _ _ _=>Pn3_ fun _ _ _=>rfl) q hf rfl (fun cdv A outer s H E x=>?_)
 have sc:=yc
 refine ⟨_,(zc (xZ (pv 0) (pv 1) rfl) (zf (xZ (pv 0) (pv 2) rfl))),?_⟩
 intro a t0 us Q hl ha hq
 exact Vo S1 S2 hl ha hq
def yh (n:Nat)(s:ES):Prop:=s.1.length=n/\∀ x:Int,s.1.count (some x)+(if s.2=some x then 1 else 0)=if 0<=x/\x<(n:Int) then 1 else 0
theorem xM {l:List (Option Int)}{i:Nat}{c:Option Int}(h:l[i]?=some c)(a b:Option Int):(l.set i a).count b+(if c=b then 1 else 0)=l.count b+(if a=b then 1 else 0):=by
 induction l generalizing i with
 | nil=>cases h
 | cons e l ih=>
  cases i with
  | zero=>
   cases h
   rw [List.set_cons_zero,fv,fv]
   simp only [beq_iff_eq]
   omega
  | succ i=>
   have h:l[i]?=some c:=h
   rw [List.set_cons_succ,fv,fv]
   have:=ih h
   omega
theorem QL {d:De}{s t:ES}{n:Nat}(h:DoE d s t)(c:yh n s):yh n t:=by
 refine ⟨by rw [h.len];exact c.1,fun x=>?_⟩
 have cx:=c.2 x
 cases h with
 | @swap a b row hd u v ne h1 h2=>
  have e1:=xM h1 (some v) (some x)
  have e2:=xM (l:=row.set a (some v)) (i:=b) (c:=some v) (by rw [dR ne];exact h2) (some u) (some x)
  dsimp only at cx ⊢
  omega
 | @take p row u h1=>
  have e1:=xM h1 none (some x)
  rw [if_neg (show ¬ (none:Option Int)=some x from fun z=>nomatch z)] at e1
  dsimp only at cx ⊢
  rw [if_neg (show ¬ (none:Option Int)=some x from fun z=>nomatch z)] at cx
  omega
 | @move p g row hd u h1 h2=>
  have ne:p ≠ g:=fun z=>by rw [z,h2] at h1;cases h1
  have e1:=xM h1 none (some x)
  have e2:=xM (l:=row.set p none) (i:=g) (c:=none) (by rw [dR ne];exact h2) (some u) (some x)
  rw [if_neg (show ¬ (none:Option Int)=some x from fun z=>nomatch z)] at e1 e2
  dsimp only at cx ⊢
  omega
 | @lay g row u h1=>
  have e1:=xM h1 (some u) (some x)
  rw [if_neg (show ¬ (none:Option Int)=some x from fun z=>nomatch z)] at e1
  dsimp only at cx ⊢
  rw [if_neg (show ¬ (none:Option Int)=some x from fun z=>nomatch z)]
  omega
theorem E9 {α:Type}[BEq α][LawfulBEq α][DecidableEq α]{l:List α}(h:l.Nodup)(a:α):l.count a=if a ∈ l then 1 else 0:=by
 induction l with
 | nil=>rfl
 | cons b l ih=>
  have:=bT.mp h
  rw [fv,ih this.2]
  by_cases c:b=a
  ·subst c;simp [this.1]
  ·have:(b == a)=false:=by simpa using c
   simp [this,Ne.symm c,c]
theorem XR (n:Nat):((zA 0 1 n).map some).Nodup:=by
 unfold zA
 rw [bv]
 unfold oM
 rw [dZ]
 refine gZ.imp fun {a b} h z=>h ?_
 have z:some ((0:Int)+(a:Int) * 1)=some (0+(b:Int) * 1):=z
 injection z with z
 omega
theorem xY {x:Int}:some x ∈ (zA 0 1 n).map some ↔ 0<=x/\x<(n:Int):=by
 unfold zA
 simp only [bn,df,Option.some.injEq]
 constructor
 ·rintro ⟨a,⟨k,hk,rfl⟩,rfl⟩;omega
 ·rintro ⟨h1,h2⟩;exact ⟨x,⟨x.toNat,by omega,by omega⟩,rfl⟩
theorem qL (n:Nat):yh n ((zA 0 1 n).map some,none):=by
 refine ⟨by show ((zA 0 1 n).map some).length=n;rw [am,zD],fun x=>?_⟩
 show ((zA 0 1 n).map some).count (some x)+0=_
 rw [E9 (XR n)]
 by_cases c:0<=x/\x<(n:Int)
 ·rw [if_pos c,if_pos (xY.mpr c)]
 ·rw [if_neg c,if_neg (fun z=>c (xY.mp z))]
theorem wM {α:Type}[DecidableEq α]:∀ {l r:List α},l.Nodup->(∀ x ∈ l,x ∈ r)->r.length<=l.length->l.Perm r
 | [],r,_,_,h=>by
  have:r=[]:=lI.mp (by simpa using h)
  rw [this]
 | a :: l,r,nd,hs,h=>by
  have nd':=bT.mp nd
  have ha:=hs a bJ
  have ih:=wM (l:=l) (r:=r.erase a) nd'.2 (fun x hx=>(ic (fun z=>nd'.1 (by rw [<- z];exact hx))).mpr (hs x (aZ _ hx))) (by rw [eU ha];rw [aK] at h;omega)
  exact (ih.cons a).trans (List.perm_cons_erase ha).symm
theorem Bp (c:yh n (row,none)):∃ os,row=os.map some/\zF n os:=by
 have hl:row.length=n:=c.1
 have hp:((zA 0 1 n).map some).Perm row:=wM (XR n) (fun x hx=>by
  obtain ⟨i,hi,rfl⟩:=bn.mp hx
  have h:=c.2 i
  rw [if_pos (xY.mp hx)] at h
  have h:row.count (some i)+0=1:=h
  exact dk.mp (by omega)) (by rw [am,zD];omega)
 have hm:∀ x ∈ row,∃ i,x=some i/\0<=i/\i<(n:Int):=fun x hx=>by
  have:=hp.mem_iff.mpr hx
  obtain ⟨i,hi,rfl⟩:=bn.mp this
  exact ⟨i,rfl,xY.mp this⟩
 have e:row=(row.map (·.getD 0)).map some:=by
  rw [bv]
  conv=>lhs;rw [<- oz row]
  exact ef fun x hx=>by obtain ⟨i,rfl,_⟩:=hm x hx;rfl
 refine ⟨row.map (·.getD 0),e,by rw [am];exact hl,?_,fun x hx=>?_⟩
 ·have:row.Nodup:=hp.nodup_iff.mp (XR n)
  rw [e] at this
  exact (dZ.mp this).imp fun h z=>h (by rw [z])
 ·obtain ⟨y,hy,rfl⟩:=bn.mp hx
  obtain ⟨i,rfl,h⟩:=hm y hy
  exact h
noncomputable def bL (row:List (Option Int)):List Int:=(bI row.length).map fun k:Nat=>(row.idxOf (some (k:Int)):Int)
variable {os:List Int}
theorem VG (ho:zF n os) (hk:k<n):(k:Int) ∈ os:=by
 have hp:os.Perm (zA 0 1 n):=by
  refine wM ho.2.1 (fun x hx=>?_) (by rw [zD,ho.1];exact aF _)
  have:=ho.2.2 x hx
  unfold zA
  exact bn.mpr ⟨x.toNat,df.mpr (by omega),by omega⟩
 exact hp.mem_iff.mpr (by unfold zA;exact bn.mpr ⟨k,df.mpr hk,by omega⟩)
theorem Hf (os:List Int)(x:Int):(os.map some).idxOf (some x)=os.idxOf x:=by
 induction os with
 | nil=>rfl
 | cons a l ih=>
  rw [aX,List.idxOf_cons,List.idxOf_cons,ih]
  rfl
theorem Ge {os bs:List Int}(ho:zF n os)(hb:EL os bs):bs=bL (os.map some):=by
 have h1:=ho.1
 unfold bL
 rw [am]
 refine fS (by rw [am,cq];exact hb.1) fun k k1 k2=>?_
 rw [oq,nK,Hf]
 have kn:k<n:=by rw [<- h1,<- hb.1];exact k1
 have hm:=VG ho kn
 have hi:os.idxOf (k:Int)<os.length:=fG hm
 have:=hb.2 (os.idxOf (k:Int)) hi
 have e:os.getD (os.idxOf (k:Int)) 0=(k:Int):=by
  rw [af,aj hi]
  exact iS hi
 rw [e,aY,af,aj k1] at this
 exact this
theorem vA {os:List Int}{r:List Int}:∀ {i:Nat},r ∈ zr os i->∃ p:Nat,p<i/\r=zG os (p:Int)
 | 0,h=>by simp [zr] at h
 | i+1,h=>by
  unfold zr at h
  rcases cO.mp h with z | z
  ·obtain ⟨p,hp,e⟩:=vA z
   exact ⟨p,by omega,e⟩
  ·by_cases c:kZ os i/\1<per os (i:Int)
   ·rw [if_pos c] at z
    exact ⟨i,by omega,cK.mp z⟩
   ·rw [if_neg c] at z;cases z
theorem G3 (h:zF n os){r:List Int}(hr:r ∈ zr os n):∀ x ∈ r,0<=x/\x<(n:Int):=by
 obtain ⟨p,hp,e⟩:=vA hr
 subst e
 intro x hx
 obtain ⟨k,_,ek⟩:=qx.mp hx
 rw [<- ek]
 exact qQ h (by omega) (by omega) k
theorem WJ (h:zF n os){r:List Int}(hr:r ∈ zr os n) (hk:k<r.length):os.getD (r.getD k 0).toNat 0=if k+1=r.length then r.getD 0 0 else r.getD (k+1) 0:=by
 obtain ⟨p,hp,e⟩:=vA hr
 obtain ⟨M,hM,_⟩:=jC h (p:=(p:Int)) (by omega) (by omega)
 have hM1:=hM.1
 unfold zG at e
 rw [hM.per] at e
 have lr:r.length=M:=by rw [e,qT]
 have cg:∀ k,k<M->r.getD k 0=itn os k (p:Int):=fun k hk=>by
  rw [e,af]
  unfold itl
  rw [aE,cF hk];rfl
 rw [lr] at hk ⊢
 rw [cg k hk]
 show itn os (k+1) (p:Int)=_
 split
 ·rename_i z
  rw [z,hM.2.1,cg 0 (by omega)];rfl
 ·rw [cg (k+1) (by omega)]
theorem Zc (h:zF n os){p:Nat}(hp:p<n){x:Int}:x ∈ zG os (p:Int) ↔ Rch os (p:Int) x:=by
 obtain ⟨m,hm,_⟩:=jC h (p:=(p:Int)) (by omega) (by omega)
 unfold zG
 rw [hm.per]
 exact (Rch.mem_ring hm).symm
theorem Ab (h:zF n os){p:Nat}(hp:p<n):(zG os (p:Int)).Nodup:=by
 obtain ⟨m,hm,_⟩:=jC h (p:=(p:Int)) (by omega) (by omega)
 unfold zG
 rw [hm.per]
 exact ky h (by omega) (by omega) hm
theorem Zo {n:Nat}{os:List Int}(h:zF n os):∀ i,i<=n->(zr os i).flatten.Nodup/\∀ x ∈ (zr os i).flatten,ql os i x
 | 0,_=>by simp [zr]
 | i+1,hi=>by
  obtain ⟨n1,s1⟩:=Zo h i (by omega)
  unfold zr
  by_cases c:kZ os i/\1<per os (i:Int)
  ·rw [if_pos c,cG,List.flatten_singleton]
   refine ⟨List.nodup_append.mpr ⟨n1,Ab h (by omega),fun a ha b hb e=>?_⟩,fun x hx=>?_⟩
   ·subst e
    obtain ⟨q,hq,r⟩:=s1 a ha
    have r2:=(Zc h (by omega)).mp hb
    have a0:=r2
    exact c.1 q hq (r.trans (r2.symm h (by omega) (by omega)))
   ·rcases cO.mp hx with z | z
    ·exact ql.succ.mpr (.inl (s1 x z))
    ·exact ql.succ.mpr (.inr ((Zc h (by omega)).mp z))
  ·rw [if_neg c,bP]
   exact ⟨n1,fun x hx=>ql.succ.mpr (.inl (s1 x hx))⟩
structure Qb (n:Nat)(os:List Int)(rs:List (List Int)):Prop where
 len:∀ r ∈ rs,2<=r.length/\r.length<=n
 bd:∀ r ∈ rs,∀ x ∈ r,0<=x/\x<(n:Int)
 nx:∀ r ∈ rs,∀ k,k<r.length->os.getD (r.getD k 0).toNat 0=r.getD ((k+1) % r.length) 0
 nd:rs.flatten.Nodup
 st:∀ x:Nat,x<n->(x:Int) ∉ rs.flatten->os.getD x 0=(x:Int)
theorem Zu (h:zF n os):Qb n os (zr os n):=by
 refine ⟨fun r hr=>?_,fun r hr=>G3 h hr,fun r hr k hk=>?_,(Zo h n (aF n)).1,fun x hx hn=>?_⟩
 ·have:=qY h (aF n) hr;omega
 ·rw [WJ h hr hk]
  by_cases c:k+1=r.length
  ·rw [if_pos c,c,Nat.mod_self]
  ·rw [if_neg c,lK (by omega)]
 ·rcases Q7 h hx with ⟨r,hr,hm⟩ | hp
  ·exact absurd (lL.mpr ⟨r,hr,hm⟩) hn
  ·have:os.getD ((x:Int)).toNat 0=(x:Int):=hp.2.1
   rw [aY] at this;exact this
noncomputable def xa (c:Int->Nat)(l:List Int):Nat:=(l.map c).sum
noncomputable def ZY (c:Int->Nat)(x:Int):Int->Nat:=fun y=>if y=x then c y+1 else c y
theorem xA (c:Int->Nat)(x:Int):ZY c x x=c x+1:=if_pos rfl
theorem kh (c:Int->Nat){x y:Int}(h:y ≠ x):ZY c x y=c y:=if_neg h
theorem HA {c:Int->Nat}{x:Int}{l:List Int}(h:x ∉ l):xa (ZY c x) l=xa c l:=by
 have e:l.map (ZY c x)=l.map c:=ef fun y hy=>kh c fun z=>h (by rw [<- z];exact hy)
 unfold xa
 rw [e]
theorem Fh {c:Int->Nat}{x:Int}:∀ {l:List Int},l.Nodup->xa (ZY c x) l<=xa c l+1
 | [],_=>cn _
 | y :: l,nd=>by
  obtain ⟨h1,h2⟩:=bT.mp nd
  have ih:=Fh (c:=c) (x:=x) h2
  by_cases e:y=x
  ·subst e
   have:=HA (c:=c) h1
   unfold xa at *
   rw [aX,dg,aX,dg,xA,this];omega
  ·unfold xa at *
   rw [aX,dg,aX,dg,kh c e];omega
theorem EH {c:Int->Nat}:∀ {l:List Int},(∀ x ∈ l,1<=c x)->l.length<=xa c l
 | [],_=>aF _
 | y :: l,h=>by
  have:=EH (l:=l) fun x hx=>h x (aZ _ hx)
  have h1:=h y (by simp)
  unfold xa at *
  rw [aX,dg,aK];omega
theorem BD {c:Int->Nat}:∀ {l:List Int},(∀ x ∈ l,1<=c x)->(∃ x ∈ l,2<=c x)->l.length+1<=xa c l
 | [],_,⟨_,h,_⟩=>by cases h
 | y :: l,h,⟨x,hx,h2⟩=>by
  have h1:=h y (by simp)
  have hl:∀ x ∈ l,1<=c x:=fun x hx=>h x (aZ _ hx)
  rcases aO.mp hx with e | e
  ·subst e
   have:=EH hl
   unfold xa at *
   rw [aX,dg,aK];omega
  ·have:=BD hl ⟨x,e,h2⟩
   unfold xa at *
   rw [aX,dg,aK];omega
theorem JU {c:Int->Nat}:∀ {rs:List (List Int)},(∀ r ∈ rs,r.length+1<=xa c r)->yZ rs+rs.length<=xa c rs.flatten
 | [],_=>aF _
 | r :: rs,h=>by
  have:=JU (rs:=rs) fun x hx=>h x (aZ _ hx)
  have h1:=h r (by simp)
  unfold yZ xa at *
  simp only [aX,dg,aK,dE,aQ,List.sum_append] at *
  omega
theorem VM {α:Type}[BEq α][LawfulBEq α]{a:α}:∀ {l:List α} {i j:Nat},l[i]?=some a->l[j]?=some a->i ≠ j->2<=l.count a
 | [],_,_,h,_,_=>by simp at h
 | b :: l,0,0,_,_,h=>absurd rfl h
 | b :: l,0,j+1,h1,h2,_=>by
  have e:b=a:=by simpa using h1
  have:=dk.mpr (bh (l:=l) (i:=j) (by simpa using h2))
  rw [e,ie];omega
 | b :: l,i+1,0,h1,h2,_=>by
  have e:b=a:=by simpa using h2
  have:=dk.mpr (bh (l:=l) (i:=i) (by simpa using h1))
  rw [e,ie];omega
 | b :: l,i+1,j+1,h1,h2,h=>by
  have:=VM (l:=l) (i:=i) (j:=j) (by simpa using h1) (by simpa using h2) (by omega)
  exact bf this (by rw [fv];omega)
theorem yh.one (c:yh n s){i j:Nat}{x:Int}(h1:s.1[i]?=some (some x))(h2:s.1[j]?=some (some x)):i=j:=ck fun h=>by
 have:=VM h1 h2 h
 have:=c.2 x
 split at this <;> split at this <;> omega
theorem yh.hand (c:yh n s){x:Int}(h:s.2=some x)(i:Nat):s.1[i]? ≠ some (some x):=fun z=>by
 have:=dk.mpr (bh z)
 have e:=c.2 x
 rw [if_pos h] at e
 split at e <;> omega
structure ZU (n:Nat)(os:List Int)(rs:List (List Int))(s:ES)(c:Int->Nat)(k:Nat):Prop where
 own:∀ x:Nat,x<n->c x=0->s.1[x]?=some (some (x:Int))
 rg:∀ r ∈ rs,(∀ x ∈ r,c x=0) \/ ∃ x ∈ r,1<=c x/\(c x=1->s.1[(os.getD x.toNat 0).toNat]? ≠ some (some x))
 tot:xa c rs.flatten<=k
variable {rs:List (List Int)}
theorem ZU.go (G:Qb n os rs) {c:Int->Nat} (h:ZU n os rs s c k){x:Int}
  (h1:∀ (i:Nat) y,y ≠ x->(t.1[i]?=some (some y) ↔ s.1[i]?=some (some y))) (h2:∀ i:Nat,t.1[i]?=some (some x)->s.1[i]?=some none):ZU n os rs t (ZY c x) (k+1):=by
 refine ⟨fun y hy e=>?_,fun r hr=>?_,?_⟩
 ·have ne:(y:Int) ≠ x:=fun z=>by rw [z,xA] at e;omega
  rw [kh c ne] at e
  exact (h1 y y ne).mpr (h.own y hy e)
 ·rcases h.rg r hr with z | ⟨y,hy,c1,c2⟩
  ·by_cases m:x ∈ r
   ·refine .inr ⟨x,m,by rw [xA];omega,fun _ e=>?_⟩
    obtain ⟨j,hj⟩:=bQ m
    have lj:=(aA.mp hj).1
    have ex:r.getD j 0=x:=by rw [af,hj];rfl
    have nx:=G.nx r hr j lj
    rw [ex] at nx
    have lm:(j+1) % r.length<r.length:=oN _ (by omega)
    have mg:os.getD x.toNat 0 ∈ r:=by
     rw [nx,af,aj lm];exact bo lm
    obtain ⟨b0,b1⟩:=G.bd r hr _ mg
    have:=h.own (os.getD x.toNat 0).toNat (by omega) (by rw [cb b0];exact z _ mg)
    rw [h2 _ e] at this
    cases this
   ·exact .inl fun y hy=>by rw [kh c (show y ≠ x from fun e=>m (by rw [<- e];exact hy))];exact z y hy
  ·by_cases e:y=x
   ·subst e
    exact .inr ⟨y,hy,by rw [xA];omega,fun e=>by rw [xA] at e;omega⟩
   ·refine .inr ⟨y,hy,by rw [kh c e];exact c1,fun e1 e2=>?_⟩
    rw [kh c e] at e1
    exact c2 e1 ((h1 _ y e).mp e2)
 ·exact bf (Fh G.nd) (cU h.tot)
theorem qv {p i:Nat}{v w:Option Int}(h:row[p]?=some v):(row.set p w)[i]?=if i=p then some w else row[i]?:=by
 rw [bj]
 by_cases e:p=i
 ·subst e;rw [if_pos rfl,if_pos rfl,if_pos (aA.mp h).1]
 ·rw [if_neg e,if_neg (Ne.symm e)]
theorem ZU.step {n:Nat}{os:List Int}{rs:List (List Int)}(G:Qb n os rs){s t:ES}{c:Int->Nat}{k:Nat}(h:ZU n os rs s c k)(cs:yh n s){d:De}(hd:DoE d s t)(ns:∀ a b,d ≠ .swap a b):∃ c',ZU n os rs t c' (k+1):=by
 cases hd with
 | swap=>exact absurd rfl (ns _ _)
 | @take p row x e=>
  refine ⟨_,h.go G (x:=x) (fun i y ne=>?_) fun i z=>?_⟩
  ·dsimp only
   rw [qv e]
   split
   ·rename_i q;subst q;rw [e];exact ⟨(fun z=>by cases z),(fun z=>by cases z;exact absurd rfl ne)⟩
   ·exact Iff.rfl
  ·dsimp only at z
   rw [qv e] at z
   split at z
   ·cases z
   ·rename_i q;exact absurd (cs.one z e) q
 | @move p g row hh x e1 e2=>
  have pg:p ≠ g:=fun z=>by rw [z,e2] at e1;cases e1
  have e3:(row.set p none)[g]?=some none:=by rw [qv e1,if_neg (Ne.symm pg)];exact e2
  refine ⟨_,h.go G (x:=x) (fun i y ne=>?_) fun i z=>?_⟩
  ·dsimp only
   rw [qv e3,qv e1]
   split
   ·rename_i q;subst q;rw [e2];exact ⟨(fun z=>by cases z;exact absurd rfl ne),(fun z=>by cases z)⟩
   ·split
    ·rename_i q;subst q;rw [e1];exact ⟨(fun z=>by cases z),(fun z=>by cases z;exact absurd rfl ne)⟩
    ·exact Iff.rfl
  ·dsimp only at z
   rw [qv e3,qv e1] at z
   split at z
   ·rename_i q;subst q;exact e2
   ·split at z
    ·cases z
    ·rename_i q;exact absurd (cs.one z e1) q
 | @lay g row x e=>
  refine ⟨_,h.go G (x:=x) (fun i y ne=>?_) fun i z=>?_⟩
  ·dsimp only
   rw [qv e]
   split
   ·rename_i q;subst q;rw [e];exact ⟨(fun z=>by cases z;exact absurd rfl ne),(fun z=>by cases z)⟩
   ·exact Iff.rfl
  ·dsimp only at z
   rw [qv e] at z
   split at z
   ·rename_i q;subst q;exact e
   ·exact absurd z (cs.hand rfl i)
theorem ZU.dos {n:Nat}{os:List Int}{rs:List (List Int)}(G:Qb n os rs){ds:List De}{s t:ES}(hd:qu ds s t):∀ {c:Int->Nat} {k:Nat},ZU n os rs s c k->yh n s->(∀ d ∈ ds,∀ a b,d ≠ .swap a b)->∃ c',ZU n os rs t c' (k+ds.length):=by
 induction hd with
 | nil=>exact fun h _ _=>⟨_,h⟩
 | @cons e l _ _ _ d _ ih=>
  intro c k h cs ns
  obtain ⟨c',h'⟩:=h.step G cs d (ns e bJ)
  obtain ⟨c2,h2⟩:=ih h' (QL d cs) fun g hg=>ns g (aZ _ hg)
  exact ⟨c2,by rw [aK,show k+(l.length+1)=k+1+l.length by omega];exact h2⟩
theorem KC {n i:Nat}(h:i<n):((zA 0 1 n).map some)[i]?=some (some (i:Int)):=by
 rw [aE];unfold zA
 rw [aE,cF h]
 show some (some ((0:Int)+(i:Int) * 1))=_
 rw [nW,mH]
variable {T:List Int}
theorem yw {i:Nat}(h:i<T.length):(T.map some)[i]?=some (some (T.getD i 0)):=by
 rw [aE,aj h,af,aj h];rfl
theorem Qb.off (G:Qb n os rs){r:List Int}(hr:r ∈ rs){x:Int}(hx:x ∈ r):os.getD x.toNat 0 ≠ x:=fun z=>by
 have nd:r.Nodup:=(List.pairwise_flatten.mp G.nd).1 r hr
 have l2:=(G.len r hr).1
 obtain ⟨k,hk⟩:=bQ hx
 have lk:=(aA.mp hk).1
 have ex:r.getD k 0=x:=by rw [af,hk];rfl
 have nx:=G.nx r hr k lk
 have lm:(k+1) % r.length<r.length:=oN _ (by omega)
 rw [ex,z,<- ex,af,af,aj lk,aj lm] at nx
 have:=(fN nd).mp nx
 by_cases c:k+1=r.length
 ·rw [c,Nat.mod_self] at this;omega
 ·rw [lK (by omega)] at this;omega
theorem WE (ho:zF n os)(lT:T.length=n)(hd:qu ds ((zA 0 1 n).map some,none) (T.map some,none))(hg:∀ t:Nat,t<n->T.getD (os.getD t 0).toNat 0=(t:Int))(ns:∀ d ∈ ds,∀ a b,d ≠ .swap a b):Ky os n+(zr os n).length<=ds.length:=by
 have G:=Zu ho
 obtain ⟨c,h⟩:=ZU.dos G hd (c:=fun _=>0) (k:=0) ⟨fun x hx _=>KC hx,fun r _=>.inl fun _ _=>rfl,by
  have:∀ l:List Int,xa (fun _=>0) l=0:=fun l=>by
   induction l with
   | nil=>rfl
   | cons a l ih=>unfold xa at *;rw [aX,dg,ih]
  rw [this];exact aF 0⟩ (qL n) ns
 rw [lZ] at h
 rw [<- ZI ho]
 refine bf (JU fun r hr=>?_) h.tot
 have one:∀ x ∈ r,1<=c x:=fun x hx=>by
  obtain ⟨b0,b1⟩:=G.bd r hr x hx
  cases e:c x with
  | succ m=>omega
  | zero=>
   exfalso
   have hw:=h.own x.toNat (by omega) (by rw [cb b0];exact e)
   have hw:(T.map some)[x.toNat]?=some (some ((x.toNat:Nat):Int)):=hw
   rw [yw (by omega)] at hw
   have hw:T.getD x.toNat 0=((x.toNat:Nat):Int):=by injection hw with hw;injection hw
   obtain ⟨t,ht,et⟩:=ho.ex (j:=x.toNat) (by omega)
   have gt:=hg t ht
   rw [et,aY,hw] at gt
   refine G.off hr hx ?_
   have:x.toNat=t:=by omega
   rw [this,et];omega
 refine BD one ?_
 have lr:=(G.len r hr).1
 rcases h.rg r hr with z | ⟨y,hy,c1,c2⟩
 ·have hm:r[0]'(by omega) ∈ r:=bo _
  have:=one _ hm
  rw [z _ hm] at this;omega
 ·refine ⟨y,hy,?_⟩
  obtain ⟨b0,b1⟩:=G.bd r hr y hy
  have gy:=hg y.toNat (by omega)
  obtain ⟨g0,g1⟩:=ho.getD (i:=y.toNat) (by omega)
  by_cases e:c y=1
  ·refine absurd ?_ (c2 e)
   show (T.map some)[_]?=_
   rw [yw (by omega),gy,cb b0]
  ·omega
structure Xu (n:Nat)(s:ES)(lab:Int->Nat)(L:List Nat)(k:Nat):Prop where
 lb:∀ (i:Nat) x,s.1[i]?=some (some x)->lab i=lab x
 nd:L.Nodup
 at_:∀ l ∈ L,∃ p:Nat,p<n/\lab p=l
 cnt:n<=L.length+k
theorem Xu.step {n:Nat}{s t:ES}{lab:Int->Nat}{L:List Nat}{k:Nat}(h:Xu n s lab L k){a b:Nat}(hd:DoE (.swap a b) s t):∃ lab' L',Xu n t lab' L' (k+1):=by
 cases hd with
 | @swap _ _ row hh x y ne e1 e2=>
  have l1:lab a=lab x:=h.lb a x e1
  have l2:lab b=lab y:=h.lb b y e2
  have e3:(row.set a (some y))[b]?=some (some y):=by rw [qv e1,if_neg (Ne.symm ne)];exact e2
  refine ⟨fun z=>if lab z=lab a then lab b else lab z,if lab a=lab b then L else L.erase (lab a),fun i z hz=>?_,?_,fun l hl=>?_,?_⟩
  ·dsimp only at hz ⊢
   rw [qv e3,qv e1] at hz
   split at hz
   ·rename_i q;cases hz;subst q
    rw [<- l1,if_pos rfl];split <;> rfl
   ·split at hz
    ·rename_i q;cases hz;subst q
     rw [if_pos rfl,<- l2];split <;> rfl
    ·rw [h.lb i z hz]
  ·split
   ·exact h.nd
   ·exact h.nd.erase _
  ·split at hl
   ·rename_i q
    obtain ⟨p,hp,e⟩:=h.at_ l hl
    refine ⟨p,hp,?_⟩
    show (if lab (p:Int)=_ then _ else lab (p:Int))=l
    rw [e]
    split
    ·rename_i z;rw [z,q]
    ·rfl
   ·have hl':=my hl
    have nl:l ≠ lab a:=fun z=>by rw [z] at hl;exact absurd hl (fun m=>(oM.mem_erase_iff h.nd).mp m |>.1 rfl)
    obtain ⟨p,hp,e⟩:=h.at_ l hl'
    refine ⟨p,hp,?_⟩
    show (if lab (p:Int)=_ then _ else lab (p:Int))=l
    rw [e,if_neg nl]
  ·have:=h.cnt
   split
   ·omega
   ·have:=List.length_erase_le (a:=lab a) (l:=L)
    rw [List.length_erase]
    split <;> omega
theorem Xu.dos {n:Nat}{ds:List De}{s t:ES}(hd:qu ds s t):∀ {lab:Int->Nat} {L:List Nat} {k:Nat},Xu n s lab L k->(∀ d ∈ ds,∃ a b,d=.swap a b)->∃ lab' L',Xu n t lab' L' (k+ds.length):=by
 induction hd with
 | nil=>exact fun h _=>⟨_,_,h⟩
 | @cons e l _ _ _ d _ ih=>
  intro lab L k h sw
  obtain ⟨a,b,eab⟩:=sw e bJ
  subst eab
  obtain ⟨lab',L',h'⟩:=h.step d
  obtain ⟨lab2,L2,h2⟩:=ih h' fun g hg=>sw g (aZ _ hg)
  exact ⟨lab2,L2,by rw [aK,show k+(l.length+1)=k+1+l.length by omega];exact h2⟩
theorem Ea {α:Type}[BEq α][LawfulBEq α]:∀ {l r:List α},l.Nodup->(∀ x ∈ l,x ∈ r)->l.length<=r.length
 | [],_,_,_=>cn _
 | a :: l,r,nd,hs=>by
  obtain ⟨h1,h2⟩:=bT.mp nd
  have ha:=hs a (by simp)
  have:=Ea (l:=l) (r:=r.erase a) h2 fun x hx=>(ic (show x ≠ a from fun e=>h1 (by rw [<- e];exact hx))).mpr (hs x (by simp [hx]))
  rw [eU ha] at this
  have:0<r.length:=mh ha
  rw [aK];omega
theorem wG {α:Type}:∀ (l:List α) (p:α->Bool),(l.filter p).length+(l.filter fun x=>!p x).length=l.length
 | [],_=>rfl
 | a :: l,p=>by
  have:=wG l p
  rw [eZ,eZ]
  cases p a <;> simp only [hX,iK,gn,if_true,if_false,aK] <;> omega
theorem WT (ho:zF n os)(lT:T.length=n)(hd:qu ds ((zA 0 1 n).map some,none) (T.map some,none))(hg:∀ t:Nat,t<n->T.getD (os.getD t 0).toNat 0=(t:Int))(sw:∀ d ∈ ds,∃ a b,d=.swap a b):Ky os n<=ds.length+(zr os n).length:=by
 have G:=Zu ho
 obtain ⟨lab,L,h⟩:=Xu.dos hd (n:=n) (lab:=fun x=>x.toNat) (L:=bI n) (k:=0) ⟨fun i x e=>by
  have e:((zA 0 1 n).map some)[i]?=some (some x):=e
  have hi:=(aA.mp e).1
  rw [am,zD] at hi
  rw [KC hi] at e
  cases e;rfl,gZ,fun l hl=>⟨l,df.mp hl,aY l⟩,by rw [cq];omega⟩ sw
 rw [lZ] at h
 have lo:∀ t:Nat,t<n->lab (os.getD t 0)=lab t:=fun t ht=>by
  obtain ⟨g0,g1⟩:=ho.getD (i:=t) ht
  have:=h.lb (os.getD t 0).toNat (t:Int) (by show (T.map some)[_]?=_;rw [yw (by omega),hg t ht])
  rw [cb g0] at this
  exact this
 have lr:∀ r ∈ zr os n,∀ k,k<r.length->lab (r.getD k 0)=lab (r.getD 0 0):=fun r hr k=>by
  induction k with
  | zero=>exact fun _=>rfl
  | succ k ih=>
   intro hk
   have nx:=G.nx r hr k (by omega)
   rw [lK hk] at nx
   have hm:r.getD k 0 ∈ r:=by rw [af,aj (by omega:k<r.length)];exact bo _
   obtain ⟨b0,b1⟩:=G.bd r hr _ hm
   have:=lo (r.getD k 0).toNat (by omega)
   rw [nx,cb b0] at this
   rw [this];exact ih (by omega)
 have sub:∀ l ∈ L,l ∈ (((bI n).filter fun (i:Nat)=>decide (os.getD i 0=(i:Int))).map fun (i:Nat)=>lab i) ++ (zr os n).map fun r=>lab (r.getD 0 0):=fun l hl=>by
  obtain ⟨p,hp,e⟩:=h.at_ l hl
  by_cases c:os.getD p 0=(p:Int)
  ·exact eO _ (bn.mpr ⟨p,ik.mpr ⟨df.mpr hp,decide_eq_true c⟩,e⟩)
  ·have hm:(p:Int) ∈ (zr os n).flatten:=ck fun z=>c (G.st p hp z)
   obtain ⟨r,hr,hx⟩:=lL.mp hm
   obtain ⟨k,hk⟩:=bQ hx
   have:=lr r hr k (aA.mp hk).1
   rw [show r.getD k 0=(p:Int) by rw [af,hk];rfl,e] at this
   exact bD _ (bn.mpr ⟨r,hr,this.symm⟩)
 have:=Ea h.nd sub
 rw [bg,am,am] at this
 have cf:=wG (bI n) fun (i:Nat)=>decide (os.getD i 0=(i:Int))
 rw [cq] at cf
 have:=h.cnt
 unfold Ky
 omega
def OkE (x:Dat):Prop:=OkX x/\OkS x
theorem Lw {l:List Dat}{w:Str}{ks:List Nat}(hk:ks.length<=2)(hb:∀ k ∈ ks,k<10 ^ 20)(hw:Sh 100 (.str w))(e:l=.str w :: ks.map fun k:Nat=>Dat.int k):OkE (.tup l):=by
 subst e
 have hd1:dp (.tup (.str w :: ks.map fun k:Nat=>Dat.int k))<=1:=by
  rw [dp]
  refine cU (xE (n:=0) fun d hd=>?_)
  rcases aO.mp hd with rfl | hd
  ·rw [zY];exact aF 0
  ·obtain ⟨k,_,rfl⟩:=bn.mp hd;rw [Jw];exact aF 0
 refine ⟨⟨by omega,fun l' e=>?_⟩,by omega,?_,MD (by omega) fun l' e=>?_⟩
 ·cases e;rw [aK,am];omega
 ·refine (LB (b:=100) (n:=3) (by rw [aK,am];omega) fun d hd=>?_).mono (by decide)
  rcases aO.mp hd with rfl | hd
  ·exact hw
  ·obtain ⟨k,hk,rfl⟩:=bn.mp hd
   exact (MV (by have:=hb k hk;omega)).mono (by decide)
 ·rcases e with e | e <;> cases e
  refine ⟨by rw [aK,am];omega,fun d hd l' e=>?_⟩
  rcases aO.mp hd with rfl | hd
  ·cases e
  ·obtain ⟨k,_,rfl⟩:=bn.mp hd;cases e
theorem N9 (d:De):Sh 100 (.str (dW d)):=by
 have h1:Sh 100 (.str (au "swap")):=⟨by decide +kernel,by decide +kernel⟩
 have h2:Sh 100 (.str (au "take")):=⟨by decide +kernel,by decide +kernel⟩
 have h3:Sh 100 (.str (au "move")):=⟨by decide +kernel,by decide +kernel⟩
 have h4:Sh 100 (.str (au "lay")):=⟨by decide +kernel,by decide +kernel⟩
 cases d <;> assumption
theorem Em (h:∀ k ∈ dPs d,k<10 ^ 20):OkE (dD d):=by
 rw [Dl]
 exact Lw (Gn d) h (N9 d) rfl
theorem Bm {l:List De}{s t:ES}(h:qu l s t):∀ d ∈ l,∀ k ∈ dPs d,k<s.1.length:=by
 induction h with
 | nil=>intro d hd;cases hd
 | @cons d l s t u h1 h2 ih=>
  intro d' hd'
  rcases aO.mp hd' with rfl | hd'
  ·exact OB h1
  ·intro k hk
   rw [<- h1.len];exact ih d' hd' k hk
theorem xk {l:List De}{s t:ES}{n:Nat}(h:qu l s t)(c:yh n s):yh n t:=by
 induction h with
 | nil=>exact c
 | cons h1 h2 ih=>exact ih (QL h1 c)
structure OkW (x:Dat):Prop where
 p:OkP x
 d:dp x<=40
 s:(pdD x).showable=true
 l:(pdD x).shown.length<=aT
theorem YG {l:List Dat}(hl:l.length<=1000)(h:∀ d ∈ l,OkE d):OkW (.lst l):=by
 have sh:=Na (b:=500) (n:=1000) hl fun d hd=>(h d hd).2.s
 have hd:dp (.lst l)<=6:=by rw [dp];exact cU (xE fun d hd=>(h d hd).2.d)
 refine ⟨⟨by omega,fun l' e=>?_⟩,by omega,sh.s,bf sh.l (by rw [dq];decide)⟩
 rcases e with e | e <;> cases e
 exact ⟨hl,fun d hd=>(h d hd).1⟩
theorem Bh {α:Type}[DecidableEq α]:∀ {l r:List α},l.Nodup->(∀ x ∈ l,x ∈ r)->l.length<=r.length
 | [],_,_,_=>cn _
 | a :: l,r,nd,hs=>by
  have nd':=bT.mp nd
  have ha:=hs a bJ
  have ih:=Bh (l:=l) (r:=r.erase a) nd'.2 (fun x hx=>(ic (fun z=>nd'.1 (by rw [<- z];exact hx))).mpr (hs x (aZ _ hx)))
  rw [eU ha] at ih
  have:=mh ha
  rw [aK];omega
theorem HE {h:Int}(c:yh n (row,some h)):none ∈ row:=by
 by_cases hn:none ∈ row
 ·exact hn
 exfalso
 have hl:row.length=n:=c.1
 have cnt:∀ x,row.count (some x)+(if some h=some x then 1 else 0)=if 0<=x/\x<(n:Int) then 1 else 0:=c.2
 have nd:row.Nodup:=by
  rw [List.nodup_iff_count]
  intro a
  cases a with
  | none=>rw [List.count_eq_zero.mpr hn];omega
  | some x=>have:=cnt x;split at this <;> split at this <;> omega
 have hm:∀ x ∈ some h :: row,x ∈ (zA 0 1 n).map some:=fun x hx=>by
  rcases aO.mp hx with rfl | hx
  ·have:=cnt h
   rw [if_pos rfl] at this
   by_cases z:0<=h/\h<(n:Int)
   ·exact xY.mpr z
   ·rw [if_neg z] at this;omega
  ·cases x with
   | none=>exact absurd hx hn
   | some x=>
    have:=cnt x
    have p:=dk.mpr hx
    by_cases z:0<=x/\x<(n:Int)
    ·exact xY.mpr z
    ·rw [if_neg z] at this;omega
 have nd2:(some h :: row).Nodup:=bT.mpr ⟨fun hx=>by
  have:=cnt h
  have p:=dk.mpr hx
  rw [if_pos rfl] at this
  split at this <;> omega,nd⟩
 have:=Bh nd2 hm
 rw [aK,am,zD] at this
 omega
theorem wz {n:Nat}{os:List Int}(h:zF n os){r:List Int}:∀ {i:Nat},i<=n->r ∈ zr os i->∀ x ∈ r,0<=x/\x<(n:Int)
 | 0,_,hr=>by simp [zr] at hr
 | i+1,hi,hr=>by
  unfold zr at hr
  rcases cO.mp hr with z | z
  ·exact wz h (by omega) z
  ·by_cases c:kZ os i/\1<per os (i:Int)
   ·rw [if_pos c] at z
    rw [cK.mp z]
    intro x hx
    obtain ⟨k,_,e⟩:=qx.mp hx
    rw [<- e]
    exact qQ h (by omega) (by omega) k
   ·rw [if_neg c] at z;cases z
theorem Kc (h:zF n os){r:List Int}(hr:r ∈ zr os n):∀ x ∈ r,0<=x:=fun x hx=>(wz h (aF n) hr x hx).1
theorem yK {α β:Type}(f:α->List β)(l:List α)(i:Nat):(((l.take i).map f).flatten).length<=((l.map f).flatten).length:=by
 have e:(l.map f).flatten=((l.take i).map f).flatten ++ ((l.drop i).map f).flatten:=by
  rw [<- cG,<- aQ,gQ]
 rw [e,bg];omega
theorem xB {α β:Type}{f:α->List β}{g:α->Nat}:∀ (rs:List α),(∀ r ∈ rs,(f r).length=g r)->((rs.map f).flatten).length=(rs.map g).sum
 | [],_=>rfl
 | r :: rs,h=>by
  rw [aX,dE,bg,xB rs fun x hx=>h x (by simp [hx]),h r (by simp)];rfl
theorem wm:∀ (ps:List Nat) (g:Nat),(mvP g ps).length=ps.length
 | [],_=>rfl
 | p :: ps,g=>by show (mvP p ps).length+1=_;rw [wm ps p];rfl
theorem V9 {c:List Nat}(h:1<=c.length):(jP c).length=c.length+1:=by
 unfold jP
 rw [bg,aK,wm,bG,b8]
 show _+1+1=_
 omega
theorem KL:∀ (rs:List (List Int)),(rs.map fun r=>r.length+1).sum=yZ rs+rs.length
 | []=>rfl
 | r :: rs=>by
  have:=KL rs
  unfold yZ at *
  simp only [aX,dg,aK] at *
  omega
theorem Xb:∀ (rs:List (List Int)),(∀ r ∈ rs,1<=r.length)->(rs.map fun r=>r.length - 1).sum+rs.length=yZ rs
 | [],_=>rfl
 | r :: rs,h=>by
  have:=Xb rs fun x hx=>h x (by simp [hx])
  have h1:=h r (by simp)
  unfold yZ at *
  simp only [aX,dg,aK] at *
  omega
theorem Bf (os:List Int)(n:Nat):Ky os n<=n:=by
 have:=eI (fun (i:Nat)=>!decide (os.getD i 0=(i:Int))) (bI n)
 rw [cq] at this
 exact this
theorem yB (h:zF n os):(jT os n).length=Ky os n+(zr os n).length:=by
 unfold jT
 rw [xB (g:=fun r=>r.length+1),KL,ZI h]
 intro r hr
 have:=qY h (aF n) hr
 rw [V9 (by rw [am];omega),am]
theorem vm (h:zF n os):(qJ os n).length+(zr os n).length=Ky os n:=by
 unfold qJ
 rw [xB (g:=fun r=>r.length - 1),Xb,ZI h]
 ·intro r hr
  have:=qY h (aF n) hr;omega
 ·intro r _
  unfold zP
  rw [am,b8,am]
theorem Kl {n:Nat}{os:List Int}(h:zF n os){r:List Int}:∀ {i:Nat},i<=n->r ∈ zr os i->∃ k:Nat,k<i/\r=zG os (k:Int)/\1<per os (k:Int)/\kZ os k
 | 0,_,hr=>by simp [zr] at hr
 | i+1,hi,hr=>by
  unfold zr at hr
  rcases cO.mp hr with z | z
  ·obtain ⟨k,h1,h2⟩:=Kl h (by omega) z
   exact ⟨k,by omega,h2⟩
  ·by_cases c:kZ os i/\1<per os (i:Int)
   ·rw [if_pos c] at z
    exact ⟨i,by omega,cK.mp z,c.2,c.1⟩
   ·rw [if_neg c] at z;cases z
theorem Ez (h:zF n os){r:List Int}(hr:r ∈ zr os n):r.Nodup:=by
 obtain ⟨k,h1,rfl,h3,h4⟩:=Kl h (aF n) hr
 obtain ⟨m,hm,_⟩:=jC h (p:=(k:Int)) (by omega) (by omega)
 unfold zG
 rw [hm.per]
 exact ky h (by omega) (by omega) hm
theorem GL {n:Nat}{os:List Int}(h:zF n os){s:Nat × Nat}(hs:s ∈ qJ os n):s.1<n/\s.2<n/\s.1 ≠ s.2:=by
 unfold qJ at hs
 obtain ⟨l,hl,hs⟩:=lL.mp hs
 obtain ⟨r,hr,rfl⟩:=bn.mp hl
 have hb:=wz h (aF n) hr
 have nd:=Ez h hr
 have hlen:=qY h (aF n) hr
 unfold zP at hs
 obtain ⟨p,hp,rfl⟩:=bn.mp hs
 cases r with
 | nil=>simp at hlen
 | cons a l=>
  have hp:p ∈ l.map bc:=by simpa using hp
  obtain ⟨x,hx,rfl⟩:=bn.mp hp
  have ha:=hb a (by simp)
  have hx':=hb x (by simp [hx])
  refine ⟨?_,by omega,?_⟩
  ·show ((a :: l).map bc).getD 0 0<n
   show a.toNat<n
   omega
  ·show ((a :: l).map bc).getD 0 0 ≠ x.toNat
   show a.toNat ≠ x.toNat
   have:a ≠ x:=fun z=>(bT.mp nd).1 (by rw [z];exact hx)
   omega
theorem HG {l:List Dd}{s t:L2.RS}(h:Dos l s t):qu (l.map Gm) (s.1,s.2.1) (t.1,t.2.1):=by
 induction h with
 | nil=>exact .nil
 | cons d _ ih=>
  refine .cons ?_ ih
  cases d with
  | take h1=>exact .take h1
  | move h1 h2=>exact .move h1 h2
  | lay h1=>exact .lay h1
noncomputable def swD (s:Nat × Nat):De:=.swap s.1 s.2
theorem Of {R:List Int}{s:Nat × Nat}(h1:s.1<R.length)(h2:s.2<R.length)(ne:s.1 ≠ s.2):DoE (swD s) (R.map some,none) ((sw1 R s).map some,none):=by
 have:=DoE.swap (h:=none) ne (yw h1) (yw h2)
 unfold sw1
 rw [eR,eR]
 exact this
theorem Jr (R:List Int)(s:Nat × Nat):(sw1 R s).length=R.length:=by unfold sw1;rw [bp,bp]
theorem Xr:∀ (l:List (Nat × Nat)) (R:List Int),(∀ s ∈ l,s.1<R.length/\s.2<R.length/\s.1 ≠ s.2)->qu (l.map swD) (R.map some,none) ((swR R l).map some,none)
 | [],_,_=>.nil
 | s :: l,R,h=>by
  obtain ⟨h1,h2,h3⟩:=h s (by simp)
  exact .cons (Of h1 h2 h3) (Xr l (sw1 R s) fun t ht=>by rw [Jr];exact h t (by simp [ht]))
def yi (n:Nat)(ds:List De)(os:List Int):Prop:=∃ T:List Int,T.length=n/\qu ds ((zA 0 1 n).map some,none) (T.map some,none)/\∀ t:Nat,t<n->T.getD (os.getD t 0).toNat 0=(t:Int)
theorem yi.rings (h:zF n os):yi n ((jT os n).map Gm) os:=
 ⟨_,by rw [kB,zD],HG (Kf h (aG n 0) n (aF n)),fun t ht=>J0 h ht⟩
theorem yi.swaps (h:zF n os):yi n ((qJ os n).map swD) os:=
 ⟨_,by rw [kB,zD],Xr (qJ os n) (zA 0 1 n) (fun s hs=>by rw [zD];exact GL h hs),fun t ht=>J0 h ht⟩
theorem yi.told (h:yi n ds os)(ho:zF n os):∃ T:List Int,qu ds ((zA 0 1 n).map some,none) (T.map some,none)/\bL (T.map some)=os:=by
 obtain ⟨T,lT,hd,hg⟩:=h
 have cs:=xk hd (qL n)
 refine ⟨T,hd,?_⟩
 unfold bL
 refine fS (by rw [am,cq,am,lT,ho.1]) fun i h1 h2=>?_
 rw [oq,nK]
 have hi:i<n:=by rw [<- ho.1];exact h2
 obtain ⟨o0,o1⟩:=ho.getD hi
 have at1:(T.map some)[(os.getD i 0).toNat]?=some (some (i:Int)):=by rw [yw (by omega),hg i hi]
 have hm:some (i:Int) ∈ T.map some:=bh at1
 have hl:=fG hm
 have at2:(T.map some)[(T.map some).idxOf (some (i:Int))]?=some (some (i:Int)):=by rw [aj hl];exact congrArg some (iS hl)
 have:=cs.one (s:=(T.map some,none)) at1 at2
 rw [<- this,af,aj h2] at *
 show ((os[i]).toNat:Int)=os[i]
 have:0<=os[i]:=o0
 omega
theorem ER (hd:qu ds ((zA 0 1 n).map some,none) (row,none)):zF n (bL row)/\yi n ds (bL row):=by
 have cs:=xk hd (qL n)
 obtain ⟨T,rfl,ho⟩:=Bp cs
 have lT:=ho.1
 have ix:∀ t:Nat,t<n->(T.map some).idxOf (some (t:Int))<(T.map some).length/\(T.map some)[(T.map some).idxOf (some (t:Int))]?=some (some (t:Int)):=fun t ht=>by
  have hl:=fG (bn.mpr ⟨_,VG ho ht,rfl⟩:some (t:Int) ∈ T.map some)
  exact ⟨hl,by rw [aj hl];exact congrArg some (iS hl)⟩
 have gb:∀ t:Nat,t<n->(bL (T.map some)).getD t 0=((T.map some).idxOf (some (t:Int)):Int):=fun t ht=>by
  unfold bL
  rw [af,aE,cF (by rw [am,lT];exact ht)];rfl
 refine ⟨⟨by unfold bL;rw [am,cq,am,lT],?_,fun x hx=>?_⟩,T,lT,hd,fun t ht=>?_⟩
 ·unfold bL
  refine dZ.mpr (dM.imp_of_mem ?_ gZ)
  intro a b ha hb ne e
  rw [am,lT] at ha hb
  have h1:=(ix a (df.mp ha)).2
  have h2:=(ix b (df.mp hb)).2
  have e:(T.map some).idxOf (some (a:Int))=(T.map some).idxOf (some (b:Int)):=by omega
  rw [e,h2] at h1
  cases h1
  exact ne rfl
 ·unfold bL at hx
  obtain ⟨k,hk,rfl⟩:=bn.mp hx
  rw [am,lT] at hk
  have:=(ix k (df.mp hk)).1
  rw [am,lT] at this
  omega
 ·obtain ⟨h1,h2⟩:=ix t ht
  rw [am] at h1
  rw [yw h1] at h2
  rw [gb t ht,aY]
  injection h2 with h2;injection h2
noncomputable def XH:ASp:=fun xs M Q=>∃ (x:AV) (n:Nat) (os:List Int),xs=[x]/\qK x M=some (os.map fun i=>.d (.int i))/\zF n os/\n<=1000/\Q (.d (.lst ((zr os n).map ilD))) M
theorem Dk (vs:List V)(H:Hp)(Q:VK)(E:XK)(h:cSp XH vs H Q E):YX K vs H Q E:=by
 obtain ⟨xs,M,O,Q',w,r,⟨x,n,os,rfl,hx,ho,hn,q⟩,k⟩:=h
 obtain ⟨v,rfl,rv⟩:=jk r
 obtain ⟨a,rfl,ha⟩:=Eo w rv hx
 refine ⟨a,n,os,rfl,ha.elim (fun h=>.inl (SqL.of h)) (fun h=>.inr (SqT.of h)),ho,hn,fun p H' rs kp hp h1 h2 er=>?_⟩
 obtain ⟨e1,w1⟩:=Yx w kp
 refine k _ _ _ _ _ q e1 w1 (Rep.lst (w.fresh hp).1 h1 (by rw [<- er];unfold rfs;simp) fun i x d i1 i2=>?_)
 rw [<- er] at i2
 unfold rfs at i1
 rw [aE] at i1 i2
 rw [aE] at i2
 cases e:rs[i]? with
 | none=>rw [e] at i1;cases i1
 | some y=>
  rw [e] at i1 i2
  cases i1;cases i2
  have:=h2 y (bh e)
  exact Kh (w.fresh this.1).1 this.2.2
noncomputable def deD:De->Dat
 | .swap a b=>.tup [.str (au "swap"),.int (a:Int),.int (b:Int)]
 | .take p=>.tup [.str (au "take"),.int (p:Int)]
 | .move p g=>.tup [.str (au "move"),.int (p:Int),.int (g:Int)]
 | .lay g=>.tup [.str (au "lay"),.int (g:Int)]
noncomputable abbrev kL:cJ:=top 16
theorem yk:zn ["ring","deeds","goal","place"] ["ring"] (zd kL):=⟨rfl,rfl,rfl,by decide +kernel,rfl,by decide +kernel,by decide +kernel⟩
noncomputable def ddD (d:Dd):Dat:=deD (Gm d)
noncomputable def wu:ASp:=fun xs M Q=>∃ r:List Int,xs=[.d (ilD r)]/\(∀ x ∈ r,0<=x)/\1<=r.length/\r.length<=1000/\Q (.d (.lst ((jP (r.map bc)).map ddD))) M
theorem JW:∀ (ps:List Nat) (g p:Nat),mvP g (ps ++ [p])=mvP g ps ++ [.move p (ps.getLastD g)]
 | [],_,_=>rfl
 | q :: ps,g,p=>by
  show Dd.move q g :: mvP q (ps ++ [p])=_
  rw [JW ps q p,show (q :: ps).getLastD g=ps.getLastD q by simp [eL,nH]];rfl
theorem V2 {ps:List Nat}{g p:Nat}:(ps ++ [p]).getLastD g=p:=by simp [eL]
theorem ZS (a:At K mg "round_ring" kL)(B:Blt mg):Df P w K mg base "round_ring" ["ring"] 1 (cSp wu):=by
 refine dfA (k:=0) a yk (fun _ _ _ _ _ _=>Pn1_ fun _=>rfl) (fun xs M Q h=>?_) (fun f cdv A outer s H E hr=>?_)
 ·obtain ⟨_,rfl,_⟩:=h;rfl
 have sc:=yk
 have hsl:=hsl
 refine ⟨_,(zc (zB (i:=1) sc.nd rfl (by first | exact bq rfl | exact bu rfl) (jG (qA (za (qd (za zC (za (zv zI (pv 0) zg (fun _ _=>rfl)) zb))) zb))))
  (zc (zB (i:=2) sc.nd rfl (by first | exact bq rfl | exact bu rfl) (zv zI (pv 0) zg (fun _ _=>rfl)))
  (zc (qZ cc rfl (jJ (WG (pv 0) jh (qP zg) (qP (Vw QT zg)))) (zw (i:=3) sc.nd rfl (by first | exact bq rfl | exact bu rfl)) (zc (zZ (kl bB bV bW qD (pv 1) (za (qd (za zC (za (pv 3) (za (pv 2) zb)))) zb)))
  (zf (zB (i:=2) sc.nd rfl (by first | exact bq rfl | exact bu rfl) (pv 3)))))
  (zc (zZ (kl bB bV bW qD (pv 1) (za (qd (za zC (za (pv 2) zb))) zb)))
  (zf (zy (pv 1))))))),?_⟩
 refine ex2 (by walk_at "sim") ?_
 rintro xs M Q ⟨r,rfl,hr0,hc1,hc2,q⟩
 rw [show zJ ["ring","deeds","goal","place"] [.d (ilD r)]=[some (.d (ilD r)),none,none,none] from rfl]
 walk_at "ra"
 have h0:=K4 (ns:=r) (i:=0) (by omega) (by omega)
 rw [Int.toNat_zero] at h0
 rw [h0]
 walk_at "ra"
 have hg0:0<=r.getD 0 0:=by rw [af,aj (by omega)];exact hr0 _ (bo _)
 refine ⟨by omega,by omega,fun p hp _=>⟨by decide,?_⟩⟩
 rw [VE,WU]
 walk_at "ra"
 have hps:∀ i x,((r.drop 1).reverse.map fun i=>AV.d (.int i))[i]?=some x->∃ y:Nat,((r.map bc).drop 1).reverse[i]?=some y/\x=AV.d (.int (y:Int)):=fun i x hx=>by
  rw [aE] at hx
  rw [<- fA,<- fR]
  cases e:(r.drop 1).reverse[i]? with
  | none=>rw [e] at hx;cases hx
  | some z=>
   rw [e] at hx
   cases hx
   have:z ∈ r:=mX (List.mem_reverse.mp (bh e))
   exact ⟨z.toNat,by rw [aE,e];rfl,by rw [cb (hr0 z this)]⟩
 generalize hps':((r.map bc).drop 1).reverse=ps at hps
 have lps:((r.drop 1).reverse.map fun i=>AV.d (.int i)).length=ps.length:=by rw [<- hps'];simp
 have lps2:ps.length<=1000:=by rw [<- hps'];simp;omega
 have e0:(r.map bc).getD 0 0=(r.getD 0 0).toNat:=by
  rw [af,aE,af]
  cases r[0]? <;> rfl
 generalize (r.drop 1).reverse.map (fun i=>AV.d (.int i))=its at hps lps
 refine ⟨fun i ρ M'=>∃ u,ρ=[some (.d (ilD r)),some (.ref p),some (.d (.int ((ps.take i).getLastD (r.getD 0 0).toNat:Nat))),u]/\M'=mup M p (.lst (((Dd.take (r.getD 0 0).toNat :: mvP (r.getD 0 0).toNat (ps.take i)).map ddD).map .d)),⟨none,?_,?_⟩,?_,?_⟩
 ·show _=[_,_,some (AV.d (.int ((r.getD 0 0).toNat:Int))),_]
  rw [cb hg0]
 ·show _=mup M p (.lst [.d (.tup [.str (au "take"),.int ((r.getD 0 0).toNat:Int)])])
  rw [cb hg0]
 ·rintro i x ρ M' hx ⟨u,rfl,rfl⟩
  obtain ⟨y,hy,rfl⟩:=hps i x hx
  have tk:ps.take (i+1)=ps.take i ++ [y]:=by rw [cZ,hy];rfl
  have hi:=(aA.mp hy).1
  walk_at "ra"
  refine ⟨⟨_,jj ze⟩,by omega,_,ze,?_,?_⟩
  ·simp only [am,aK,wm,bZ];omega
  ·refine ⟨by rw [tk,V2],?_⟩
   rw [tk,JW,aQ,aQ];rfl
 ·rintro ρ M' ⟨u,rfl,rfl⟩
  rw [lps,dr]
  walk_at "ra"
  refine ⟨⟨_,jj ze⟩,by omega,_,ze,?_,?_⟩
  ·simp only [am,aK,wm];omega
  ·refine ⟨_,_,wf (Fr.refl.mup hp _) hp ze (ds:=(jP (r.map bc)).map ddD) ?_,q⟩
   rw [<- zM,jP,e0,hps',aQ,aQ];rfl
noncomputable abbrev ym:cJ:=top 17
theorem vQ:zn ["order","plan","ring"] ["order"] (zd ym):=⟨rfl,rfl,rfl,by decide +kernel,rfl,by decide +kernel,by decide +kernel⟩
noncomputable def wN:ASp:=fun xs M Q=>∃ (x:AV) (n:Nat) (os:List Int),xs=[x]/\qK x M=some (os.map fun i=>.d (.int i))/\zF n os/\n<=1000/\Q (.d (.lst ((jT os n).map ddD))) M
theorem JP (a:At K mg "by_rings" ym)(B:Blt mg)(D_rings:Df P w K mg base "rings" ["order"] 2 (cSp XH))(D_round_ring:Df P w K mg base "round_ring" ["ring"] 2 (cSp wu)):Df P w K mg base "by_rings" ["order"] 3 (cSp wN):=by
 refine dfA (k:=2) a vQ (fun _ _ _ _ _ _=>Pn1_ fun _=>rfl) (fun xs M Q h=>?_) (fun f cdv A outer s H E hr=>?_)
 ·obtain ⟨_,_,_,rfl,_⟩:=h;rfl
 have sc:=vQ
 have hsl:=hsl
 refine ⟨_,(zc (zB (i:=1) sc.nd rfl (by first | exact bq rfl | exact bu rfl) (jG (qA zb)))
  (zc (qZ cc rfl (jJ (zU D_rings hr rfl (za (pv 0) zb))) (zw (i:=2) sc.nd rfl (by first | exact bq rfl | exact bu rfl)) (zf (zZ (kl bB PySem.F.slot_list_extend PySem.F.type_list_extend WY (pv 1) (za (zU D_round_ring hr rfl (za (pv 2) zb)) zb)))))
  (zf (zy (pv 1))))),?_⟩
 refine ex2 (by walk_at "sim") ?_
 rintro xs M Q ⟨x,n,os,rfl,hx,ho,hn,q⟩
 rw [show zJ ["order","plan","ring"] [x]=[some x,none,none] from rfl]
 walk_at "ra"
 intro p hp _
 refine ⟨x,n,os,rfl,yO hx hp _,ho,hn,_,rfl,?_⟩
 have hlen:∀ i,(((((zr os n).take i).map fun r=>jP (r.map bc)).flatten).length)<=2000:=fun i=>by
  have h1:=yK (fun r:List Int=>jP (r.map bc)) (zr os n) i
  have h2:=yB ho
  have h3:=Bf os n
  have h4:=yA os n
  unfold jT at h2
  omega
 refine ⟨fun i ρ M'=>∃ u,ρ=[some x,some (.ref p),u]/\M'=mup M p (.lst ((((((zr os n).take i).map fun r=>jP (r.map bc)).flatten).map ddD).map .d)),⟨none,rfl,rfl⟩,?_,?_⟩
 ·rintro i y ρ M' hy ⟨u,rfl,rfl⟩
  rw [aE,aE] at hy
  cases e:(zr os n)[i]? with
  | none=>rw [e] at hy;cases hy
  | some r=>
   rw [e] at hy
   cases hy
   have hm:=bh e
   have hrl:=qY ho (aF n) hm
   have tk:(zr os n).take (i+1)=(zr os n).take i ++ [r]:=by rw [cZ,e];rfl
   have l1:=hlen i
   have l2:=hlen (i+1)
   rw [tk,aQ,cG,bg] at l2
   walk_at "ra"
   refine ⟨⟨_,jj ze⟩,r,rfl,Kc ho hm,by omega,by omega,_,ze,_,rfl,?_,?_⟩
   ·simp only [am] at *
    have:([jP (r.map bc)].flatten).length=(jP (r.map bc)).length:=by simp
    simp only [aX,gF] at l2
    omega
   ·rw [kN,tk,aQ,cG,aQ,aQ]
    simp
 ·rintro ρ M' ⟨u,rfl,rfl⟩
  rw [am,am,dr]
  walk_at "ra"
  exact ⟨_,_,wf (Fr.refl.mup hp _) hp ze (zM _),q⟩
noncomputable abbrev yt:cJ:=top 18
theorem vS:zn ["order","ring","place"] ["order"] (zd yt):=⟨rfl,rfl,rfl,by decide +kernel,rfl,by decide +kernel,by decide +kernel⟩
noncomputable def Ex (s:Nat × Nat):Dat:=deD (swD s)
noncomputable def wA:ASp:=fun xs M Q=>∃ (x:AV) (n:Nat) (os:List Int),xs=[x]/\qK x M=some (os.map fun i=>.d (.int i))/\zF n os/\n<=1000/\Q (.d (.lst ((qJ os n).map Ex))) M
theorem Kt (a:At K mg "by_swaps" yt)(B:Blt mg)(D_rings:Df P w K mg base "rings" ["order"] 2 (cSp XH)):Df P w K mg base "by_swaps" ["order"] 3 (cSp wA):=by
 refine dfA (k:=2) a vS (fun _ _ _ _ _ _=>Pn1_ fun _=>rfl) (fun xs M Q h=>?_) (fun f cdv A outer s H E hr=>?_)
 ·obtain ⟨_,_,_,rfl,_⟩:=h;rfl
 have sc:=vS
 have hsl:=hsl
 refine ⟨_,(zf (zy (D3 (ts:=[1,2]) rfl rfl (jJ (zU D_rings hr rfl (za (pv 0) zb))) (fun _ _ _ _=>(zw (i:=1) sc.nd rfl (by first | exact bq rfl | exact bu rfl))) (fun _ _ _ _=>kC) (fun _ _ _ _ _=>(Hx rfl rfl (by intro _ e;cases e <;> rfl) (MY (K:=K) rfl (jl (AL (K:=K) rfl) (pv 1) (qP zg) jh)) (fun _=>rfl) (zw (i:=2) sc.nd rfl (by first | exact bq rfl | exact bu rfl)) kC (FD rfl (qd (za zC (za (zv (wO (K:=K) rfl) (pv 1) zg (fun _ _=>rfl)) (za (pv 2) zb)))) (fun _ _ z=>z)) (fun _ _ z=>z)))))),?_⟩
 refine ex2 (by walk_at "sim") ?_
 rintro xs M Q ⟨x,n,os,rfl,hx,ho,hn,q⟩
 rw [show zJ ["order","ring","place"] [x]=[some x,none,none] from rfl]
 walk_at "ra"
 refine ⟨x,n,os,rfl,hx,ho,hn,_,rfl,?_⟩
 have hlen:∀ i,(((((zr os n).take i).map fun r=>zP (r.map bc)).flatten).length)<=2000:=fun i=>by
  have h1:=yK (fun r:List Int=>zP (r.map bc)) (zr os n) i
  have h2:=vm ho
  have h3:=Bf os n
  unfold qJ at h2
  omega
 refine ⟨fun i acc ρ M'=>M=M'/\(∃ u v,ρ=[some x,u,v])/\acc=((((zr os n).take i).map fun r=>zP (r.map bc)).flatten.map Ex).map .d,⟨rfl,⟨_,_,rfl⟩,rfl⟩,?_,?_⟩
 ·rintro i y acc ρ M' hy ⟨rfl,⟨u,v,rfl⟩,rfl⟩
  rw [aE,aE] at hy
  cases e:(zr os n)[i]? with
  | none=>rw [e] at hy;cases hy
  | some r=>
   rw [e] at hy
   cases hy
   have hm:=bh e
   have hrl:=qY ho (aF n) hm
   have hr0:=Kc ho hm
   have tk:(zr os n).take (i+1)=(zr os n).take i ++ [r]:=by rw [cZ,e];rfl
   have l2:=hlen (i+1)
   rw [tk,aQ,cG,bg,show ([r].map fun r=>zP (r.map bc)).flatten=zP (r.map bc) by simp] at l2
   have hg0:0<=r.getD 0 0:=by rw [af,aj (by omega)];exact hr0 _ (bo _)
   have h0:=K4 (ns:=r) (i:=0) (by omega) (by omega)
   rw [Int.toNat_zero] at h0
   have hst:zP (r.map bc)=(r.drop 1).map fun x=>((r.getD 0 0).toNat,x.toNat):=by
    unfold zP
    rw [<- fA,bv]
    have:(r.map bc).getD 0 0=(r.getD 0 0).toNat:=by
     rw [af,aE,af]
     cases r[0]? <;> rfl
    rw [this];rfl
   walk_at "ra"
   rw [show (1:Int)=((1:Nat):Int) from rfl,vq,<- fA]
   walk_at "ra"
   generalize hpre:bS AV.d (bS Ex (bS (fun r=>zP (bS bc r)) (List.take i (zr os n))).flatten)=pre
   have lpre:pre.length+(r.drop 1).length<=2000:=by
    rw [<- hpre]
    simp only [am] at *
    rw [hst,am] at l2
    exact l2
   refine ⟨fun j acc ρ M'=>M=M'/\(∃ v,ρ=[some x,some (.d (ilD r)),v])/\acc=pre ++ (((r.drop 1).take j).map fun x=>((r.getD 0 0).toNat,x.toNat)).map (fun s=>AV.d (Ex s)),⟨rfl,⟨_,rfl⟩,(bP _).symm⟩,?_,?_⟩
   ·rintro j z acc ρ M' hz ⟨rfl,⟨v,rfl⟩,rfl⟩
    rw [aE] at hz
    cases ez:(r.drop 1)[j]? with
    | none=>rw [ez] at hz;cases hz
    | some t=>
     rw [ez] at hz
     cases hz
     have ht:0<=t:=hr0 t (mX (bh ez))
     have tk2:(r.drop 1).take (j+1)=(r.drop 1).take j ++ [t]:=by rw [cZ,ez];rfl
     have hj:=(aA.mp ez).1
     walk_at "ra"
     rw [h0]
     walk_at "ra"
     refine ⟨by omega,by rw [bg,am,am,bZ];omega,?_⟩
     rw [tk2,aQ,aQ,lf]
     refine ⟨⟨_,rfl⟩,?_⟩
     show _=_ ++ (_ ++ [AV.d (.tup [_,.int ((r.getD 0 0).toNat:Int),.int (t.toNat:Int)])])
     rw [cb hg0,cb ht]
   ·rintro acc ρ M' ⟨rfl,⟨v,rfl⟩,rfl⟩
    refine ⟨trivial,rfl,⟨_,_,rfl⟩,?_⟩
    rw [am,dr,tk,aQ,cG,aQ,aQ,hpre,show ([r].map fun r=>zP (r.map bc)).flatten=zP (r.map bc) by simp,hst,bv (g:=AV.d)]
    rfl
 ·rintro acc ρ M' ⟨rfl,_,rfl⟩
  rw [am,am,dr]
  exact ⟨rfl,_,zM _,_,_,qp Fr.refl _,q⟩
noncomputable def swK (a b:Nat):List Int:=if (a:Int)<=b then [(a:Int),b] else [(b:Int),a]
noncomputable def VZ:De->De->Bool
 | .swap a b,.swap c d=>decide (swK a b=swK c d)
 | x,y=>eqD (deD x) (deD y.back)
noncomputable def jR (l:List De)(d:De):List De:=match l.getLast? with
 | some e=>if VZ d e=true then l.dropLast else l ++ [d]
 | none=>l ++ [d]
noncomputable def tid (ds:List De):List De:=ds.foldl jR []
theorem DoE.det {d:De}{s t u:ES}(h:DoE d s t)(h':DoE d s u):t=u:=by
 cases h with
 | swap ne h1 h2=>
  cases h' with
  | swap ne' k1 k2=>rw [h1] at k1;rw [h2] at k2;cases k1;cases k2;rfl
 | take h1=>cases h' with | take k1=>rw [h1] at k1;cases k1;rfl
 | move h1 h2=>cases h' with | move k1 k2=>rw [h1] at k1;cases k1;rfl
 | lay h1=>cases h' with | lay k1=>rfl
theorem DoE.flip {a b:Nat}{s t:ES}(h:DoE (.swap a b) s t):DoE (.swap b a) s t:=by
 cases h with
 | @swap _ _ row hh x y ne h1 h2=>
  rw [show ((row.set a (some y)).set b (some x),hh)=(((row.set b (some x)).set a (some y)),hh) by rw [eA _ _ ne]]
  exact DoE.swap (fun z=>ne z.symm) h2 h1
theorem ZD {a b:List De}{s u:ES}(h:qu (a ++ b) s u):∃ t,qu a s t/\qu b t u:=by
 induction a generalizing s with
 | nil=>exact ⟨s,.nil,h⟩
 | cons d a ih=>
  cases h with
  | cons h1 h2=>obtain ⟨t,k1,k2⟩:=ih h2;exact ⟨t,.cons h1 k1,k2⟩
noncomputable def De.nf:De->De
 | .swap a b=>.swap (min a b) (max a b)
 | d=>d
theorem HB (d:De):d.back.nf=d.nf.back:=by cases d <;> rfl
theorem kD {x y:De}(h:eqD (deD x) (deD y)=true):x=y:=by
 cases x <;> cases y <;> simp only [deD,eqD,kI,nv,gI,cS,beq_iff_eq,gn] at h <;> first | (obtain ⟨_,h1,h2⟩:=h;congr 1 <;> omega) | (obtain ⟨_,h1⟩:=h;congr 1;omega) | exact absurd h.1 (by decide +kernel)
theorem wJ (x:De):eqD (deD x) (deD x)=true:=by cases x <;> simp [deD,eqD,kI]
theorem A5 (x y:De):VZ x y=true ↔ x.nf=y.nf.back:=by
 cases x with
 | swap a b=>
  cases y with
  | swap c d=>
   show decide (swK a b=swK c d)=true ↔ De.swap _ _=De.swap _ _
   rw [decide_eq_true_eq,De.swap.injEq]
   unfold swK
   split <;> split <;> simp only [om.injEq,and_true] <;> omega
  | _=>exact ⟨fun h=>absurd (kD h) (fun z=>nomatch z),fun h=>nomatch h⟩
 | take p=>
  cases y with
  | lay g=>exact ⟨fun h=>kD h,fun h=>by have h:De.take p=(De.lay g).back:=h;show eqD (deD (.take p)) (deD (De.lay g).back)=true;rw [h];exact wJ _⟩
  | _=>exact ⟨fun h=>absurd (kD h) (fun z=>nomatch z),fun h=>nomatch h⟩
 | lay p=>
  cases y with
  | take g=>exact ⟨fun h=>kD h,fun h=>by have h:De.lay p=(De.take g).back:=h;show eqD (deD (.lay p)) (deD (De.take g).back)=true;rw [h];exact wJ _⟩
  | _=>exact ⟨fun h=>absurd (kD h) (fun z=>nomatch z),fun h=>nomatch h⟩
 | move p q=>
  cases y with
  | move g k=>exact ⟨fun h=>kD h,fun h=>by have h:De.move p q=(De.move g k).back:=h;show eqD (deD (.move p q)) (deD (De.move g k).back)=true;rw [h];exact wJ _⟩
  | _=>exact ⟨fun h=>absurd (kD h) (fun z=>nomatch z),fun h=>nomatch h⟩
theorem DoE.nf {d e:De}(h:d.nf=e.nf){s t:ES}(k:DoE d s t):DoE e s t:=by
 cases d with
 | swap a b=>
  cases e with
  | swap c g=>
   have h:De.swap (min a b) (max a b)=De.swap (min c g) (max c g):=h
   rw [De.swap.injEq] at h
   obtain ⟨h1,h2⟩:=h
   by_cases z:a=c
   ·have:b=g:=by omega
    subst z this;exact k
   ·have e1:a=g:=by omega
    have e2:b=c:=by omega
    subst e1 e2;exact k.flip
  | _=>cases h
 | take p=>cases e <;> first | (cases h;exact k) | cases h
 | lay p=>cases e <;> first | (cases h;exact k) | cases h
 | move p q=>cases e <;> first | (cases h;exact k) | cases h
theorem Ap {l:List De}{d:De}{s u t:ES}(h:qu l s u)(k:DoE d u t):qu (jR l d) s t:=by
 unfold jR
 cases e:l.getLast? with
 | none=>exact h.append (.one k)
 | some x=>
  dsimp only
  by_cases c:VZ d x=true
  ·rw [if_pos c]
   have hl:l=l.dropLast ++ [x]:=by
    have hne:l ≠ []:=fun z=>by rw [z] at e;cases e
    have:=fq hne
    rw [ii hne] at e
    cases e
    exact this.symm
   rw [hl] at h
   obtain ⟨v,h1,h2⟩:=ZD h
   cases h2 with
   | cons h3 h4=>
    cases h4
    have:=(A5 d x).mp c
    have k2:DoE x.back u t:=DoE.nf (by rw [HB];exact this) k
    rw [k2.det h3.back]
    exact h1
  ·rw [if_neg c]
   exact h.append (.one k)
theorem Gs (h:qu ds s t):qu (tid ds) s t:=by
 have go:∀ (ds l:List De) (s u t:ES),qu l s u->qu ds u t->qu (ds.foldl jR l) s t:=by
  intro ds
  induction ds with
  | nil=>intro l s u t h1 h2;cases h2;exact h1
  | cons d r ih=>
   intro l s u t h1 h2
   cases h2 with
   | cons k1 k2=>exact ih _ _ _ _ (Ap h1 k1) k2
 exact go ds [] s s t .nil h
theorem V5 (l:List De)(d:De):(jR l d).length<=l.length+1:=by
 unfold jR
 split
 ·split
  ·rw [mM];omega
  ·rw [bg];exact aF _
 ·rw [bg];exact aF _
theorem Vj (ds:List De):(tid ds).length<=ds.length:=by
 have go:∀ (ds l:List De),(ds.foldl jR l).length<=l.length+ds.length:=by
  intro ds
  induction ds with
  | nil=>intro l;exact aF _
  | cons d r ih=>intro l;have:=ih (jR l d);have:=V5 l d;rw [eN,aK];omega
 have:=go ds []
 unfold tid
 rw [fk] at this
 omega
theorem X9 {l:List De}{x:De}(e:l.getLast?=some x):l=l.dropLast ++ [x]:=by
 have hne:l ≠ []:=fun z=>by rw [z] at e;cases e
 have:=fq hne
 rw [ii hne] at e
 cases e
 exact this.symm
noncomputable def Zt:ASp:=fun xs M Q=>∃ d:De,xs=[.d (deD d)]/\Q (.d (deD d.back)) M
noncomputable abbrev JC:cJ:=top 24
theorem Ki:zn ["deed","word"] ["deed"] (zd JC):=⟨rfl,rfl,rfl,by decide +kernel,rfl,by decide +kernel,by decide +kernel⟩
theorem B2 (a:At K mg "back_deed" JC)(B:Blt mg):Df P w K mg base "back_deed" ["deed"] 1 (cSp Zt):=by
 refine dfA (k:=0) a Ki (fun _ _ _ _ _ _=>Pn1_ fun _=>rfl) (fun xs M Q h=>?_) (fun f cdv A outer s H E hr=>?_)
 ·obtain ⟨_,rfl,_⟩:=h;rfl
 have sc:=Ki
 have hsl:=hsl
 refine ⟨_,(zc (zB (i:=1) sc.nd rfl (by first | exact bq rfl | exact bu rfl) (zv zI (pv 0) zg (fun _ _=>rfl)))
  (zc (zS (zq (qt hr.units) (pv 1) zC (zt _)) (zf (zy (qd (za zC (za (zv zI (pv 0) zg (fun _ _=>rfl)) zb))))) zx)
  (zc (zS (zq (qt hr.units) (pv 1) zC (zt _)) (zf (zy (qd (za zC (za (zv zI (pv 0) zg (fun _ _=>rfl)) zb))))) zx)
  (zc (zS (zq (qt hr.units) (pv 1) zC (zt _)) (zf (zy (qd (za zC (za (zv zI (pv 0) zg (fun _ _=>rfl)) (za (zv zI (pv 0) zg (fun _ _=>rfl)) zb)))))) zx)
  (zf (zy (pv 0))))))),?_⟩
 refine ex2 (by walk_at "sim") ?_
 rintro xs M Q ⟨d,rfl,q⟩
 rw [show zJ ["deed","word"] [.d (deD d)]=[some (.d (deD d)),none] from rfl]
 cases d with
 | swap a b=>
  unfold deD
  walk_at "ra"
  refine ⟨_,rfl,_,rfl,by rw [zY];omega,?_⟩
  rw [if_neg (by decide +kernel)]
  refine ⟨_,rfl,by rw [zY];omega,?_⟩
  rw [if_neg (by decide +kernel)]
  refine ⟨_,rfl,by rw [zY];omega,?_⟩
  rw [if_neg (by decide +kernel)]
  exact ⟨_,_,qp Fr.refl _,q⟩
 | take p=>
  unfold deD
  walk_at "ra"
  refine ⟨_,rfl,_,rfl,by rw [zY];omega,?_⟩
  rw [if_pos (by decide +kernel)]
  exact ⟨_,rfl,by omega,_,rfl,_,_,qp Fr.refl _,q⟩
 | move p g=>
  unfold deD
  walk_at "ra"
  refine ⟨_,rfl,_,rfl,by rw [zY];omega,?_⟩
  rw [if_neg (by decide +kernel)]
  refine ⟨_,rfl,by rw [zY];omega,?_⟩
  rw [if_neg (by decide +kernel)]
  refine ⟨_,rfl,by rw [zY];omega,?_⟩
  rw [if_pos (by decide +kernel)]
  exact ⟨_,rfl,_,rfl,by omega,_,rfl,_,_,qp Fr.refl _,q⟩
 | lay g=>
  unfold deD
  walk_at "ra"
  refine ⟨_,rfl,_,rfl,by rw [zY];omega,?_⟩
  rw [if_neg (by decide +kernel)]
  refine ⟨_,rfl,by rw [zY];omega,?_⟩
  rw [if_pos (by decide +kernel)]
  exact ⟨_,rfl,by omega,_,rfl,_,_,qp Fr.refl _,q⟩
noncomputable def Y2:ASp:=fun xs M Q=>∃ (x:AV) (ds:List De),xs=[x]/\qK x M=some ((ds.map deD).map .d)/\ds.length<=10000/\Q (.d (.lst ((ds.reverse.map De.back).map deD))) M
noncomputable abbrev ZG:cJ:=top 25
theorem ZZ:zn ["plan","deed"] ["plan"] (zd ZG):=⟨rfl,rfl,rfl,by decide +kernel,rfl,by decide +kernel,by decide +kernel⟩
theorem Ao (a:At K mg "undone" ZG)(B:Blt mg)(D_back_deed:Df P w K mg base "back_deed" ["deed"] 1 (cSp Zt)):Df P w K mg base "undone" ["plan"] 2 (cSp Y2):=by
  refine dfA (k:=1) a ZZ (fun _ _ _ _ _ _=>Pn1_ fun _=>rfl) (fun xs M Q h=>?_) (fun f cdv A outer s H E hr=>?_)
  · obtain ⟨_,_,rfl,_⟩:=h;rfl
  have sc:=ZZ
  have hsl:=hsl
  refine ⟨_,(zf (zy (vb (ts:=[1]) rfl rfl (jJ (Ag (pv 0) (qP (Vw QT zg)))) (fun _ _ _ _=>(zw (i:=1) sc.nd rfl (by first | exact bq rfl | exact bu rfl))) (fun _ _ _ _=>kC) (fun _ _ _ _=>(zU D_back_deed hr rfl (za (pv 1) zb)))))),?_⟩
  refine ex2 (by walk_at "sim") ?_
  rintro xs M Q ⟨x,ds,rfl,hx,hl,q⟩
  rw [show zJ ["plan","deed"] [x]=[some x,none] from rfl]
  walk_at "ra"
  have key:Xd (yo 1) KQ (yS (Y9 Zt (yG (yf 1) JY))) (fun M'=>True) (fun acc x M'=>∃ ds,pur acc=some ds/\rtA M Q (AV.d (Dat.lst ds)) M') (bS AV.d (ds.map deD).reverse) [] [some x,none] M:=by
    rw [<- fR,bv]
    refine wa (fun o=>[some x,o]) _ (fun d=>.d (deD d.back)) ds.reverse ⟨_,rfl⟩ trivial (by rw [bG];omega) (fun o d Q hd q=>?_) fun o=>?_
    · show yo 1 (AV.d (deD d)) _ _ _
      walk_at "ra"
      exact ⟨d,rfl,q _⟩
    · rw [Bc (fun d:De=>deD d.back)]
      refine ⟨_,rfl,ZQ Fr.refl ?_⟩
      rw [bv] at q
      exact q
  rcases jd hx with h | ⟨l,rfl,h⟩
  · exact .inl ⟨_,h,_,zM _,key⟩
  · have e : l = ds.map deD := by
      have:=congrArg pur h
      rw [zM,zM] at this
      exact (b9 this).symm
    exact .inr ⟨_,rfl,by rw [e] at key ⊢;exact key⟩
noncomputable def VW:ASp:=fun xs M Q=>∃ (x y:De),xs=[.d (deD x),.d (deD y)]/\Q (.d (.bl (VZ x y))) M
theorem Ik {x y z:Dat}:¬(HT.sIx [x,y,z].length 0 (some 1)=0/\HT.sIx [x,y,z].length [x,y,z].length none=[x,y,z].length):=by
 show ¬(HT.sIx 3 0 (some 1)=0/\HT.sIx 3 3 none=3)
 decide
theorem Iy {a b:Nat}{ns:List Int}(p:ns.Perm [(a:Int),(b:Int)])(h:ns.Pairwise (·<=·)):ns=swK a b:=by
 have l:=p.length_eq
 match ns,l with
 | [x,y],_=>
  have h1:x<=y:=by simpa using h
  unfold swK
  have hx:x=(a:Int) \/ x=(b:Int):=by
   have:x ∈ [(a:Int),(b:Int)]:=p.subset (by simp)
   simpa using this
  have key:(x=(a:Int)/\y=(b:Int)) \/ (x=(b:Int)/\y=(a:Int)):=by
   rcases hx with rfl | rfl
   ·exact .inl ⟨rfl,by have:=nL p;simpa using this⟩
   ·exact .inr ⟨rfl,by have:=nL (p.trans (List.Perm.swap _ _ _));simpa using this⟩
  split <;> simp only [om.injEq,and_true] <;> omega
noncomputable abbrev Zl:cJ:=top 26
theorem QA:zn ["deed","last"] ["deed","last"] (zd Zl):=⟨rfl,rfl,rfl,by decide +kernel,rfl,by decide +kernel,by decide +kernel⟩
theorem WX (a:At K mg "undoes" Zl)(B:Blt mg)(D_back_deed:Df P w K mg base "back_deed" ["deed"] 1 (cSp Zt)):Df P w K mg base "undoes" ["deed","last"] 2 (cSp VW):=by
 refine dfA (k:=1) a QA (fun _ _ _ _ _ _=>Pn2_ fun _ _=>rfl) (fun xs M Q h=>?_) (fun f cdv A outer s H E hr=>?_)
 ·obtain ⟨_,_,rfl,_⟩:=h;rfl
 have sc:=QA
 have hsl:=hsl
 refine ⟨_,(zc (zS (PW.pt (vF (zq (qt hr.units) (zv zI (pv 0) zg (fun _ _=>rfl)) zC (zt _)) (xQ (zq (qt hr.units) (zv zI (pv 1) zg (fun _ _=>rfl)) zC (zt _))))) (zf (zy (jZ (qt hr.units) (zu va rfl B.sorted Z0 (za (jl Yo (pv 0) (qP zg) jh) zb)) (zu va rfl B.sorted Z0 (za (jl Yo (pv 1) (qP zg) jh) zb)) (zt _)))) zx)
  (zf (zy (jZ (qt hr.units) (pv 0) (zU D_back_deed hr rfl (za (pv 1) zb)) (zt _))))),?_⟩
 refine ex2 (by walk_at "sim") ?_
 rintro xs M Q ⟨x,y,rfl,q⟩
 rw [show zJ ["deed","last"] [.d (deD x),.d (deD y)]=[some (.d (deD x)),some (.d (deD y))] from rfl]
 walk_at "ra"
 have dd:∀ d:De,dp (deD d)<=40:=fun d=>by cases d <;> simp [deD,dp,dps]
 have nb:∀ (h:VZ x y=eqD (deD x) (deD y.back)),Zt [AV.d (deD y)] M fun y M2=>∃ x_2,Ji y M2=some x_2/\dp (deD x)<=40/\dp x_2<=40/\rtA M Q (AV.d (Dat.bl (eqD (deD x) x_2))) M2:=fun h=>
  ⟨y,rfl,_,rfl,dd x,dd _,ZQ Fr.refl (by rw [<- h];exact q)⟩
 cases x with
 | swap a b=>
  refine ⟨_,rfl,_,rfl,_,rfl,by rw [zY];omega,?_⟩
  rw [if_pos (by decide +kernel)]
  cases y with
  | swap c d=>
   refine ⟨_,rfl,_,rfl,_,rfl,by rw [zY];omega,?_⟩
   rw [if_pos (by decide +kernel)]
   refine ⟨_,rfl,Ik,[(a:Int),(b:Int)],rfl,bA (by decide:2<3) (by decide),fun n1 p1 s1=>⟨_,rfl,Ik,[(c:Int),(d:Int)],rfl,bA (by decide:2<3) (by decide),fun n2 p2 s2=>?_⟩⟩
   rw [Iy p1 s1,Iy p2 s2]
   refine ⟨bf (JA _) (by decide),bf (JA _) (by decide),ZQ Fr.refl ?_⟩
   rw [AZ]
   exact q
  | take p=>exact ⟨_,rfl,_,rfl,_,rfl,by rw [zY];omega,by rw [if_neg (by decide +kernel)];exact nb rfl⟩
  | move p g=>exact ⟨_,rfl,_,rfl,_,rfl,by rw [zY];omega,by rw [if_neg (by decide +kernel)];exact nb rfl⟩
  | lay g=>exact ⟨_,rfl,_,rfl,_,rfl,by rw [zY];omega,by rw [if_neg (by decide +kernel)];exact nb rfl⟩
 | take p=>exact ⟨_,rfl,_,rfl,_,rfl,by rw [zY];omega,by rw [if_neg (by decide +kernel)];exact nb (by cases y <;> rfl)⟩
 | move p g=>exact ⟨_,rfl,_,rfl,_,rfl,by rw [zY];omega,by rw [if_neg (by decide +kernel)];exact nb (by cases y <;> rfl)⟩
 | lay g=>exact ⟨_,rfl,_,rfl,_,rfl,by rw [zY];omega,by rw [if_neg (by decide +kernel)];exact nb (by cases y <;> rfl)⟩
theorem JM {α:Type}{l:List α}(h:0<l.length):atI l (-1)=l.getLast?:=by
 unfold atI ixN
 rw [if_neg (by decide),if_pos (by omega),iV]
 show l[(-1+(l.length:Int)).toNat]?=_
 congr 1;omega
theorem wr {l:List AV}(h:qK (.ref p) M=some l):qN (.ref p) M=some l:=(jd h).elim id fun ⟨_,z,_⟩=>nomatch z
noncomputable def Y1:ASp:=fun xs M Q=>∃ (x:AV) (ds:List De),xs=[x]/\qK x M=some ((ds.map deD).map .d)/\ds.length<=10000/\∀ p,M p=none->Q (.ref p) (mup M p (.lst (((tid ds).map deD).map .d)))
noncomputable abbrev wC:cJ:=top 27
theorem QC:zn ["plan","left","deed"] ["plan"] (zd wC):=⟨rfl,rfl,rfl,by decide +kernel,rfl,by decide +kernel,by decide +kernel⟩
theorem WC (a:At K mg "tidied" wC)(B:Blt mg)(D_undoes:Df P w K mg base "undoes" ["deed","last"] 2 (cSp VW)):Df P w K mg base "tidied" ["plan"] 3 (cSp Y1):=by
 refine dfA (k:=2) a QC (fun _ _ _ _ _ _=>Pn1_ fun _=>rfl) (fun xs M Q h=>?_) (fun f cdv A outer s H E hr=>?_)
 ·obtain ⟨_,_,rfl,_⟩:=h;rfl
 have sc:=QC
 have hsl:=hsl
 refine ⟨_,(zc (zB (i:=1) sc.nd rfl (by first | exact bq rfl | exact bu rfl) (jG (qA zb)))
  (zc (qZ cc rfl (jJ (pv 0)) (zw (i:=2) sc.nd rfl (by first | exact bq rfl | exact bu rfl)) (zf (zS (PW.pt (vF (zq QD (zu zp rfl B.len qg (za (pv 1) zb)) zg (zt _)) (xQ (j6 (zU D_undoes hr rfl (za (pv 2) (za (zv zI (pv 1) (Vw QT zg) (fun _ _=>rfl)) zb))) (fun _=>rfl))))) (zf (zZ (LJ bB PySem.F.slot_list_pop PySem.F.type_list_pop Lb (pv 1)))) (zf (zZ (kl bB bV bW qD (pv 1) (za (pv 2) zb)))))))
  (zf (zy (pv 1))))),?_⟩
 refine ex2 (by walk_at "sim") ?_
 rintro xs M Q ⟨x,ds,rfl,hx,hl,q⟩
 rw [show zJ ["plan","left","deed"] [x]=[some x,none,none] from rfl]
 walk_at "ra"
 intro p hp _
 have lenT:∀ i,(tid (ds.take i)).length<=i:=fun i=>bf (Vj _) (by rw [bZ];omega)
 refine ⟨_,yO hx hp _,⟨fun i ρ M'=>(∃ u,ρ=[some x,some (.ref p),u])/\i<=ds.length/\M'=mup M p (.lst (((tid (ds.take i)).map deD).map .d)),⟨⟨_,rfl⟩,cn _,rfl⟩,?_,?_⟩⟩
 ·rintro i y ρ M' hy ⟨⟨u,rfl⟩,hi,rfl⟩
  rw [aE,aE] at hy
  cases e:ds[i]? with
  | none=>rw [e] at hy;cases hy
  | some d=>
   rw [e] at hy
   cases hy
   have hil:=(aA.mp e).1
   have tk:tid (ds.take (i+1))=jR (tid (ds.take i)) d:=by
    rw [cZ,e];unfold tid;rw [eQ];rfl
   have lt:=lenT i
   refine ⟨yO hx hp _,?_⟩
   have hs:qK (.ref p) (mup M p (.lst (((tid (ds.take i)).map deD).map .d)))=some (((tid (ds.take i)).map deD).map .d):=qh ze
   walk_at "ra"
   refine ⟨_,hs,?_⟩
   generalize htt:tid (ds.take i)=t at *
   cases e2:t.getLast? with
   | none=>
    have t0:t=[]:=List.getLast?_eq_none_iff.mp e2
    have ts:jR t d=t ++ [d]:=by unfold jR;rw [e2]
    rw [tk,ts]
    subst t0
    rw [if_neg (by simp)]
    exact ⟨⟨_,wr hs⟩,_,ze,by simp only [gF,fk];omega,⟨_,rfl⟩,by omega,rfl⟩
   | some z=>
    have hl:=X9 e2
    have tp:0<t.length:=by rw [hl,bg];exact Nat.succ_pos _
    rw [if_pos (by rw [am,am];omega)]
    refine ⟨_,hs,.d (deD z),?_,d,z,rfl,_,rfl,?_⟩
    ·rw [JM (by rw [am,am];exact tp),gM,gM,e2];rfl
    ·by_cases c:VZ d z=true
     ·rw [if_pos c]
      have ts:jR t d=t.dropLast:=by unfold jR;rw [e2];exact if_pos c
      refine ⟨⟨_,wr hs⟩,_,ze,?_,⟨_,rfl⟩,by omega,by rw [kN,tk,ts,nX,nX]⟩
      rw [<- iV,gM,gM,e2]
      exact ⟨_,rfl⟩
     ·rw [if_neg c]
      have ts:jR t d=t ++ [d]:=by unfold jR;rw [e2];exact if_neg c
      exact ⟨⟨_,wr hs⟩,_,ze,by rw [am,am];omega,⟨_,rfl⟩,by omega,by rw [kN,tk,ts,aQ,aQ];rfl⟩
 ·rintro ρ M' ⟨⟨u,rfl⟩,_,rfl⟩
  rw [am,am,dr]
  refine ⟨yO hx hp _,?_⟩
  walk_at "ra"
  exact ⟨_,_,QH (Fr.refl.mup hp _) hp ze (zM _),q p hp⟩
noncomputable def Ks:ASp:=fun xs M Q=>∃ (x:AV) (ds:List De),xs=[x]/\qK x M=some ((ds.map deD).map .d)/\ds.length<=10000/\Q (.d (.lst ((tid ds).map deD))) M
theorem GD (vs:List V)(H:Hp)(Q:VK)(E:XK):cSp Ks vs H Q E->cSp Y1 vs H Q E:=GO (fun xs M Q ⟨y,ks,e,h1,h2,q⟩=>⟨y,ks,e,h1,h2,fun p hp=>⟨_,_,wf (Fr.refl.mup hp _) hp ze (zM _),q⟩⟩) vs H Q E
noncomputable def Mj:Dat->Option (List Dat)
 | .lst l=>some l
 | .tup l=>some l
 | _=>none
theorem LO {d:Dat}{l:List Dat}(h:Mj d=some l)(M:MH):qK (.d d) M=some (l.map .d):=by
 cases d with
 | lst m=>cases h;rfl
 | tup m=>cases h;rfl
 | _=>cases h
theorem QI {d:Dat} (h:Mj d=some (os.map .int))(M:MH):qK (.d d) M=some (os.map fun i=>.d (.int i)):=by rw [LO h,KO]
noncomputable def Bj:ASp:=fun xs M Q=>∃ (dx:Dat) (n:Nat) (os:List Int),xs=[.d dx]/\Mj dx=some (os.map .int)/\zF n os/\n<=2000/\∀ bs p,EL os bs->M p=none->Q (.ref p) (mup M p (.lst (bs.map fun i=>AV.d (.int i))))
noncomputable abbrev Q8:cJ:=top 7
theorem Kk:zn ["order","back","place","goal"] ["order"] (zd Q8):=⟨rfl,rfl,rfl,by decide +kernel,rfl,by decide +kernel,by decide +kernel⟩
theorem Du (a:At K mg "back_of" Q8)(B:Blt mg):Df P w K mg base "back_of" ["order"] 1 (cSp Bj):=by
 refine dfA (k:=0) a Kk (fun _ _ _ _ _ _=>Pn1_ fun _=>rfl) (fun xs M Q h=>?_) (fun f cdv A outer s H E hr=>?_)
 ·obtain ⟨_,_,_,rfl,_⟩:=h;rfl
 have sc:=Kk
 have hsl:=hsl
 refine ⟨_,(zc (zB (i:=1) sc.nd rfl (by first | exact bq rfl | exact bu rfl) (jG (zO Zi (qA (za zg zb)) (zu zp rfl B.len qg (za (pv 0) zb)))))
  (zc (qZ cc rfl (Qj rfl B.enumerate (za (pv 0) zb)) (jg (K:=K) 2 rfl rfl (zK (zw (i:=2) sc.nd rfl (by first | exact bq rfl | exact bu rfl)) (zK (zw (i:=3) sc.nd rfl (by first | exact bq rfl | exact bu rfl)) jf))) (zf (qE (pv 2) (qM (pv 1) (pv 3) zL))))
  (zf (zy (pv 1))))),?_⟩
 refine ex2 (by walk_at "sim") ?_
 rintro xs M Q ⟨dx,n,os,rfl,hx,ho,hn,q⟩
 rw [show zJ ["order","back","place","goal"] [.d dx]=[some (.d dx),none,none,none] from rfl]
 have h1:=ho.1
 refine zk fun r hr0=>?_
 walk_at "ra"
 refine ⟨by omega,_,QI hx M,by rw [am];omega,by rw [am];omega,by rw [am];omega,fun p hp _=>?_⟩
 rw [am,h1,aY,DJ]
 have hp1:=ze (M:=M) (a:=p) (o:=.lst (aG n (AV.d (.int 0))))
 have f1:=(Fr.refl (M:=M)).mup hp (.lst (aG n (AV.d (.int 0))))
 subst hr0
 refine zk fun r hr0=>?_
 walk_at "ra"
 refine ⟨_,QI hx _,_,jw _,?_⟩
 refine ⟨fun i ρ M'=>∃ u v bs,ρ=[some (.d dx),some (.ref p),u,v]/\M'=mup M p (.lst (bs.map fun i=>AV.d (.int i)))/\bs.length=n/\∀ j,j<i->bs.getD (os.getD j 0).toNat 0=(j:Int),⟨none,none,aG n 0,rfl,by rw [iR],by simp,fun j hj=>nomatch hj⟩,?_,?_⟩
 ·rintro i y ρ M' hy ⟨u,v,bs,rfl,rfl,lb,hj⟩
  refine ⟨QI hx _,?_⟩
  obtain ⟨d,hd,rfl⟩:=xP hy
  rw [aE] at hd
  cases e:os[i]? with
  | none=>rw [e] at hd;cases hd
  | some k=>
   rw [e] at hd
   cases hd
   have hi:=(aA.mp e).1
   have hk:os.getD i 0=k:=by rw [af,e];rfl
   have kb:=ho.2.2 k (bh e)
   walk_at "ra"
   refine ⟨_,ze,k.toNat,by rw [am,qV kb.1 (by omega)],bs.set k.toNat (i:Int),?_,by rw [bp];exact lb,fun j hj'=>?_⟩
   ·rw [eR]
   ·rw [w8 (by omega)]
    by_cases c:j=i
    ·subst c;rw [hk,if_pos rfl]
    ·rw [if_neg,hj j (by omega)]
     intro z
     have gj:=ho.getD (i:=j) (by omega)
     exact c (ho.inj (by omega) (by omega) (by rw [hk];omega))
 ·rintro ρ M' ⟨u,v,bs,rfl,rfl,lb,hj⟩
  refine ⟨QI hx _,?_⟩
  subst hr0
  walk_at "ra"
  refine ⟨_,_,QH (Fr.refl.mup hp _) hp ze (jw _),q bs p ⟨by omega,fun i hi=>hj i ?_⟩ hp⟩
  simp only [kg,am]
  exact hi
noncomputable def kX:Nat->RS->List Dat->Except (Nat × String) RS
 | _,t,[]=>.ok t
 | i,t,x :: l=>match doR t.1 t.2 x with
  | .error w=>.error (i,w)
  | .ok t'=>kX (i+1) t' l
noncomputable def Zm (n:Nat):RS:=(((zA 0 1 n).map some,none),aG n 0)
noncomputable def kR (n:Nat)(x:Dat):Except (Nat × String) RS:=match x with
 | .lst l=>kX 0 (Zm n) l
 | .tup l=>kX 0 (Zm n) l
 | _=>.error (0,"form")
structure XB (K:az)(cB:ay):Prop where
 x:Nt K cB
 i:iQ K (.ref cB) (.ref cB)=some true
 hd:eP K cB=true
 fw:bC K (.ref cB) "word"=some none
theorem jB {p rw_ mv:ay} (n1:rw_ ≠ mv)(n2:rw_ ≠ p)(n3:mv ≠ p):zW C (rmP C M p rw_ mv s ms) p rw_ mv s ms:=by
 unfold rmP
 exact ⟨by rw [zl (Ne.symm n3),zl (Ne.symm n2),ze],by rw [zl n1,ze],ze,n1⟩
theorem YU {p rw_ mv:ay}(s' s2:ES)(ms' ms2:List Int):rmP C (rmP C M p rw_ mv s' ms') p rw_ mv s2 ms2=rmP C M p rw_ mv s2 ms2:=by
 funext b
 unfold rmP mup
 by_cases c1:b=mv <;> by_cases c2:b=rw_ <;> by_cases c3:b=p <;> simp [c1,c2,c3]
theorem Z8 {p rw_ mv:ay} (t:zW C (rmP C M p rw_ mv s ms) p rw_ mv s ms):vI M (rmP C M p rw_ mv s ms) (.ref p) (.ref p) (rmP C M p rw_ mv s ms):=by
 have f:=K7 t .non
 exact ⟨f.1,f.2,.inl ⟨rfl,fun q z=>by cases z;rw [t.ins];exact fun z=>nomatch z⟩⟩
noncomputable def Iw (C cP:ay):xg:=fun xs M Q E=>∃ (n:Nat) (x:Dat),xs=[.d (.int n),.d x]/\n<=1000/\OkP x /\
 (∀ i w,kR n x=.error (i,w)->E cP (plw i w) M)/\(∀ t,kR n x=.ok t->∀ p rw_ mv,M p=none->M rw_=none->M mv=none->rw_ ≠ mv->rw_ ≠ p->mv ≠ p->Q (.ref p) (rmP C M p rw_ mv t.1 t.2))
noncomputable abbrev Xv:cJ:=top 20
theorem Vt:zn ["n","plan","room","at","deed","refusal"] ["n","plan"] (zd Xv):=⟨rfl,rfl,rfl,by decide +kernel,rfl,by decide +kernel,by decide +kernel⟩
theorem F8 {C cBadDeed cBadPlan:ay}(a:At K mg "room_behind" Xv)(B:Blt mg)(CL:Cls K C)(XG_BadDeed:mg "BadDeed"=some (.ref cBadDeed))(XG_BadPlan:mg "BadPlan"=some (.ref cBadPlan))(MX_BadPlan:MkX P w K mg base cBadPlan 5 2 fnP)(MXH_BadPlan:Jf P w K mg base cBadPlan 5 2 fnP)(X2:XB K cBadDeed)
  (M_Room:Mkr P w K mg base "Room" C ["self","n"] 5 (cSp (Qq C))) (DM_do:DmX P w K mg base C "do" ["self","thing"] 6 (ja (aDo C cBadDeed))):DfX P w K mg base "room_behind" ["n","plan"] 7 (ja (Iw C cBadPlan)):=by
 refine Mv (k:=6) a Vt (fun _ _ _ _ _ _=>Pn2_ fun _ _=>rfl) (fun xs M Q E h=>?_) (fun f cdv A outer s H HX OX MX E1 hr hD=>?_)
 ·obtain ⟨_,_,rfl,_⟩:=h;rfl
 have sc:=Vt
 have hsl:=hsl
 refine ⟨_,(zc (zS (xj (j6 (zu Wd rfl B.isinstance qS (za (pv 1) (za (qd (za (xX (v:=.ty "list") rfl B.list kF rfl) (za (xX (v:=.ty "tuple") rfl B.tuple jy rfl) zb))) zb))) (fun _=>rfl))) (zf (qy hD rfl MX_BadPlan hr rfl XG_BadPlan (za zg (za zC zb)))) zx)
  (zc (zB (i:=2) sc.nd rfl (by first | exact bq rfl | exact bu rfl) (E7 M_Room hr rfl (za (pv 0) zb)))
  (zc (qZ hD.po rfl (Qj rfl B.enumerate (za (pv 1) zb)) (jg (K:=K) 2 rfl rfl (zK (zw (i:=3) sc.nd rfl (by first | exact bq rfl | exact bu rfl)) (zK (zw (i:=4) sc.nd rfl (by first | exact bq rfl | exact bu rfl)) jf))) (zf (A6 (K:=K) (i:=5) rfl hD sc.nd rfl rfl rfl XG_BadDeed MXH_BadPlan hr rfl XG_BadPlan (fun _=>aF 2) (fun pins xe Eh hP=>(zf (zZ (jO CL DM_do hr hP (pv 2) (za (pv 4) zb))))) (fun x=>(za (pv 3) (za (Aw (K:=K) rfl (pv 5) rfl) zb))))))
  (zf (zy (pv 2)))))),?_⟩
 refine exX (by walk_at "sim") ?_
 rintro xs Q E0 rfl ⟨n,x,rfl,hn,ok,qe,q⟩
 rw [show zJ ["n","plan","room","at","deed","refusal"] [.d (.int n),.d x]=[some (.d (.int n)),some (.d x),none,none,none,none] from rfl]
 refine zk fun r1 hr1=>?_
 have hs2:0+1+1<=aT:=by omega
 have bad:kR n x=.error (0,"form")->∃ vs,[some (V.int 0),some (V.str (au "form"))]=bS some vs/\vs.length=2/\2<=1000/\exA MX E0 cBadPlan (fnP vs) MX:=fun h=>
  ⟨[.int 0,.str (au "form")],rfl,rfl,by decide,_,qp Fr.refl .non,qe 0 "form" h⟩
 have main:∀ l,(x=.tup l \/ x=.lst l)->kR n x=kX 0 (Zm n) l->r1 MX { nx:=fun x M'=>rtA MX Q (.d .non) M',rt:=rtA MX Q } [some (.d (.int n)),some (.d x),none,none,none,none] MX:=fun l hx hw=>by
  obtain ⟨ll,lo⟩:=ok.2 l hx
  have hsq:∀ M,qK (.d x) M=some (l.map AV.d):=fun M=>by rcases hx with rfl | rfl <;> rfl
  rw [hw] at qe q
  subst hr1
  refine zk fun r1 hr1=>?_
  walk_at "ra"
  intro p hp
  refine ⟨p,n,rfl,ze,hn,fun rw_ mv hrw hmv n1 n2 n3=>⟨rfl,?_⟩⟩
  rw [zl n2] at hrw
  rw [zl n3] at hmv
  have em:∀ t ms,rmP C (mup MX p (.ins C [])) p rw_ mv t ms=rmP C MX p rw_ mv t ms:=fun t ms=>by unfold rmP;rw [kN]
  rw [em]
  subst hr1
  refine zk fun r1 hr1=>?_
  walk_at "ra"
  refine ⟨_,hsq _,_,zM _,?_⟩
  have fr:∀ t ms,Fr MX (rmP C MX p rw_ mv t ms):=fun t ms=>((Fr.refl.mup hp _).mup hrw _).mup hmv _
  refine ⟨fun i ρ M'=>∃ (t:RS),M'=rmP C MX p rw_ mv t.1 t.2/\kX i t (l.drop i)=kX 0 (Zm n) l/\OkM t.1 t.2.length/\t.1.1.length=n/\t.2.length=n/\∃ u v,ρ=[some (.d (.int n)),some (.d x),some (.ref p),u,v,none],⟨Zm n,rfl,rfl,by show OkM _ (aG n (0:Int)).length;rw [bM];exact v9 n,by show ((zA 0 1 n).map some).length=n;rw [am,zD],bM,_,_,rfl⟩,?_,?_⟩
  ·rintro i y ρ M' hy ⟨t,rfl,ht,okt,l1,l2,u,v,rfl⟩
   refine ⟨hsq _,?_⟩
   obtain ⟨d,hd,rfl⟩:=xP hy
   have r:=jB (C:=C) (M:=MX) (s:=t.1) (ms:=t.2) n1 n2 n3
   have hi:=(aA.mp hd).1
   have dm:=lo d (bh hd)
   rw [iW hi,show l[i]=d from (aA.mp hd).2] at ht
   walk_at "ra"
   refine ⟨_,r.ins,rfl,p,rw_,mv,t.1,t.2,d,rfl,r,okt,dm.1,dm.2,fun wd hw=>?_,fun t' ht'=>?_⟩
   ·refine ⟨X2.i,.str (au wd),rfl,X2.x,X2.hd,X2.fw,by decide,by decide,MX,qp (fr _ _) .non,?_⟩
    refine qe i wd ?_
    rw [<- ht]
    unfold kX
    rw [hw]
   ·obtain ⟨dd,rfl,hdo⟩:=YO ht'
    have e2:=wU hdo t.2
    rw [ht'] at e2
    have e2:t'.2=(yM t.1 dd).foldl xL t.2:=by injection e2 with e2;rw [e2]
    have lm:t'.2.length=t.2.length:=by rw [e2,Z7]
    refine ⟨t',by rw [YU],?_,by rw [lm];exact hdo.okM okt,by rw [hdo.len];exact l1,by rw [lm];exact l2,_,rfl⟩
    rw [<- ht]
    conv=>rhs;unfold kX
    rw [ht']
  ·rintro ρ M' ⟨t,rfl,ht,okt,l1,l2,u,v,rfl⟩
   refine ⟨hsq _,?_⟩
   subst hr1
   walk_at "ra"
   rw [gL (by rw [kg];exact aF _)] at ht
   exact ⟨_,_,Z8 (jB n1 n2 n3),q t (by rw [<- ht];rfl) p rw_ mv hp hrw hmv n1 n2 n3⟩
 cases x with
 | tup l=>walk_at "ra";exact ⟨hs2,main l (.inl rfl) rfl⟩
 | lst l=>walk_at "ra";exact ⟨hs2,main l (.inr rfl) rfl⟩
 | non=>walk_at "ra";exact ⟨hs2,bad rfl⟩
 | bl b=>walk_at "ra";exact ⟨hs2,bad rfl⟩
 | str b=>walk_at "ra";exact ⟨hs2,bad rfl⟩
 | int b=>walk_at "ra";exact ⟨hs2,bad rfl⟩
 | ty _=>have:=ok.1;rw [dp] at this;omega
 | rng _ _ _=>have:=ok.1;rw [dp] at this;omega
 | scr _ _=>have:=ok.1;rw [dp] at this;omega
noncomputable def Ie (t:RS)(h:Int):Dat:=.tup [.str (au "open"),.tup (t.1.1.map oD),.int h,.tup (t.2.map .int)]
noncomputable def Vc (t:RS)(p:ay):List (Dat ⊕ ay):=[.inl (.str (au "done")),.inr p,.inl (.tup (t.2.map .int))]
noncomputable abbrev Fv (t:RS):List AV:=(bL t.1.1).map fun i=>.d (.int i)
theorem yp {n:Nat}:∀ {l:List Dat} {i:Nat} {t t':RS},kX i t l=.ok t'->yh n t.1->t.2.length=n->yh n t'.1/\t'.2.length=n
 | [],_,t,t',h,c,e=>by cases h;exact ⟨c,e⟩
 | x :: l,i,t,t',h,c,e=>by
  unfold kX at h
  cases hd:doR t.1 t.2 x with
  | error w=>rw [hd] at h;cases h
  | ok u=>
   rw [hd] at h
   obtain ⟨d,rfl,hdo⟩:=YO hd
   have e2:=wU hdo t.2
   rw [hd] at e2
   have e2:u.2=(yM t.1 d).foldl xL t.2:=by injection e2 with e2;rw [e2]
   exact yp h (QL hdo c) (by rw [e2,Z7];exact e)
theorem X4 {x:Dat}{t:RS}(h:kR n x=.ok t):yh n t.1/\t.2.length=n:=by
 unfold kR at h
 split at h
 ·exact yp h (qL n) bM
 ·exact yp h (qL n) bM
 ·cases h
noncomputable def BS (cP:ay):xg:=fun xs M Q E=>∃ (n:Nat) (x:Dat),xs=[.d (.int n),.d x]/\n<=1000/\OkP x /\
 (∀ i w,kR n x=.error (i,w)->E cP (plw i w) M)/\(∀ t,kR n x=.ok t->(∀ h,t.1.2=some h->Q (.d (Ie t h)) M)/\(t.1.2=none->∀ p,M p=none->Q (.tp (Vc t p)) (mup M p (.lst (Fv t)))))
noncomputable abbrev Dc:cJ:=top 21
theorem DQ:zn ["n","plan","room","row","hand","moved"] ["n","plan"] (zd Dc):=⟨rfl,rfl,rfl,by decide +kernel,rfl,by decide +kernel,by decide +kernel⟩
theorem Md {C cBadPlan:ay}(a:At K mg "walked" Dc)(B:Blt mg)(CL:Cls K C)(DX_room_behind:DfX P w K mg base "room_behind" ["n","plan"] 7 (ja (Iw C cBadPlan)))(D_back_of:Df P w K mg base "back_of" ["order"] 7 (cSp Bj))
  (M_row_now:Dm P w K mg base C "row_now" ["self"] 7 (cSp (Dv C))) (M_hand_now:Dm P w K mg base C "hand_now" ["self"] 7 (cSp (Az C))) (M_moved_now:Dm P w K mg base C "moved_now" ["self"] 7 (cSp (DW C))):DfX P w K mg base "walked" ["n","plan"] 8 (ja (BS cBadPlan)):=by
 refine Mv (k:=7) a DQ (fun _ _ _ _ _ _=>Pn2_ fun _ _=>rfl) (fun xs M Q E h=>?_) (fun f cdv A outer s H HX OX MX E1 hr hD=>?_)
 ·obtain ⟨_,_,rfl,_⟩:=h;rfl
 have sc:=DQ
 have hsl:=hsl
 refine ⟨_,(zc (zB (i:=2) sc.nd rfl (by first | exact bq rfl | exact bu rfl) (Z6 DX_room_behind hr rfl hD.passX (za (pv 0) (za (pv 1) zb))))
  (zc (zB (i:=3) sc.nd rfl (by first | exact bq rfl | exact bu rfl) (qX CL M_row_now hr (pv 2)))
  (zc (zB (i:=4) sc.nd rfl (by first | exact bq rfl | exact bu rfl) (qX CL M_hand_now hr (pv 2)))
  (zc (zB (i:=5) sc.nd rfl (by first | exact bq rfl | exact bu rfl) (qX CL M_moved_now hr (pv 2)))
  (zc (zS (zq jW (pv 4) qi (zt _)) (zf (zy (qd (za zC (za (pv 3) (za (pv 4) (za (pv 5) zb))))))) zx)
  (zf (zy (GV (qd (za zC (za (zU D_back_of hr rfl (za (pv 3) zb)) (za (pv 5) zb)))))))))))),?_⟩
 refine exX (by walk_at "sim") ?_
 rintro xs Q E0 rfl ⟨n,x,rfl,hn,ok,qe,q⟩
 rw [show zJ ["n","plan","room","row","hand","moved"] [.d (.int n),.d x]=[some (.d (.int n)),some (.d x),none,none,none,none] from rfl]
 refine zk fun r1 hr1=>?_
 walk_at "ra"
 refine ⟨n,x,rfl,hn,ok,fun i w h=>⟨_,qp Fr.refl .non,qe i w h⟩,fun t ht p rw_ mv hp hrw hmv n1 n2 n3=>?_⟩
 have fr:Fr MX (rmP C MX p rw_ mv t.1 t.2):=((Fr.refl.mup hp _).mup hrw _).mup hmv _
 have r:=jB (C:=C) (M:=MX) (s:=t.1) (ms:=t.2) n1 n2 n3
 generalize rmP C MX p rw_ mv t.1 t.2=M1 at fr r
 obtain ⟨cs,l2⟩:=X4 ht
 have l1:=cs.1
 subst hr1
 refine zk fun r1 hr1=>?_
 walk_at "ra"
 refine ⟨_,r.ins,rfl,p,rw_,mv,t.1,t.2,rfl,r,by omega,?_⟩
 subst hr1
 refine zk fun r1 hr1=>?_
 walk_at "ra"
 refine ⟨_,r.ins,rfl,p,rw_,mv,t.1,t.2,rfl,r,?_⟩
 subst hr1
 refine zk fun r1 hr1=>?_
 walk_at "ra"
 refine ⟨_,r.ins,rfl,p,rw_,mv,t.1,t.2,rfl,r,by omega,?_⟩
 subst hr1
 have q:=q t ht
 obtain ⟨⟨row,hd⟩,ms⟩:=t
 cases hd with
 | some h=>
  rw [show oD (some h)=.int h from rfl]
  walk_at "ra"
  exact ⟨by omega,ZQ fr (q.1 h rfl)⟩
 | none=>
  rw [show oD none=.non from rfl]
  have q:=q.2 rfl
  obtain ⟨os,rfl,ho⟩:=Bp cs
  walk_at "ra"
  refine ⟨_,n,os,rfl,?_,ho,by omega,fun bs z hb hz=>?_⟩
  ·show some ((os.map some).map oD)=_
   rw [bv];rfl
  ·have z0:=fr.non hz
   have e:=Ge ho hb
   refine ⟨by omega,Vc ((os.map some,none),ms) z,rfl,_,_,MS (fr.mup z0 _) z0 ze (jw _) (fun r h=>?_),?_⟩
   ·simp only [Vc,aO,cm,or_false,reduceCtorEq,false_or,cv.injEq] at h
    exact h
   ·have q:=q z z0
    rw [e]
    exact q
noncomputable def fnN (vs:List V):List (Str × V):=[("hand",vs.getD 0 .non)]
noncomputable abbrev wF:cJ:=(qF (top 4) 0)
theorem Qu:zn ["self","hand"] ["self","hand"] (zd wF):=⟨rfl,rfl,rfl,by decide +kernel,rfl,by decide +kernel,by decide +kernel⟩
theorem M9 {C f:ay}{fd:dz}(F:Fun K "__init__" "NotDone.__init__" wF f fd)(q:jp K C vG "ValueError.__new__" f=true)(hf:dh K (.ref f)=true)(S:ye K C "hand"):MkX P w K mg base C 1 1 fnN:=by
 refine X8 (k:=0) F Qu (fun _ _ _ _ _ _=>Pn2_ fun _ _=>rfl) q hf rfl (fun cdv A outer s H E=>?_)
 have sc:=Qu
 refine ⟨_,(zf (xZ (pv 0) (pv 1) rfl)),?_⟩
 intro a t0 us Q hl ha hq
 match us,hl with
 | [v],_=>
  show Qv _ _ _ _ _ _ _
  refine ⟨v,rfl,.ref a,rfl,a,C,t0,rfl,S,.inl ⟨ha,fun dx hd hne=>hq dx hd hne⟩⟩
noncomputable abbrev hdw (h:Int):List (Str × V):=[("hand",.int h)]
noncomputable def Fc (cP cN:ay):xg:=fun xs M Q E=>∃ (n:Nat) (x:Dat),xs=[.d (.int n),.d x]/\n<=1000/\OkP x /\
 (∀ i w,kR n x=.error (i,w)->E cP (plw i w) M)/\(∀ t,kR n x=.ok t->(∀ h,t.1.2=some h->E cN (hdw h) M)/\(t.1.2=none->Q (.d (ilD (bL t.1.1))) M))
noncomputable abbrev JE:cJ:=top 28
theorem KA:zn ["n","plan","told"] ["n","plan"] (zd JE):=⟨rfl,rfl,rfl,by decide +kernel,rfl,by decide +kernel,by decide +kernel⟩
variable {cBadPlan cNotDone:ay}
theorem Ay (a:At K mg "order_done" JE)(B:Blt mg)(XG_NotDone:mg "NotDone"=some (.ref cNotDone))(MX_NotDone:MkX P w K mg base cNotDone 7 1 fnN)(DX_walked:DfX P w K mg base "walked" ["n","plan"] 8 (ja (BS cBadPlan))):DfX P w K mg base "order_done" ["n","plan"] 9 (ja (Fc cBadPlan cNotDone)):=by
 refine Mv (k:=8) a KA (fun _ _ _ _ _ _=>Pn2_ fun _ _=>rfl) (fun xs M Q E h=>?_) (fun f cdv A outer s H HX OX MX E1 hr hD=>?_)
 ·obtain ⟨_,_,rfl,_⟩:=h;rfl
 have sc:=KA
 have hsl:=hsl
 refine ⟨_,(zc (zB (i:=2) sc.nd rfl (by first | exact bq rfl | exact bu rfl) (Z6 DX_walked hr rfl hD.passX (za (pv 0) (za (pv 1) zb))))
  (zc (zS (zq (qt hr.units) (zv Za (pv 2) zg (fun _ _=>rfl)) zC (zt _)) (zf (qy hD rfl MX_NotDone hr rfl XG_NotDone (za (zv Za (pv 2) zg (fun _ _=>rfl)) zb))) zx)
  (zf (zy (zv Za (pv 2) zg (fun _ _=>rfl)))))),?_⟩
 refine exX (by walk_at "sim") ?_
 rintro xs Q E0 rfl ⟨n,x,rfl,hn,ok,qe,q⟩
 rw [show zJ ["n","plan","told"] [.d (.int n),.d x]=[some (.d (.int n)),some (.d x),none] from rfl]
 refine zk fun r1 hr1=>?_
 walk_at "ra"
 refine ⟨n,x,rfl,hn,ok,fun i w h=>⟨_,qp Fr.refl .non,qe i w h⟩,fun t ht=>⟨fun h e=>?_,fun e p hp=>?_⟩⟩
 ·subst hr1
  unfold Ie
  walk_at "ra"
  refine ⟨_,rfl,_,rfl,by rw [zY];omega,?_⟩
  rw [if_pos (by decide +kernel)]
  exact ⟨_,rfl,[.int h],rfl,rfl,by decide,_,qp Fr.refl .non,(q t ht).1 h e⟩
 ·subst hr1
  unfold Vc
  walk_at "ra"
  refine ⟨_,rfl,_,rfl,_,rfl,by rw [zY];omega,?_⟩
  rw [if_neg (by decide +kernel)]
  exact ⟨_,rfl,_,rfl,_,_,wf (Fr.refl.mup hp _) hp ze (jw _),(q t ht).2 e⟩
noncomputable def IC (C:ay):ASp:=fun xs M Q=>∃ (p rw_ mv:ay) (s:ES) (ms:List Int),xs=[.ref p]/\zW C M p rw_ mv s ms/\s.1.length<=1000/\ms.length<=1000 /\
 ∀ p' rw' mv',M p'=none->M rw'=none->M mv'=none->rw' ≠ mv'->rw' ≠ p'->mv' ≠ p'->Q (.ref p') (rmP C M p' rw' mv' s ms)
noncomputable abbrev Yu:cJ:=(qF (top 11) 10)
theorem Vu:zn ["self","room"] ["self"] (zd Yu):=⟨rfl,rfl,rfl,by decide +kernel,rfl,by decide +kernel,by decide +kernel⟩
theorem IT {a b c y:AV}:jD (au "row") y [(au "row",a),(au "hand",b),(au "moved",c)]=[(au "row",y),(au "hand",b),(au "moved",c)]:=by
 unfold jD;rw [if_pos (by decide +kernel)]
theorem Gh {a b c y:AV}:jD (au "hand") y [(au "row",a),(au "hand",b),(au "moved",c)]=[(au "row",a),(au "hand",y),(au "moved",c)]:=by
 unfold jD;rw [if_neg (by decide +kernel)];unfold jD;rw [if_pos (by decide +kernel)]
theorem Nv {a b c y:AV}:jD (au "moved") y [(au "row",a),(au "hand",b),(au "moved",c)]=[(au "row",a),(au "hand",b),(au "moved",y)]:=by
 unfold jD;rw [if_neg (by decide +kernel)];unfold jD;rw [if_neg (by decide +kernel)];unfold jD;rw [if_pos (by decide +kernel)]
theorem GF (a:AtM K C "twin" "Room.twin" Yu)(R:RTx K C)(B:Blt mg)(M_Room:Mkr P w K mg base "Room" C ["self","n"] 5 (cSp (Qq C))):Dm P w K mg base C "twin" ["self"] 7 (cSp (IC C)):=by
 refine dmA (k:=6) a Vu (fun _ _ _ _ _ _=>Pn1_ fun _=>rfl) (fun xs M Q h=>?_) (fun f cdv A outer s H E hr=>?_)
 ·obtain ⟨_,_,_,_,_,rfl,_⟩:=h;rfl
 have sc:=Vu
 have hsl:=hsl
 have CL:=R.cl
 refine ⟨_,(zc (zB (i:=1) sc.nd rfl (by first | exact bq rfl | exact bu rfl) (E7 M_Room hr rfl (za (zu zp rfl B.len qg (za (qa (pv 0) rfl) zb)) zb)))
  (zc (xy (pv 1) (jG (zR jK rfl B.list kF (za (qa (pv 0) rfl) zb))) rfl)
  (zc (xy (pv 1) (qa (pv 0) rfl) rfl)
  (zc (xy (pv 1) (jG (zR jK rfl B.list kF (za (qa (pv 0) rfl) zb))) rfl)
  (zf (zy (pv 1))))))),?_⟩
 refine ex2 (by walk_at "sim") ?_
 rintro xs M Q ⟨p,rw_,mv,⟨row,hd⟩,ms,rfl,r,hl,hm,q⟩
 rw [show zJ ["self","room"] [.ref p]=[some (.ref p),none] from rfl]
 refine zk fun r1 hr1=>?_
 walk_at "ra"
 refine ⟨_,_,r.ins,R.cl,R.nr,_,rfl,_,qh r.row,fun p' hp'=>?_⟩
 have hl:row.length<=1000:=hl
 refine ⟨p',row.length,by rw [am],ze,hl,fun w0 m0 hw0 hm0 n1 n2 n3=>⟨rfl,?_⟩⟩
 rw [zl n2] at hw0
 rw [zl n3] at hm0
 have fr:Fr M (rmP C (mup M p' (.ins C [])) p' w0 m0 ((zA 0 1 row.length).map some,none) (aG row.length 0)):=(((Fr.refl.mup hp' _).mup hp' _).mup hw0 _).mup hm0 _
 have t:=jB (C:=C) (M:=mup M p' (.ins C [])) (s:=((zA 0 1 row.length).map some,none)) (ms:=aG row.length 0) n1 n2 n3
 have fr2:Fr M (mup M p' (.ins C [])):=Fr.refl.mup hp' _
 have r':zW C (rmP C (mup M p' (.ins C [])) p' w0 m0 ((zA 0 1 row.length).map some,none) (aG row.length 0)) p rw_ mv (row,hd) ms:=⟨by rw [fr p (qc r.ins)];exact r.ins,by rw [fr rw_ (qc r.row)];exact r.row,by rw [fr mv (qc r.mvd)];exact r.mvd,r.ne⟩
 have hw0':=hw0
 have e1:∀ q,q ≠ p'->q ≠ w0->q ≠ m0->rmP C (mup M p' (.ins C [])) p' w0 m0 ((zA 0 1 row.length).map some,none) (aG row.length 0) q=M q:=fun q a b c=>by
  unfold rmP;rw [zl c,zl b,zl a,zl a]
 generalize rmP C (mup M p' (.ins C [])) p' w0 m0 ((zA 0 1 row.length).map some,none) (aG row.length 0)=M1 at *
 subst hr1
 refine zk fun r1 hr1=>?_
 walk_at "ra"
 refine ⟨_,_,r'.ins,R.cl,R.nr,_,rfl,_,qh r'.row,fun w1 hw1 _=>?_⟩
 have pw1:p' ≠ w1:=fun z=>by rw [<- z,t.ins] at hw1;cases hw1
 refine ⟨_,_,by rw [zl pw1];exact t.ins,R.cl,R.nr,by show 3<1000;decide,?_⟩
 rw [IT]
 have e2:∀ q o o',q ≠ p'->q ≠ w1->mup (mup M1 w1 o) p' o' q=M1 q:=fun q o o' a b=>by rw [zl a,zl b]
 have ne1:∀ {q o},M q=some o->q ≠ p'/\q ≠ w1:=fun {q o} h=>⟨(fun z=>by rw [z,hp'] at h;cases h),(fun z=>by rw [<- z,fr q (qc h),h] at hw1;cases hw1)⟩
 subst hr1
 refine zk fun r1 hr1=>?_
 walk_at "ra"
 refine ⟨_,_,by rw [zl (ne1 r.ins).1,zl (ne1 r.ins).2];exact r'.ins,R.cl,R.nh,_,rfl,_,_,ze,R.cl,R.nh,by show 3<1000;decide,?_⟩
 rw [Gh]
 subst hr1
 refine zk fun r1 hr1=>?_
 walk_at "ra"
 refine ⟨_,_,by rw [zl (ne1 r.ins).1,zl (ne1 r.ins).2];exact r'.ins,R.cl,R.nm,_,rfl,_,by rw [qh (by rw [zl (ne1 r.mvd).1,zl (ne1 r.mvd).2];exact r'.mvd)],fun m1 hm1 _=>?_⟩
 have pm1:p' ≠ m1:=fun z=>by rw [<- z,ze] at hm1;cases hm1
 have wm1:w1 ≠ m1:=fun z=>by rw [<- z,zl (Ne.symm pw1),ze] at hm1;cases hm1
 refine ⟨_,_,by rw [zl pm1,ze],R.cl,R.nm,by show 3<1000;decide,?_⟩
 rw [Nv]
 subst hr1
 walk_at "ra"
 have hm1':M m1=none:=by rw [zl (Ne.symm pm1),zl (Ne.symm wm1)] at hm1;exact fr.non hm1
 have hw1':M w1=none:=fr.non hw1
 have F:=Z8 (C:=C) (M:=M) (s:=(row,hd)) (ms:=ms) (jB wm1 (Ne.symm pw1) (Ne.symm pm1))
 refine ⟨_,_,⟨fun z=>?_,F.cl,.inl ⟨rfl,fun z hz=>by obtain rfl:p'=z:=hz;unfold rmP;rw [zl pm1,zl pw1,ze];exact fun z=>nomatch z⟩⟩,q p' w1 m1 hp' hw1' hm1' wm1 (Ne.symm pw1) (Ne.symm pm1)⟩
 by_cases c1:z=m1
 ·rw [c1];unfold rmP;rw [ze,zl (Ne.symm pm1),ze];exact .inl rfl
 ·by_cases c2:z=w1
  ·rw [c2];unfold rmP;rw [zl wm1,ze,zl (Ne.symm pw1),zl wm1,zl (Ne.symm pw1),ze];exact .inl rfl
  ·by_cases c3:z=p'
   ·rw [c3];unfold rmP;rw [zl pm1,zl pw1,ze,ze];exact .inl rfl
   ·have e3:rmP C M p' w1 m1 (row,hd) ms z=M z:=by unfold rmP;rw [zl c1,zl c2,zl c3]
    rw [e3,zl c3,zl c1,zl c3,zl c2]
    cases e:M z with
    | some o=>exact .inl (by rw [fr z (qc e),e])
    | none=>exact .inr ⟨rfl,rfl⟩
noncomputable def BJ:ASp:=fun xs M Q=>∃ (y:Dat) (ds:List De),xs=[.d y]/\(y=.lst (ds.map dD) \/ y=.tup (ds.map dD))/\ds.length<=1000/\Q (.d (.tup [.int ((ds.map dW).count (au "swap")),.int ((ds.map dW).count (au "take")),.int ((ds.map dW).count (au "move")),.int ((ds.map dW).count (au "lay"))])) M
noncomputable abbrev Ju:cJ:=top 22
theorem K1:zn ["plan","words","deed","word"] ["plan"] (zd Ju):=⟨rfl,rfl,rfl,by decide +kernel,rfl,by decide +kernel,by decide +kernel⟩
theorem Fd (a:At K mg "deeds_of" Ju)(B:Blt mg):Df P w K mg base "deeds_of" ["plan"] 1 (cSp BJ):=by
 refine dfA (k:=0) a K1 (fun _ _ _ _ _ _=>Pn1_ fun _=>rfl) (fun xs M Q h=>?_) (fun f cdv A outer s H E hr=>?_)
 ·obtain ⟨_,_,rfl,_⟩:=h;rfl
 have sc:=K1
 have hsl:=hsl
 refine ⟨_,(zc (zB (i:=1) sc.nd rfl (by first | exact bq rfl | exact bu rfl) (vb (ts:=[2]) rfl rfl (jJ (pv 0)) (fun _ _ _ _=>(zw (i:=2) sc.nd rfl (by first | exact bq rfl | exact bu rfl))) (fun _ _ _ _=>kC) (fun _ _ _ _=>(zv (wO (K:=K) rfl) (pv 2) zg (fun _ _=>rfl)))))
  (zf (zy (zR jt rfl B.tuple jy (za (vb (ts:=[3]) rfl rfl (jJ (qd (za zC (za zC (za zC (za zC zb)))))) (fun _ _ _ _=>(zw (i:=3) sc.nd rfl (by first | exact bq rfl | exact bu rfl))) (fun _ _ _ _=>kC) (fun _ _ _ _=>(NP (K:=K) rfl bB PySem.F.slot_list_count PySem.F.type_list_count EC (pv 1) (za (pv 3) zb)))) zb))))),?_⟩
 refine ex2 (by walk_at "sim") ?_
 rintro xs M Q ⟨y,ds,rfl,hy,hn,q⟩
 rw [show zJ ["plan","words","deed","word"] [.d y]=[some (.d y),none,none,none] from rfl]
 refine zk fun r hr0=>?_
 walk_at "ra"
 have sq:∀ M,qK (.d y) M=some ((ds.map dD).map AV.d):=fun M=>by rcases hy with rfl | rfl <;> rfl
 refine ⟨_,sq M,?_⟩
 rw [bv]
 refine wa (fun o=>[some (AV.d y),none,o,none]) (AV.d ∘ dD) (fun d=>AV.d (.str (dW d))) ds ⟨_,rfl⟩ (by rw [<- bv];exact sq M) (by omega) (fun o x Q hx q=>?_) fun o=>?_
 ·have e:dD x=.tup (.str (dW x) :: (dPs x).map fun k:Nat=>Dat.int k):=Dl x
  dsimp only [Function.comp]
  rw [e]
  walk_at "ra"
  exact ⟨_,at0 _ _,q _⟩
 ·rw [show ds.map (fun d=>AV.d (.str (dW d)))=(ds.map fun d=>Dat.str (dW d)).map AV.d by rw [bv];rfl]
  refine ⟨_,zM _,?_⟩
  subst hr0
  walk_at "ra"
  refine ⟨by omega,?_⟩
  have fl:∀ l:List De,ZX ((l.map fun d=>Dat.str (dW d)).map AV.d)=some (l.map fun d=>V.str (dW d)):=fun l=>by
   induction l with
   | nil=>rfl
   | cons a r ih=>simp only [aX] at ih ⊢;unfold ZX;rw [ih];rfl
  refine wa (fun o=>[some (AV.d y),some (AV.d (Dat.lst (bS (fun d=>Dat.str (dW d)) ds))),none,o]) (fun w:Str=>AV.d (.str w)) (fun w=>AV.d (.int ((ds.map dW).count w))) [au "swap",au "take",au "move",au "lay"] ⟨_,rfl⟩ trivial (by simp) (fun o w Q hw q=>?_) fun o=>?_
  ·walk_at "ra"
   refine ⟨⟨_,rfl⟩,_,fl ds,_,rfl,?_⟩
   rw [show (ds.map fun d=>V.str (dW d)).countP (fun y=>eqV y (.str w))=(ds.map dW).count w by
    rw [List.countP_map,List.count,List.countP_map]
    exact gJ fun d _=>by simp [eqV]]
   exact q _
  ·exact ⟨_,rfl,ZQ Fr.refl q⟩
noncomputable def DM:ASp:=fun xs M Q=>∃ (n:Nat) (os:List Int) (ds:List De),xs=[.d (ilD os),.d (.lst (ds.map dD))]/\zF n os/\n<=1000/\ds.length<=1000/\yi n ds os/\Q (.d (.bl true)) M
theorem Gw (d:De):dW d=au "swap" ↔ ∃ a b,d=.swap a b:=by
 cases d with
 | swap a b=>exact ⟨fun _=>⟨a,b,rfl⟩,fun _=>rfl⟩
 | take p=>exact ⟨fun z=>absurd (show au "take"=au "swap" from z) (by decide +kernel),fun ⟨_,_,z⟩=>nomatch z⟩
 | move p g=>exact ⟨fun z=>absurd (show au "move"=au "swap" from z) (by decide +kernel),fun ⟨_,_,z⟩=>nomatch z⟩
 | lay g=>exact ⟨fun z=>absurd (show au "lay"=au "swap" from z) (by decide +kernel),fun ⟨_,_,z⟩=>nomatch z⟩
theorem EM (h:(ds.map dW).count (au "swap")=0):∀ d ∈ ds,∀ a b,d ≠ .swap a b:=fun d hd a b e=>by
 have:=dk.mpr (bn.mpr ⟨d,hd,(Gw d).mpr ⟨a,b,e⟩⟩:au "swap" ∈ ds.map dW)
 omega
theorem WV {ds:List De}(h1:(ds.map dW).count (au "take")=0)(h2:(ds.map dW).count (au "move")=0)(h3:(ds.map dW).count (au "lay")=0):∀ d ∈ ds,∃ a b,d=.swap a b:=fun d hd=>by
 have m:dW d ∈ ds.map dW:=bn.mpr ⟨d,hd,rfl⟩
 have c:=dk.mpr m
 cases d with
 | swap a b=>exact ⟨a,b,rfl⟩
 | take p=>have c:0<(ds.map dW).count (au "take"):=c;omega
 | move p g=>have c:0<(ds.map dW).count (au "move"):=c;omega
 | lay g=>have c:0<(ds.map dW).count (au "lay"):=c;omega
noncomputable abbrev Jn:cJ:=top 37
theorem Kq:zn ["_law_order","_law_plan_here","_law_swaps","_law_takes","_law_moves","_law_lays"] ["_law_order","_law_plan_here"] (zd Jn):=⟨rfl,rfl,rfl,by decide +kernel,rfl,by decide +kernel,by decide +kernel⟩
theorem A7 (a:At K mg "_law_no_fewer" Jn)(B:Blt mg)(D_deeds_of:Df P w K mg base "deeds_of" ["plan"] 5 (cSp BJ))(D_by_rings:Df P w K mg base "by_rings" ["order"] 5 (cSp wN))(D_by_swaps:Df P w K mg base "by_swaps" ["order"] 5 (cSp wA)):Df P w K mg base "_law_no_fewer" ["_law_order","_law_plan_here"] 6 (cSp DM):=by
 refine dfA (k:=5) a Kq (fun _ _ _ _ _ _=>Pn2_ fun _ _=>rfl) (fun xs M Q h=>?_) (fun f cdv A outer s H E hr=>?_)
 ·obtain ⟨_,_,_,rfl,_⟩:=h;rfl
 have sc:=Kq
 have hsl:=hsl
 refine ⟨_,(zc (qE (zU D_deeds_of hr rfl (za (pv 1) zb)) (jg (K:=K) 4 rfl rfl (zK (zw (i:=2) sc.nd rfl (by first | exact bq rfl | exact bu rfl)) (zK (zw (i:=3) sc.nd rfl (by first | exact bq rfl | exact bu rfl)) (zK (zw (i:=4) sc.nd rfl (by first | exact bq rfl | exact bu rfl)) (zK (zw (i:=5) sc.nd rfl (by first | exact bq rfl | exact bu rfl)) jf))))))
  (zc (zS (PW.pt (vF (zq (qt hr.units) (pv 2) zg (zt _)) (xQ (zq QD (zu zp rfl B.len qg (za (zU D_by_rings hr rfl (za (pv 0) zb)) zb)) (zu zp rfl B.len qg (za (pv 1) zb)) (zt _))))) (zf (zy kT)) zx)
  (zf (zy (OV (jZ QD (zO qW (zO qW (pv 3) (pv 4)) (pv 5)) zg (zt _)) (Ew (jZ Iz (zu zp rfl B.len qg (za (zU D_by_swaps hr rfl (za (pv 0) zb)) zb)) (zu zp rfl B.len qg (za (pv 1) zb)) (zt _)))))))),?_⟩
 refine ex2 (by walk_at "sim") ?_
 rintro xs M Q ⟨n,os,ds,rfl,ho,hn,hl,hc,q⟩
 rw [show zJ ["_law_order","_law_plan_here","_law_swaps","_law_takes","_law_moves","_law_lays"] [.d (ilD os),.d (.lst (ds.map dD))]=[some (.d (ilD os)),some (.d (.lst (ds.map dD))),none,none,none,none] from rfl]
 refine zk fun r1 hr1=>?_
 walk_at "ra"
 refine ⟨_,ds,rfl,.inl rfl,hl,?_⟩
 refine ⟨_,rfl,rfl,_,_,rfl,_,_,rfl,_,_,rfl,_,_,rfl,rfl,?_⟩
 subst hr1
 refine zk fun r1 hr1=>?_
 walk_at "ra"
 obtain ⟨T,lT,hd,hg⟩:=hc
 have l1:=yB ho
 have l2:=vm ho
 have fin:r1 M { nx:=fun x M'=>rtA M Q (AV.d Dat.non) M',rt:=rtA M Q } [some (AV.d (ilD os)),some (AV.d (Dat.lst (bS dD ds))),some (AV.d (Dat.int ((ds.map dW).count (au "swap")))),some (AV.d (Dat.int ((ds.map dW).count (au "take")))),some (AV.d (Dat.int ((ds.map dW).count (au "move")))),some (AV.d (Dat.int ((ds.map dW).count (au "lay"))))] M:=by
  subst hr1
  walk_at "ra"
  split
  ·exact ZQ Fr.refl q
  ·rename_i h
   refine ⟨_,n,os,rfl,we _ _,ho,hn,_,kO _ _,?_⟩
   have:=WT ho lT hd hg (WV (by omega) (by omega) (by omega))
   rw [decide_eq_true (by rw [am,am];omega)]
   exact ZQ Fr.refl q
 by_cases c:(((ds.map dW).count (au "swap"):Nat):Int)=0
 ·rw [if_pos c]
  refine ⟨_,n,os,rfl,we _ _,ho,hn,_,kO _ _,?_⟩
  have:=WE ho lT hd hg (EM (by omega))
  rw [if_neg (by rw [am,am];omega)]
  exact fin
 ·rw [if_neg c];exact fin
noncomputable def thO (s:ES)(d:De):List Int:=(yM s d).filterMap id
inductive MvE:List De->ES->ES->List Int->Prop
 | nil {s:ES}:MvE [] s s []
 | cons {d:De} {l:List De} {s t u:ES} {W:List Int}:DoE d s t->MvE l t u W->MvE (d :: l) s u (thO s d ++ W)
theorem qu.mv {l:List De}{s t:ES}(h:qu l s t):∃ W,MvE l s t W:=by
 induction h with
 | nil=>exact ⟨_,.nil⟩
 | cons d _ ih=>obtain ⟨W,h⟩:=ih;exact ⟨_,.cons d h⟩
theorem MvE.append {a b:List De}{s t u:ES}{V W:List Int}(h1:MvE a s t V)(h2:MvE b t u W):MvE (a ++ b) s u (V ++ W):=by
 induction h1 with
 | nil=>exact h2
 | cons d _ ih=>rw [List.cons_append,lf];exact .cons d (ih h2)
theorem B4 {d:De}{s t:ES}(h:DoE d s t):(thO t d.back).Perm (thO s d):=by
 cases h with
 | @swap a b row hh x y ne h1 h2=>
  have e3:(row.set a (some y))[b]?=some (some y):=by rw [qv h1,if_neg (Ne.symm ne)];exact h2
  have g1:((row.set a (some y)).set b (some x)).getD a none=some y:=by rw [af,qv e3,if_neg ne,qv h1,if_pos rfl];rfl
  have g2:((row.set a (some y)).set b (some x)).getD b none=some x:=by rw [af,qv e3,if_pos rfl];rfl
  have g3:row.getD a none=some x:=by rw [af,h1];rfl
  have g4:row.getD b none=some y:=by rw [af,h2];rfl
  show (ci id [((row.set a (some y)).set b (some x)).getD a none,((row.set a (some y)).set b (some x)).getD b none]).Perm (ci id [row.getD a none,row.getD b none])
  rw [g1,g2,g3,g4]
  exact List.Perm.swap _ _ _
 | @take p row x h1=>
  have g3:row.getD p none=some x:=by rw [af,h1];rfl
  show (ci id [some x]).Perm (ci id [row.getD p none])
  rw [g3]
 | @move p g row hh x h1 h2=>
  have pg:p ≠ g:=fun z=>by rw [z,h2] at h1;cases h1
  have e3:(row.set p none)[g]?=some none:=by rw [qv h1,if_neg (Ne.symm pg)];exact h2
  have g1:((row.set p none).set g (some x)).getD g none=some x:=by rw [af,qv e3,if_pos rfl];rfl
  have g2:((row.set p none).set g (some x)).getD p none=none:=by rw [af,qv e3,if_neg pg,qv h1,if_pos rfl];rfl
  have g3:row.getD p none=some x:=by rw [af,h1];rfl
  have g4:row.getD g none=none:=by rw [af,h2];rfl
  show (ci id [((row.set p none).set g (some x)).getD g none,((row.set p none).set g (some x)).getD p none]).Perm (ci id [row.getD p none,row.getD g none])
  rw [g1,g2,g3,g4]
 | @lay g row x h1=>
  have g1:(row.set g (some x)).getD g none=some x:=by rw [af,qv h1,if_pos rfl];rfl
  show (ci id [(row.set g (some x)).getD g none]).Perm (ci id [some x])
  rw [g1]
theorem MvE.back {l:List De}{s t:ES}{W:List Int}(h:MvE l s t W):∃ W',W'.Perm W/\MvE (l.reverse.map De.back) t s W':=by
 induction h with
 | nil=>exact ⟨[],.nil,.nil⟩
 | @cons d l s t u W hd _ ih=>
  obtain ⟨W',hp,h⟩:=ih
  refine ⟨W' ++ (thO t d.back ++ []),?_,?_⟩
  ·rw [bP]
   exact (hp.append (B4 hd)).trans List.perm_append_comm
  ·rw [li,aQ]
   exact h.append (.cons hd.back .nil)
theorem Ei (ms:List Int)(x:Int) (hk:k<ms.length):(zX ms x).getD k 0=ms.getD k 0+(([x].map bc).count k:Nat):=by
 unfold zX
 rw [af,bj]
 by_cases c:x.toNat=k
 ·rw [if_pos c,if_pos (by omega),aX,gF,c,ie,List.count_nil];rfl
 ·rw [if_neg c,aX,gF,List.count_cons_of_ne c,List.count_nil,af];simp
theorem qO:∀ (W:List Int) (ms:List Int),(W.foldl zX ms).length=ms.length
 | [],_=>rfl
 | x :: W,ms=>by rw [eN,qO W,yJ]
theorem vo:∀ (W ms:List Int) {k:Nat},k<ms.length->(W.foldl zX ms).getD k 0=ms.getD k 0+((W.map bc).count k:Nat)
 | [],ms,k,_=>by simp
 | x :: W,ms,k,hk=>by
  rw [eN,vo W _ (by rw [yJ];exact hk),Ei ms x hk,show (x :: W).map bc=[x].map bc ++ W.map bc from rfl,List.count_append]
  omega
theorem Bu (cs:List (Option Int)):∀ ms,cs.foldl xL ms=(cs.filterMap id).foldl zX ms:=by
 induction cs with
 | nil=>intro ms;rfl
 | cons c cs ih=>
  intro ms
  cases c with
  | none=>rw [eN,cw];exact ih ms
  | some x=>rw [eN,cw];exact ih (zX ms x)
theorem Kx {W W':List Int}(h:W'.Perm W):W'.foldl zX (W.foldl zX (aG n 0))=(W.foldl zX (aG n 0)).map fun x=>2 * x:=by
 refine dF fun k=>?_
 by_cases c:k<n
 ·have l1:(W.foldl zX (aG n 0)).length=n:=by rw [qO,bM]
  have a:=vo W' (W.foldl zX (aG n 0)) (k:=k) (by omega)
  have b:=vo W (aG n 0) (k:=k) (by rw [bM];exact c)
  rw [(h.map bc).count_eq] at a
  have z:(aG n (0:Int)).getD k 0=0:=by rw [af,eX];split <;> rfl
  have l2:(W'.foldl zX (W.foldl zX (aG n 0))).length=n:=by rw [qO,l1]
  rw [aE,aj (by omega:k<(W'.foldl zX (W.foldl zX (aG n 0))).length),aj (by omega:k<(W.foldl zX (aG n 0)).length)]
  rw [af,aj (by omega)] at a b
  rw [af (l:=W.foldl zX (aG n 0)),aj (by omega:k<(W.foldl zX (aG n 0)).length)] at a
  simp only [og] at a b
  rw [Option.map_some]
  congr 1
  omega
 ·rw [bN (by rw [qO,qO,bM];omega),bN (by rw [am,qO,bM];omega)]
theorem VV {ds:List De}{s t:ES}{W:List Int}(h:MvE ds s t W):∀ i ms,kX i (s,ms) (ds.map dD)=.ok (t,W.foldl zX ms):=by
 induction h with
 | nil=>exact fun _ _=>rfl
 | @cons d l s t u W hd _ ih=>
  intro i ms
  rw [aX]
  unfold kX
  rw [wU hd ms]
  dsimp only
  rw [ih (i+1),eQ,Bu];rfl
theorem Oo (d:De):dp (dD d)<=40:=by cases d <;> simp [dD,dp,dps]
theorem OE (d:De):∀ l,dD d=.tup l->l.length<=1000:=fun l e=>by cases d <;> (cases e;simp)
variable {M0:MH}
theorem wn {ae:AE}{st:Option AV->ASt} {Pm:MH->Prop}{p rw_ mv:ay}(n1:rw_ ≠ mv)(n2:rw_ ≠ p)(n3:mv ≠ p)
  (h1:∀ u M (Q:AK),Q (.ref p) M->ae (st u) M Q) (h2:∀ u v M (Q:ASt->MH->Prop),Q (st (some v)) M->yo 4 v (st u) M Q) (h3:∀ v M (Q:AK),Q v M->yf 4 (st (some v)) M Q) (hP:∀ M,Pm M)
  {L:List De} {W:List Int} (hmv:MvE L s t W) (okm:OkM s ms.length) {u:Option AV} (q:∀ u,D.nx (st u) (rmP C M p rw_ mv t (W.foldl zX ms))) :
  Il (yo 4) (Vv (yz C (au "do") (aDo C cB) (fun _ _ _ _=>False) ae (yG (yf 4) JY))) M0 D Pm ((L.map dD).map .d) (st u) (rmP C M p rw_ mv s ms):=by
 refine ⟨fun i ρ M'=>∃ u ti Wi,ρ=st u/\M'=rmP C M p rw_ mv (ti:RS).1 ti.2/\MvE (L.drop i) ti.1 t Wi/\Wi.foldl zX ti.2=W.foldl zX ms/\OkM ti.1 ti.2.length,⟨u,(s,ms),W,rfl,rfl,hmv,rfl,okm⟩,?_,?_⟩
 ·rintro i y ρ M' hy ⟨u,ti,Wi,rfl,rfl,hm,hw,ok⟩
  refine ⟨hP _,?_⟩
  rw [bv,aE] at hy
  obtain ⟨d,hd,rfl⟩:=fh.mp hy
  have hi:=(aA.mp hd).1
  rw [iW hi,show L[i]=d from (aA.mp hd).2] at hm
  cases hm with
  | @cons _ _ _ t' _ W' hdo hm=>
   have r:=jB (C:=C) (M:=M) (s:=ti.1) (ms:=ti.2) n1 n2 n3
   refine h2 _ _ _ _ ?_
   refine h1 _ _ _ ⟨p,_,rfl,r.ins,rfl,h3 _ _ _ ?_⟩
   refine ⟨p,rw_,mv,ti.1,ti.2,dD d,rfl,r,ok,Oo d,OE d,(fun w hw=>by rw [wU hdo] at hw;cases hw),fun t2 ht2=>?_⟩
   rw [wU hdo] at ht2
   cases ht2
   refine ⟨_,(t',(yM ti.1 d).foldl xL ti.2),W',rfl,by rw [YU],hm,?_,?_⟩
   ·dsimp only
    rw [Bu,<- hw,eQ];rfl
   ·dsimp only
    rw [Bu,qO];exact hdo.okM ok
 ·rintro ρ M' ⟨u,ti,Wi,rfl,rfl,hm,hw,ok⟩
  refine ⟨hP _,?_⟩
  rw [gL (by rw [am,am];exact aF _)] at hm
  cases hm
  have:=q u
  rw [<- hw] at this
  exact this
theorem qu.okM {l:List De}{s t:ES}(h:qu l s t){n:Nat}:OkM s n->OkM t n:=by
 induction h with
 | nil=>exact id
 | cons d _ ih=>exact fun o=>ih (d.okM o)
theorem zW.keep {p rw_ mv:ay} (r:zW C M p rw_ mv s ms){p2 rw2 mv2:ay}(h:∀ x ∈ [p,rw_,mv],x ≠ p2/\x ≠ rw2/\x ≠ mv2)(s':ES)(ms':List Int):zW C (rmP C M p2 rw2 mv2 s' ms') p rw_ mv s ms:=by
 have g:∀ x ∈ [p,rw_,mv],rmP C M p2 rw2 mv2 s' ms' x=M x:=fun x hx=>by
  obtain ⟨a,b,c⟩:=h x hx
  unfold rmP;rw [zl c,zl b,zl a]
 exact ⟨(g p (by simp)).trans r.ins,(g rw_ (by simp)).trans r.row,(g mv (by simp)).trans r.mvd,r.ne⟩
theorem xi:dD=deD:=funext fun d=>by cases d <;> rfl
theorem zW.new {p rw_ mv:ay} (r:zW C M p rw_ mv s ms){z:ay}(hz:M z=none)(o:MO):zW C (mup M z o) p rw_ mv s ms:=
 ⟨by rw [zl (fun e=>qc r.ins (by rw [e];exact hz))];exact r.ins,by rw [zl (fun e=>qc r.row (by rw [e];exact hz))];exact r.row,by rw [zl (fun e=>qc r.mvd (by rw [e];exact hz))];exact r.mvd,r.ne⟩
theorem Ff (row:List (Option Int)):dps (row.map oD)<=0:=xE fun d hd=>by
 obtain ⟨c,_,rfl⟩:=bn.mp hd
 cases c <;> simp [oD,dp]
theorem EN (l:List Int):dps (l.map Dat.int)<=0:=xE fun d hd=>by
 obtain ⟨c,_,rfl⟩:=bn.mp hd
 simp [dp]
theorem Hy (s:ES)(ms:List Int):dp (.tup [.tup (s.1.map oD),oD s.2,.tup (ms.map .int)])<=40:=by
 rw [dp]
 refine bf (cU (xE (n:=1) fun d hd=>?_)) (by decide)
 simp only [aO,cm,or_false] at hd
 rcases hd with rfl | rfl | rfl
 ·rw [dp];exact cU (Ff _)
 ·cases s.2 <;> simp [oD,dp]
 ·rw [dp];exact cU (EN _)
theorem vK (l:List Int):dp (.tup (l.map .int))<=40:=by rw [dp];exact bf (cU (EN l)) (by decide)
theorem IE (l:List (Option Int)):dp (.tup (l.map oD))<=40:=by rw [dp];exact bf (cU (Ff l)) (by decide)
theorem xW {d:Dat}(h:dp d<=40):¬ (eqD d d=false):=by rw [wY (fg h (by decide))];decide
noncomputable def Dy:ASp:=fun xs M Q=>∃ (n:Nat) (at_:Nat) (ds:List De) (row:List (Option Int)),xs=[.d (.int n),.d (.lst (ds.map dD)),.d (.int at_)]/\n<=100/\ds.length<=100/\at_<=ds.length/\qu ds ((zA 0 1 n).map some,none) (row,none)/\Q (.d (.bl true)) M
noncomputable abbrev QN:cJ:=top 38
theorem Ku:zn ["_law_n","_law_plan_here","_law_at","_law_room","_law_deed_here","_law_twin","_law_kept","_law_moved","_law_many"] ["_law_n","_law_plan_here","_law_at"] (zd QN):=⟨rfl,rfl,rfl,by decide +kernel,rfl,by decide +kernel,by decide +kernel⟩
theorem EF {C cBadDeed cBadPlan:ay}(a:At K mg "_law_room_right" QN)(B:Blt mg)(CL:Cls K C)(M_Room:Mkr P w K mg base "Room" C ["self","n"] 9 (cSp (Qq C)))(DM_do:DmX P w K mg base C "do" ["self","thing"] 10 (ja (aDo C cBadDeed)))(M_twin:Dm P w K mg base C "twin" ["self"] 10 (cSp (IC C)))
  (M_row_now:Dm P w K mg base C "row_now" ["self"] 10 (cSp (Dv C))) (M_hand_now:Dm P w K mg base C "hand_now" ["self"] 10 (cSp (Az C))) (M_moved_now:Dm P w K mg base C "moved_now" ["self"] 10 (cSp (DW C)))
  (DX_walked:DfX P w K mg base "walked" ["n","plan"] 10 (ja (BS cBadPlan))) (D_undone:Df P w K mg base "undone" ["plan"] 10 (cSp Y2)):Df P w K mg base "_law_room_right" ["_law_n","_law_plan_here","_law_at"] 11 (cSp Dy):=by
 refine dfA (k:=10) a Ku (fun _ _ _ _ _ _=>Pn3_ fun _ _ _=>rfl) (fun xs M Q h=>?_) (fun f cdv A outer s H E hr=>?_)
 ·obtain ⟨_,_,_,_,rfl,_⟩:=h;rfl
 have sc:=Ku
 have hsl:=hsl
 refine ⟨_,(zc (zB (i:=3) sc.nd rfl (by first | exact bq rfl | exact bu rfl) (E7 M_Room hr rfl (za (pv 0) zb)))
  (zc (qZ cc rfl (jJ (jl xO (pv 1) jh (qP (pv 2)))) (zw (i:=4) sc.nd rfl (by first | exact bq rfl | exact bu rfl)) (zf (zZ (jO CL DM_do hr xq (pv 3) (za (pv 4) zb)))))
  (zc (zB (i:=5) sc.nd rfl (by first | exact bq rfl | exact bu rfl) (qX CL M_twin hr (pv 3)))
  (zc (zB (i:=6) sc.nd rfl (by first | exact bq rfl | exact bu rfl) (qd (za (qX CL M_row_now hr (pv 5)) (za (qX CL M_hand_now hr (pv 5)) (za (qX CL M_moved_now hr (pv 5)) zb)))))
  (zc (qZ cc rfl (jJ (jl xO (pv 1) (qP (pv 2)) jh)) (zw (i:=4) sc.nd rfl (by first | exact bq rfl | exact bu rfl)) (zf (zZ (jO CL DM_do hr xq (pv 3) (za (pv 4) zb)))))
  (zc (zB (i:=7) sc.nd rfl (by first | exact bq rfl | exact bu rfl) (qX CL M_moved_now hr (pv 3)))
  (zc (zS (PW.pt (wy (zq (jH hr.units) (qd (za (qX CL M_row_now hr (pv 5)) (za (qX CL M_hand_now hr (pv 5)) (za (qX CL M_moved_now hr (pv 5)) zb)))) (pv 6) (zt _)) (yl (zq (jH hr.units) (zv Za (Z6 DX_walked hr rfl xq (za (pv 0) (za (pv 1) zb))) (Vw QT zg) (fun _ _=>rfl)) (pv 7) (zt _))))) (zf (zy kT)) zx)
  (zc (qZ cc rfl (jJ (zU D_undone hr rfl (za (pv 1) zb))) (zw (i:=4) sc.nd rfl (by first | exact bq rfl | exact bu rfl)) (zf (zZ (jO CL DM_do hr xq (pv 3) (za (pv 4) zb)))))
  (zc (qZ cc rfl (jJ (zU D_undone hr rfl (za (jl xO (pv 1) jh (qP (pv 2))) zb))) (zw (i:=4) sc.nd rfl (by first | exact bq rfl | exact bu rfl)) (zf (zZ (jO CL DM_do hr xq (pv 5) (za (pv 4) zb)))))
  (zc (zS (PW.pt (wy (zq (jH hr.units) (qX CL M_row_now hr (pv 3)) (zR (xG rfl) rfl B.tuple jy (za (zR jY rfl B.range yT (za (pv 0) zb)) zb)) (zt _)) (yl (zq (jH hr.units) (qX CL M_moved_now hr (pv 3)) (zR jt rfl B.tuple jy (za (vb (ts:=[8]) rfl rfl (jJ (pv 7)) (fun _ _ _ _=>(zw (i:=8) sc.nd rfl (by first | exact bq rfl | exact bu rfl))) (fun _ _ _ _=>kC) (fun _ _ _ _=>(zO kQ zg (pv 8)))) zb)) (zt _))))) (zf (zy kT)) zx)
  (zf (zy (L4 (jZ (qt hr.units) (qX CL M_row_now hr (pv 5)) (zR (xG rfl) rfl B.tuple jy (za (zR jY rfl B.range yT (za (pv 0) zb)) zb)) (zt _)) (Ew (jZ yD (qX CL M_hand_now hr (pv 5)) qi (zt _)))))))))))))))),?_⟩
 refine ex2 (by walk_at "sim") ?_
 rintro xs M Q ⟨n,at_,ds,row,rfl,hn,hl,ha,hd,q⟩
 rw [show zJ ["_law_n","_law_plan_here","_law_at","_law_room","_law_deed_here","_law_twin","_law_kept","_law_moved","_law_many"] [.d (.int n),.d (.lst (ds.map dD)),.d (.int at_)]=[some (.d (.int n)),some (.d (.lst (ds.map dD))),some (.d (.int at_)),none,none,none,none,none,none] from rfl]
 obtain ⟨s1,dA,dB⟩:=ZD (a:=ds.take at_) (b:=ds.drop at_) (by rw [gQ];exact hd)
 obtain ⟨WA,mA⟩:=dA.mv
 obtain ⟨WB,mB⟩:=dB.mv
 have mAB:=mA.append mB
 rw [gQ] at mAB
 have cA:=xk dA (qL n)
 have cAB:=xk hd (qL n)
 have sl:∀ k:Nat,pur (yH ((ds.map dD).map AV.d) none (some (k:Int)))=some ((ds.take k).map dD):=fun k=>by rw [Zf,FC,zM,nu]
 have sr:∀ k:Nat,pur (yH ((ds.map dD).map AV.d) (some (k:Int)) none)=some ((ds.drop k).map dD):=fun k=>by rw [Zf,vq,zM,fA]
 refine zk fun r1 hr1=>?_
 walk_at "ra"
 intro p hp
 refine ⟨p,n,rfl,ze,by omega,fun rw_ mv hrw hmv n1 n2 n3=>⟨rfl,?_⟩⟩
 rw [zl n2] at hrw
 rw [zl n3] at hmv
 have em:∀ t ms,rmP C (mup M p (.ins C [])) p rw_ mv t ms=rmP C M p rw_ mv t ms:=fun t ms=>by unfold rmP;rw [kN]
 rw [em]
 have fr:∀ t ms,Fr M (rmP C M p rw_ mv t ms):=fun t ms=>((Fr.refl.mup hp _).mup hrw _).mup hmv _
 subst hr1
 refine zk fun r1 hr1=>?_
 walk_at "ra"
 refine ⟨_,sl at_,wn (st:=fun u=>[some (.d (.int n)),some (.d (.lst (ds.map dD))),some (.d (.int at_)),some (.ref p),u,none,none,none,none]) n1 n2 n3 (fun _ _ _ q=>⟨_,rfl,q⟩) (fun _ _ _ _ q=>q) (fun _ _ _ q=>⟨_,rfl,q⟩) (fun _=>trivial) mA (by rw [bM];exact v9 n) (fun u4=>?_)⟩
 have lA:(WA.foldl zX (aG n 0)).length=n:=by rw [qO,bM]
 have okA:OkM s1 n:=dA.okM (v9 n)
 generalize hmA:WA.foldl zX (aG n 0)=mA_ at *
 have rA:=jB (C:=C) (M:=M) (s:=s1) (ms:=mA_) n1 n2 n3
 have frA:=fr s1 mA_
 have l1:s1.1.length=n:=cA.1
 generalize rmP C M p rw_ mv s1 mA_=M2 at *
 subst hr1
 dsimp only
 refine zk fun r1 hr1=>?_
 walk_at "ra"
 refine ⟨_,rA.ins,rfl,p,rw_,mv,s1,mA_,rfl,rA,by omega,by omega,fun p' rw' mv' hp' hrw' hmv' n1' n2' n3'=>?_⟩
 have ap:∀ x ∈ [p,rw_,mv],x ≠ p'/\x ≠ rw'/\x ≠ mv':=fun x hx=>by
  have hx:M2 x ≠ none:=by
   simp only [aO,cm,or_false] at hx
   rcases hx with rfl | rfl | rfl
   ·exact qc rA.ins
   ·exact qc rA.row
   ·exact qc rA.mvd
  exact ⟨(fun z=>hx (by rw [z];exact hp')),(fun z=>hx (by rw [z];exact hrw')),(fun z=>hx (by rw [z];exact hmv'))⟩
 have ap':∀ x ∈ [p',rw',mv'],x ≠ p/\x ≠ rw_/\x ≠ mv:=fun x hx=>by
  simp only [aO,cm,or_false] at hx
  have a1:=ap p (by simp)
  have a2:=ap rw_ (by simp)
  have a3:=ap mv (by simp)
  rcases hx with rfl | rfl | rfl
  ·exact ⟨a1.1.symm,a2.1.symm,a3.1.symm⟩
  ·exact ⟨a1.2.1.symm,a2.2.1.symm,a3.2.1.symm⟩
  ·exact ⟨a1.2.2.symm,a2.2.2.symm,a3.2.2.symm⟩
 have rT:=jB (C:=C) (M:=M2) (s:=s1) (ms:=mA_) n1' n2' n3'
 have rA:=rA.keep ap s1 mA_
 have z1:=frA.non hp'
 have z2:=frA.non hrw'
 have z3:=frA.non hmv'
 have frA:Fr M (rmP C M2 p' rw' mv' s1 mA_):=((frA.mup z1 _).mup z2 _).mup z3 _
 generalize rmP C M2 p' rw' mv' s1 mA_=M3 at *
 subst hr1
 refine zk fun r1 hr1=>?_
 walk_at "ra"
 refine ⟨_,rT.ins,rfl,p',rw',mv',s1,mA_,rfl,rT,by omega,?_⟩
 refine ⟨_,rT.ins,rfl,p',rw',mv',s1,mA_,rfl,rT,?_⟩
 refine ⟨_,rT.ins,rfl,p',rw',mv',s1,mA_,rfl,rT,by omega,by omega,_,rfl,?_⟩
 subst hr1
 refine zk fun r1 hr1=>?_
 walk_at "ra"
 refine ⟨_,sr at_,?_⟩
 rw [<- rA.same]
 refine wn (st:=fun u=>[some (.d (.int n)),some (.d (.lst (ds.map dD))),some (.d (.int at_)),some (.ref p),u,some (.ref p'),some (.d (.tup [.tup (s1.1.map oD),oD s1.2,.tup (mA_.map .int)])),none,none]) n1 n2 n3 (fun _ _ _ q=>⟨_,rfl,q⟩) (fun _ _ _ _ q=>q) (fun _ _ _ q=>⟨_,rfl,q⟩) (fun _=>trivial) mB (by rw [lA];exact okA) (fun u5=>?_)
 have lB:(WB.foldl zX mA_).length=n:=by rw [qO,lA]
 have eB:WB.foldl zX mA_=(WA ++ WB).foldl zX (aG n 0):=by rw [eQ,hmA]
 have okB:OkM (row,none) n:=hd.okM (v9 n)
 have lrow:row.length=n:=cAB.1
 have rT:=rT.keep ap' (row,none) (WB.foldl zX mA_)
 have rA:=rA.to (row,none) (WB.foldl zX mA_)
 have frB:Fr M (rmP C M3 p rw_ mv (row,none) (WB.foldl zX mA_)):=((frA.mup hp _).mup hrw _).mup hmv _
 generalize hmB:WB.foldl zX mA_=mB_ at *
 generalize rmP C M3 p rw_ mv (row,none) mB_=M4 at *
 subst hr1
 dsimp only
 refine zk fun r1 hr1=>?_
 walk_at "ra"
 refine ⟨_,rA.ins,rfl,p,rw_,mv,(row,none),mB_,rfl,rA,by omega,?_⟩
 subst hr1
 refine zk fun r1 hr1=>?_
 walk_at "ra"
 have dK:=Hy s1 mA_
 have hw:kR n (.lst (ds.map dD))=.ok ((row,none),mB_):=by rw [eB];exact VV mAB 0 (aG n 0)
 have okd:∀ d ∈ ds.map dD,OkE d:=fun d hd'=>by
  obtain ⟨e,he,rfl⟩:=bn.mp hd'
  refine Em fun k hk=>?_
  have:=Bm hd e he k hk
  rw [show ((zA 0 1 n).map some,(none:Option Int)).1.length=n by rw [am,zD]] at this
  exact fg (show k<=100 by omega) (by decide)
 have dB_:=vK mB_
 refine ⟨_,rT.ins,rfl,p',rw',mv',s1,mA_,rfl,rT,by omega,?_⟩
 refine ⟨_,rT.ins,rfl,p',rw',mv',s1,mA_,rfl,rT,?_⟩
 refine ⟨_,rT.ins,rfl,p',rw',mv',s1,mA_,rfl,rT,by omega,by omega,_,rfl,dK,dK,?_⟩
 rw [if_neg (xW dK)]
 refine ⟨n,_,rfl,by omega,(YG (by rw [am];omega) okd).p,(fun i w h=>by rw [hw] at h;cases h),fun t ht=>?_⟩
 rw [hw] at ht
 cases ht
 refine ⟨(fun h e=>by cases e),fun _ z hz=>?_⟩
 refine ⟨_,rfl,_,rfl,_,rfl,dB_,dB_,?_⟩
 rw [if_neg (xW dB_)]
 have rA:=rA.new hz (.lst (Fv ((row,none),mB_)))
 have rT:=rT.new hz (.lst (Fv ((row,none),mB_)))
 have frB:=frB.mup (frB.non hz) (.lst (Fv ((row,none),mB_)))
 generalize mup M4 z (.lst (Fv ((row,none),mB_)))=M5 at *
 obtain ⟨W1,pW1,mR⟩:=mAB.back
 obtain ⟨W2,pW2,mS⟩:=mA.back
 subst hr1
 refine zk fun r1 hr1=>?_
 walk_at "ra"
 refine ⟨_,ds,rfl,by rw [kO,xi],by omega,_,kO _ _,?_⟩
 rw [<- xi,<- rA.same]
 refine wn (st:=fun u=>[some (.d (.int n)),some (.d (.lst (ds.map dD))),some (.d (.int at_)),some (.ref p),u,some (.ref p'),some (.d (.tup [.tup (s1.1.map oD),oD s1.2,.tup (mA_.map .int)])),some (.d (.tup (mB_.map .int))),none]) n1 n2 n3 (fun _ _ _ q=>⟨_,rfl,q⟩) (fun _ _ _ _ q=>q) (fun _ _ _ q=>⟨_,rfl,q⟩) (fun _=>rfl) mR (by rw [lB];exact okB) (fun u6=>?_)
 have tw:W1.foldl zX mB_=mB_.map fun x=>2 * x:=by rw [eB];exact Kx pW1
 rw [tw]
 have rT:=rT.keep ap' ((zA 0 1 n).map some,none) (mB_.map fun x=>2 * x)
 have rA:=rA.to ((zA 0 1 n).map some,none) (mB_.map fun x=>2 * x)
 have frB:Fr M (rmP C M5 p rw_ mv ((zA 0 1 n).map some,none) (mB_.map fun x=>2 * x)):=((frB.mup hp _).mup hrw _).mup hmv _
 generalize rmP C M5 p rw_ mv ((zA 0 1 n).map some,none) (mB_.map fun x=>2 * x)=M6 at *
 subst hr1
 dsimp only
 refine zk fun r1 hr1=>?_
 walk_at "ra"
 refine ⟨_,sl at_,_,ds.take at_,rfl,by rw [kO,xi],by rw [bZ];omega,_,kO _ _,?_⟩
 rw [<- xi,<- rT.same]
 refine wn (st:=fun u=>[some (.d (.int n)),some (.d (.lst (ds.map dD))),some (.d (.int at_)),some (.ref p),u,some (.ref p'),some (.d (.tup [.tup (s1.1.map oD),oD s1.2,.tup (mA_.map .int)])),some (.d (.tup (mB_.map .int))),none]) n1' n2' n3' (fun _ _ _ q=>⟨_,rfl,q⟩) (fun _ _ _ _ q=>q) (fun _ _ _ q=>⟨_,rfl,q⟩) (fun _=>rfl) mS (by rw [lA];exact okA) (fun u7=>?_)
 have rA:=rA.keep ap ((zA 0 1 n).map some,none) (W2.foldl zX mA_)
 have rT:=rT.to ((zA 0 1 n).map some,none) (W2.foldl zX mA_)
 have frB:Fr M (rmP C M6 p' rw' mv' ((zA 0 1 n).map some,none) (W2.foldl zX mA_)):=((frB.mup z1 _).mup z2 _).mup z3 _
 generalize rmP C M6 p' rw' mv' ((zA 0 1 n).map some,none) (W2.foldl zX mA_)=M7 at *
 subst hr1
 dsimp only
 refine zk fun r1 hr1=>?_
 walk_at "ra"
 have rowE:((zA 0 1 n).map some).map oD=(zA 0 1 n).map Dat.int:=by rw [bv];rfl
 have lr:(zA 0 1 n).length=n:=zD _ _ _
 refine ⟨_,rA.ins,rfl,p,rw_,mv,_,_,rfl,rA,by rw [am,lr];omega,?_⟩
 refine ⟨_,_,_,rfl,mZ (by omega) (by omega) (by omega) (by omega),n,by rw [hR];split <;> omega,by omega,_,yr _ _,IE _,vK _,?_⟩
 rw [rowE,if_neg (xW (vK _))]
 refine ⟨_,rA.ins,rfl,p,rw_,mv,_,_,rfl,rA,by rw [am];omega,?_⟩
 refine wa (fun o=>[some (.d (.int n)),some (.d (.lst (ds.map dD))),some (.d (.int at_)),some (.ref p),u7,some (.ref p'),some (.d (.tup [.tup (s1.1.map oD),oD s1.2,.tup (mA_.map .int)])),some (.d (.tup (mB_.map .int))),o]) (fun i:Int=>AV.d (.int i)) (fun i=>AV.d (.int (2 * i))) mB_ ⟨_,rfl⟩ trivial (by omega) (fun o x Q hx q=>?_) fun o=>?_
 ·walk_at "ra"
  exact ⟨.inl ⟨by omega,by omega⟩,q _⟩
 ·refine ⟨_,by rw [show mB_.map (fun i=>AV.d (.int (2 * i)))=((mB_.map fun i=>2 * i).map Dat.int).map AV.d by rw [bv,bv];rfl];exact zM _,_,yr _ _,vK _,vK _,?_⟩
  rw [if_neg (xW (vK _))]
  subst hr1
  walk_at "ra"
  refine ⟨_,rT.ins,rfl,p',rw',mv',_,_,rfl,rT,by rw [am,lr];omega,?_⟩
  refine ⟨_,_,_,rfl,mZ (by omega) (by omega) (by omega) (by omega),n,by rw [hR];split <;> omega,by omega,_,yr _ _,IE _,vK _,?_⟩
  rw [rowE,if_pos (wY (fg (vK _) (by decide)))]
  refine ⟨_,rT.ins,rfl,p',rw',mv',_,_,rfl,rT,?_⟩
  exact ZQ frB q
def Pu (M0 M:MH):Prop:=∀ q o,M q=some o->M0 q=some o \/ ∀ r,¬ Zj r o
theorem Pu.refl:Pu M M:=fun _ _ h=>.inl h
theorem Pu.mup {M0 M:MH}(h:Pu M0 M)(p:ay)(l:List Dat):Pu M0 (mup M p (.lst (l.map .d))):=fun q o e=>by
 by_cases c:q=p
 ·rw [c,ze] at e
  cases e
  exact .inr fun r hr=>y4 (zM l) r hr
 ·rw [zl c] at e;exact h q o e
theorem Pu.mdel {M0 M:MH}(h:Pu M0 M)(p:ay):Pu M0 (mdel M p):=fun q o e=>by
 by_cases c:q=p
 ·rw [c,vD] at e;cases e
 ·rw [jr c] at e;exact h q o e
theorem Pu.box (h:Pu M0 M) {o:MO}(e:M'=L2.mup M b o) (hb:BxM M' b N):Pu M0 M':=by
 obtain ⟨x,y,z,h1,_⟩:=hb
 subst e
 rw [ze] at h1
 cases h1
 exact h.mup b ([x,y,z].map .int)
theorem Pu.bx (h:Pu M0 M) (s:BxS M M' b N):Pu M0 M':=by
 obtain ⟨hb,o,e⟩:=s
 exact h.box e hb
noncomputable abbrev EK:cJ:=top 39
theorem AN:zn ["_law_script","_law_k","_law_box_here","_law_n","_law_swaps","_law_some","_law_plan_here","_law_row","_law_hand","_law_order","_law_deed_here"] ["_law_script"] (zd EK):=⟨rfl,rfl,rfl,by decide +kernel,rfl,by decide +kernel,by decide +kernel⟩
noncomputable def VJ (K:az):Sp:=fun vs H Q _=>∃ (a:ay) (ns:List Int),vs=[.ref a]/\SqL K H a (ns.map V.int)/\ns.length<=63/\∀ H',Q (.bl true) H'
noncomputable def Oy (K:az):ASp:=fun xs M Q=>∃ ns:List Int,xs=[.d (.scr K ns)]/\ns.length<=63/\Q (.d (.bl true)) M
theorem sp_law (vs:List V)(H:Hp)(Q:VK)(E:XK)(h:VJ K vs H Q E):cSp (Oy K) vs H Q E:=by
 obtain ⟨a,ns,rfl,ha,hn,q⟩:=h
 refine ⟨[.d (.scr K ns)],fun _=>none,fun _=>False,fun x _=>x=.d (.bl true),⟨(fun a o e=>nomatch e),(fun a h=>h rfl),fun a h=>h.elim⟩,.cons (Hm (fun _ z=>z) ha) .nil,⟨ns,rfl,hn,rfl⟩,fun x M' v H' O' hx _ _ r=>?_⟩
 subst hx
 rw [xt r]
 exact q H'
theorem wB:∀ {row:List (Option Int)},none ∈ row->∃ j,j<row.length/\row[j]?=some none/\∀ m c,m<j->row[m]?=some c->c ≠ none
 | [],h=>nomatch h
 | none :: row,_=>⟨0,by simp,rfl,fun m c h=>nomatch h⟩
 | some x :: row,h=>by
  obtain ⟨j,h1,h2,h3⟩:=wB (row:=row) (by simpa using h)
  refine ⟨j+1,by simpa using h1,h2,fun m c hm e=>?_⟩
  cases m with
  | zero=>cases e;exact fun z=>nomatch z
  | succ m=>exact h3 m c (by omega) e
def Tr (x:Option AV):Prop:=∀ q,¬ Kn [x] 0 q
theorem Mu (d:Dat):Tr (some (.d d)):=fun _ z=>z
theorem F9:Tr none:=fun _ z=>z
theorem SB.mdel {M0 M:MH}{b p:ay}{N:Nat}(s:SB M0 M b N)(h0:M0 p=none)(hb:p ≠ b):SB M0 (mdel M p) b N:=by
 refine ⟨?_,fun q hq hqb=>?_,s.b0⟩
 ·obtain ⟨x,y,z,h1,h2⟩:=s.bx
  exact ⟨x,y,z,by rw [jr (Ne.symm hb)];exact h1,h2⟩
 ·rw [jr (fun z=>hq (by rw [z];exact h0))];exact s.fr q hq hqb
noncomputable def vW (d:De):Bool:=decide (dW d=au "swap")
theorem Br {ds:List De}{s t:ES}(h:qu ds s t):∃ ps:List (Nat × Nat),ds.filter vW=ps.map swD/\∀ p ∈ ps,p.1<s.1.length/\p.2<s.1.length/\p.1 ≠ p.2:=by
 induction h with
 | nil=>exact ⟨[],rfl,fun p hp=>nomatch hp⟩
 | @cons d l s t u hd _ ih=>
  obtain ⟨ps,e,hp⟩:=ih
  rw [hd.len] at hp
  have no:vW d=false->∃ ps:List (Nat × Nat),(d :: l).filter vW=ps.map swD/\∀ p ∈ ps,p.1<s.1.length/\p.2<s.1.length/\p.1 ≠ p.2:=fun z=>⟨ps,by rw [eZ,z,if_neg (by decide)];exact e,hp⟩
  cases hd with
  | @swap a b row hh x y ne h1 h2=>
   refine ⟨(a,b) :: ps,by rw [eZ,if_pos (show vW (.swap a b)=true from decide_eq_true rfl),e];rfl,fun p hm=>?_⟩
   rcases aO.mp hm with rfl | hm
   ·exact ⟨(aA.mp h1).1,(aA.mp h2).1,ne⟩
   ·exact hp p hm
  | take=>exact no (decide_eq_false (show ¬ au "take"=au "swap" by decide +kernel))
  | move=>exact no (decide_eq_false (show ¬ au "move"=au "swap" by decide +kernel))
  | lay=>exact no (decide_eq_false (show ¬ au "lay"=au "swap" by decide +kernel))
theorem Ey (h:qu ds ((zA 0 1 n).map some,none) t):∃ row,qu (ds.filter vW) ((zA 0 1 n).map some,none) (row,none):=by
 obtain ⟨ps,e,hp⟩:=Br h
 rw [e]
 exact ⟨_,Xr ps (zA 0 1 n) fun p hm=>by have:=hp p hm;rw [am] at this;exact this⟩
theorem Q0 (hn:n<=1000)(hl:ds.length<=1000)(hd:qu ds ((zA 0 1 n).map some,none) (row,none)):OkP (.lst (ds.map dD))/\∃ ms,kR n (.lst (ds.map dD))=.ok ((row,none),ms):=by
 obtain ⟨W,hW⟩:=hd.mv
 refine ⟨(YG (by rw [am];exact hl) fun d hd'=>?_).p,_,VV hW 0 (aG n 0)⟩
 obtain ⟨e,he,rfl⟩:=bn.mp hd'
 refine Em fun k hk=>?_
 have:=Bm hd e he k hk
 rw [show ((zA 0 1 n).map some,(none:Option Int)).1.length=n by rw [am,zD]] at this
 exact fg (show k<=1000 by omega) (by decide)
theorem V4 (os:List Int)(n:Nat):(jT os n).map ddD=((jT os n).map Gm).map dD:=by rw [bv,xi];rfl
theorem Fw (os:List Int)(n:Nat):(qJ os n).map Ex=((qJ os n).map swD).map dD:=by rw [bv,xi];rfl
noncomputable def pSw:AV->Bool
 | .d (.tup (.str w :: _))=>decide (w=au "swap")
 | _=>false
theorem DR (d:De):pSw (.d (dD d))=vW d:=by cases d <;> rfl
theorem Wy (ds:List De):((((ds.map dD).map AV.d).filter pSw).map id)=((ds.filter vW).map dD).map AV.d:=by
 rw [oz]
 induction ds with
 | nil=>rfl
 | cons d ds ih=>
  rw [aX,aX,eZ,DR,eZ]
  cases vW d
  ·rw [if_neg (by decide),if_neg (by decide)];exact ih
  ·rw [if_pos rfl,if_pos rfl,aX,aX,ih]
structure I68 (cs:List Int)(M:MH)(n:Nat)(ρ:ASt)(M':MH):Prop where
 fr:Fr M M'
 pu:Pu M M'
 ex:∃ x1 x2 x3 x4 x5 x6 x7 x8 x9 x10,ρ=[some (.d (ilD cs)),x1,x2,x3,x4,x5,x6,x7,x8,x9,x10]/\Tr x4/\Tr x5/\Tr x9/\Tr x10
theorem Mb (a:At K mg "law" EK)(B:Blt mg)(D_law_box:Df P w K mg base "_law_box" ["_law_script","_law_k"] 19 (cSp Ox))(D_law_folded:Df P w K mg base "_law_folded" ["_law_script","_law_many"] 19 (cSp (YQ K)))(D_law_length:Df P w K mg base "_law_length" ["_law_box_here","_law_most"] 19 (cSp YN))(D_law_take:Df P w K mg base "_law_take" ["_law_box_here","_law_many"] 19 (cSp Vs))(D_law_plan:Df P w K mg base "_law_plan" ["_law_box_here","_law_n","_law_many"] 19 (FK DI))
  (D_tidied:Df P w K mg base "tidied" ["plan"] 19 (cSp Ks)) (DX_order_done:DfX P w K mg base "order_done" ["n","plan"] 19 (ja (Fc cBadPlan cNotDone))) (D_by_rings:Df P w K mg base "by_rings" ["order"] 19 (cSp wN)) (D_by_swaps:Df P w K mg base "by_swaps" ["order"] 19 (cSp wA))
  (D_law_no_fewer:Df P w K mg base "_law_no_fewer" ["_law_order","_law_plan_here"] 19 (cSp DM)) (D_law_room_right:Df P w K mg base "_law_room_right" ["_law_n","_law_plan_here","_law_at"] 19 (cSp Dy)) :
  Df P w K mg base "law" ["_law_script"] 20 (cSp (Oy K)):=by
 refine dfA (k:=19) a AN (fun _ _ _ _ _ _=>Pn1_ fun _=>rfl) (fun xs M Q h=>?_) (fun f cdv A outer s H E hr=>?_)
 ·obtain ⟨_,rfl,_⟩:=h;rfl
 have sc:=AN
 have hsl:=hsl
 refine ⟨_,(zc (zB (i:=0) sc.nd rfl (by first | exact bq rfl | exact bu rfl) (zU D_law_folded hr rfl (za (pv 0) (za zg zb))))
  (zc (qZ cc rfl (kj rfl B.range (za (zu (Qm rfl) rfl B.max DP (za zg (za (zu zp rfl B.len qg (za (pv 0) zb)) zb))) zb)) (zw (i:=1) sc.nd rfl (by first | exact bq rfl | exact bu rfl)) (zc (zB (i:=2) sc.nd rfl (by first | exact bq rfl | exact bu rfl) (zU D_law_box hr rfl (za (pv 0) (za (pv 1) zb))))
  (zc (zB (i:=3) sc.nd rfl (by first | exact bq rfl | exact bu rfl) (zU D_law_length hr rfl (za (pv 2) (za zg zb))))
  (zc (qE (zU D_law_plan hr rfl (za (pv 2) (za (pv 3) (za (zU D_law_take hr rfl (za (pv 2) (za zg zb))) zb)))) (jg (K:=K) 3 rfl rfl (zK (zw (i:=6) sc.nd rfl (by first | exact bq rfl | exact bu rfl)) (zK (zw (i:=7) sc.nd rfl (by first | exact bq rfl | exact bu rfl)) (zK (zw (i:=8) sc.nd rfl (by first | exact bq rfl | exact bu rfl)) jf)))))
  (zc (zS (zq jW (pv 8) qi (zt _)) (zf (zZ (kl bB bV bW qD (pv 6) (za (qd (za zC (za (kl bB PySem.F.slot_list_index PySem.F.type_list_index Ad (pv 7) (za qi zb)) zb))) zb)))) zx)
  (VF 6 (zc (JB (j:=4) rfl sc.nd rfl (by first | exact bq rfl | exact bu rfl) (ts:=[10]) rfl (jJ (pv 6)) (fun _ _ _ _=>(zw (i:=10) sc.nd rfl (by first | exact bq rfl | exact bu rfl))) (fun _ _ _ _=>Jp (zq (qt hr.units) (zv (wO (K:=K) rfl) (pv 10) zg (fun _ _=>rfl)) zC (zt _))) (fun _ _ _ _=>(pv 10)))
  (zc (qZ cc rfl (jJ (qd (za (pv 6) (za (pv 4) (za (zU D_tidied hr rfl (za (pv 6) zb)) zb))))) (zw (i:=5) sc.nd rfl (by first | exact bq rfl | exact bu rfl)) (zc (zB (i:=9) sc.nd rfl (by first | exact bq rfl | exact bu rfl) (Z6 DX_order_done hr rfl xq (za (pv 3) (za (pv 5) zb))))
  (zc (zS (PW.pt (wy (zq (jH hr.units) (Z6 DX_order_done hr rfl xq (za (pv 3) (za (zU D_by_rings hr rfl (za (pv 9) zb)) zb))) (pv 9) (zt _)) (yl (zq (jH hr.units) (Z6 DX_order_done hr rfl xq (za (pv 3) (za (zU D_by_swaps hr rfl (za (pv 9) zb)) zb))) (pv 9) (zt _))))) (zf (zy kT)) zx)
  (zf (zS (xj (j6 (zU D_law_no_fewer hr rfl (za (pv 9) (za (pv 5) zb))) (fun _=>rfl))) (zf (zy kT)) zx)))))
  (zf (zS (xj (j6 (zU D_law_room_right hr rfl (za (pv 3) (za (pv 6) (za (zU D_law_take hr rfl (za (pv 2) (za (zO qW (zu zp rfl B.len qg (za (pv 6) zb)) zg) zb))) zb)))) (fun _=>rfl))) (zf (zy kT)) zx))))))))))
  (zf (zy kT)))),?_⟩
 refine ex2 (by walk_at "sim") ?_
 rintro xs M Q ⟨ns,rfl,hn,q⟩
 rw [show zJ ["_law_script","_law_k","_law_box_here","_law_n","_law_swaps","_law_some","_law_plan_here","_law_row","_law_hand","_law_order","_law_deed_here"] [.d (.scr K ns)]=[some (.d (.scr K ns)),none,none,none,none,none,none,none,none,none,none] from rfl]
 refine zk fun r hr0=>?_
 walk_at "ra"
 refine ⟨4,ns,rfl,by omega,by omega,hn,fun cs lc=>?_⟩
 subst hr0
 refine zk fun r hr0=>?_
 walk_at "ra"
 refine ⟨by split <;> omega,by split <;> omega,?_⟩
 refine ⟨I68 cs M,⟨Fr.refl,Pu.refl,_,_,_,_,_,_,_,_,_,_,rfl,F9,F9,F9,F9⟩,?_,?_⟩
 ·rintro i y ρ M1 hy ⟨f1,pu,x1,x2,x3,x4,x5,x6,x7,x8,x9,x10,rfl,t4,t5,t9,t10⟩
  obtain ⟨hi,rfl⟩:=yU hy
  have hi':(i:Int)<=1000:=by
   have:(i:Int)<(if (cs.length:Int) > 2 then (cs.length:Int) else 2):=by omega
   split at this <;> omega
  refine ⟨trivial,?_⟩
  rw [nW,mH]
  show yX _ _ _ _ _ _
  refine zk fun r2 hr2=>?_
  walk_at "ra"
  refine ⟨_,i,cs,rfl,Gc _ _,by omega,by omega,by omega,fun b o hb bx=>?_⟩
  have b0:=f1.non hb
  have f2:=f1.mup b0 o
  have sb:=SB.refl bx
  have pu:=pu.box rfl bx
  generalize mup M1 b o=M2 at *
  subst hr2
  refine zk fun r2 hr2=>?_
  walk_at "ra"
  refine ⟨b,24,0,rfl,sb.bx,by omega,by omega,by omega,fun n M3 s3 n0 n1=>?_⟩
  have sb:=sb.go s3
  have pu:=pu.bx s3
  obtain ⟨n,rfl⟩:∃ k:Nat,n=k:=⟨n.toNat,by omega⟩
  subst hr2
  refine zk fun r2 hr2=>?_
  walk_at "ra"
  refine ⟨b,31,_,rfl,sb.bx,by omega,by omega,by omega,fun m M4 s4 m0 m1=>?_⟩
  have sb:=sb.go s4
  have pu:=pu.bx s4
  refine ⟨b,n,_,m,rfl,by omega,m0,by omega,sb.bx,by omega,fun M5 ds st p s5 hp hpb ld hdo=>⟨rfl,?_⟩⟩
  obtain ⟨p0,pb⟩:=sb.new hp
  have sb:=((sb.go s5).mono (show _<=400 by omega)).put p0 pb (.lst ((ds.map dD).map .d))
  have pu:=(pu.bx s5).mup p (ds.map dD)
  have hpl:mup M5 p (.lst ((ds.map dD).map .d)) p=some (.lst ((ds.map dD).map .d)):=ze
  generalize mup M5 p (.lst ((ds.map dD).map .d))=M6 at *
  have cst:=xk hdo (qL n)
  have l1:st.1.length=n:=cst.1
  refine ⟨_,_,rfl,_,_,rfl,_,_,rfl,rfl,?_⟩
  subst hr2
  refine zk fun r2 hr2=>?_
  have key:∀ (ds:List De) (row:List (Option Int)) M',qu ds ((zA 0 1 n).map some,none) (row,none)->ds.length<=31->SB M2 M' b 401->Pu M M'->M' p=some (.lst ((ds.map dD).map .d))->r2 M { nx:=I68 cs M (i+1),rt:=rtA M Q,bk:=r M { nx:=fun x M'=>rtA M Q (.d .non) M',rt:=rtA M Q },ct:=I68 cs M (i+1) }
    [some (.d (ilD cs)),some (.d (.int i)),some (.ref b),some (.d (.int n)),x4,x5,some (.ref p),some (.d (.lst (st.1.map oD))),some (.d (oD st.2)),x9,x10] M':=fun ds row M' hd ll sb pu hpl=>by
   subst hr2
   have mp:=f2.non p0
   refine BP fun r3 hr3=>?_
   walk_at "ra"
   refine ⟨_,hpl,_,zM _,mp,fun j hj z=>?_,fun q o hq e=>(pu q o e).imp id fun z=>z p,?_⟩
   ·match j with
    | 0 | 1 | 3 | 7 | 8=>cases z
    | 2=>exact pb (show b=p from z).symm
    | 4=>exact t4 p z
    | 5=>exact t5 p z
    | 6=>exact hj rfl
    | 9=>exact t9 p z
    | 10=>exact t10 p z
    | n+11=>cases z
   have sb:=SB.mdel sb p0 pb
   have pu:=pu.mdel p
   generalize mdel M' p=M7 at *
   have fr7:=SB.frm f2 b0 sb
   subst hr3
   refine zk fun r3 hr3=>?_
   walk_at "ra"
   refine QF (fun o=>[some (.d (ilD cs)),some (.d (.int i)),some (.ref b),some (.d (.int n)),x4,x5,some (.d (.lst (ds.map dD))),some (.d (.lst (st.1.map oD))),some (.d (oD st.2)),x9,o]) pSw id ⟨_,rfl⟩ trivial (by rw [am,am];omega) (fun o x Q hx q=>?_) fun o=>?_
   ·obtain ⟨y,hy,rfl⟩:=bn.mp hx
    obtain ⟨d,_,rfl⟩:=bn.mp hy
    rw [DR] at q
    walk_at "ra"
    refine ⟨_,by rw [Dl d];exact Bk _ _,_,by simp only [aX];exact at0 _ _,_,yr _ _,by rw [zY];omega,?_⟩
    by_cases c:dW d=au "swap"
    ·rw [vE,if_pos (decide_eq_true c)]
     rw [show vW d=true from decide_eq_true c,if_pos rfl] at q
     exact q _
    ·rw [vE,if_neg (by rw [decide_eq_false c];decide)]
     rw [show vW d=false from decide_eq_false c,if_neg (by decide)] at q
     exact q _
   ·rw [Wy]
    refine ⟨_,zM _,?_⟩
    subst hr3
    refine zk fun r3 hr3=>?_
    walk_at "ra"
    refine ⟨_,ds,rfl,by rw [kO,xi],by omega,?_⟩
    rw [<- xi]
    refine ⟨by omega,_,rfl,?_⟩
    obtain ⟨row2,hd2⟩:=Ey hd
    have hd3:=Gs hd
    have ll2:(ds.filter vW).length<=31:=bf (eI _ _) ll
    have ll3:(tid ds).length<=31:=bf (Vj _) ll
    refine ⟨fun j ρ M'=>∃ x5 x9,ρ=[some (.d (ilD cs)),some (.d (.int i)),some (.ref b),some (.d (.int n)),some (.d (.lst ((ds.filter vW).map dD))),x5,some (.d (.lst (ds.map dD))),some (.d (.lst (st.1.map oD))),some (.d (oD st.2)),x9,x10]/\M'=M7/\Tr x5/\Tr x9,⟨_,_,rfl,rfl,t5,t9⟩,?_,?_⟩
    ·rintro j y ρ M' hy ⟨x5,x9,rfl,rfl,t5,t9⟩
     obtain ⟨e,row',rfl,he,le⟩:∃ (e:List De) (row':List (Option Int)),y=.d (.lst (e.map dD))/\qu e ((zA 0 1 n).map some,none) (row',none)/\e.length<=31:=by
      match j,hy with
      | 0,hy=>cases hy;exact ⟨ds,_,rfl,hd,ll⟩
      | 1,hy=>cases hy;exact ⟨_,_,rfl,hd2,ll2⟩
      | 2,hy=>cases hy;exact ⟨_,_,rfl,hd3,ll3⟩
     clear hy
     obtain ⟨ok,ms,hw⟩:=Q0 (by omega) (by omega) he
     obtain ⟨ho,hc⟩:=ER he
     generalize hos:bL row'=os at *
     have oL:=Bf os n
     have sL:=vm ho
     have rL:=yB ho
     obtain ⟨T1,d1,b1⟩:=(yi.rings ho).told ho
     obtain ⟨ok1,ms1,w1⟩:=Q0 (by omega) (by rw [am];omega) d1
     obtain ⟨T2,d2,b2⟩:=(yi.swaps ho).told ho
     obtain ⟨ok2,ms2,w2⟩:=Q0 (by omega) (by rw [am];omega) d2
     have dO:dp (ilD os)<=40:=bf (JA os) (by decide)
     refine ⟨trivial,?_⟩
     show yX _ _ _ _ _ _
     refine zk fun r4 hr4=>?_
     walk_at "ra"
     refine ⟨n,_,rfl,by omega,ok,(fun i w h=>by rw [hw] at h;cases h),fun t ht=>?_⟩
     rw [hw] at ht
     cases ht
     refine ⟨(fun h e=>by cases e),fun _=>?_⟩
     rw [hos]
     subst hr4
     refine zk fun r4 hr4=>?_
     walk_at "ra"
     refine ⟨_,n,os,rfl,we _ _,ho,by omega,?_⟩
     rw [V4]
     refine ⟨n,_,rfl,by omega,ok1,(fun i w h=>by rw [w1] at h;cases h),fun t ht=>?_⟩
     rw [w1] at ht
     cases ht
     refine ⟨(fun h e=>by cases e),fun _=>?_⟩
     rw [b1]
     refine ⟨_,yr _ _,dO,dO,?_⟩
     rw [if_neg (xW dO)]
     refine ⟨_,n,os,rfl,we _ _,ho,by omega,?_⟩
     rw [Fw]
     refine ⟨n,_,rfl,by omega,ok2,(fun i w h=>by rw [w2] at h;cases h),fun t ht=>?_⟩
     rw [w2] at ht
     cases ht
     refine ⟨(fun h e=>by cases e),fun _=>?_⟩
     rw [b2]
     refine ⟨_,yr _ _,dO,dO,?_⟩
     rw [if_neg (xW dO)]
     subst hr4
     walk_at "ra"
     refine ⟨n,os,e,rfl,ho,by omega,by omega,hc,true,rfl,?_⟩
     rw [if_neg (by decide)]
     exact ⟨rfl,Mu _,Mu _⟩
    ·rintro ρ M' ⟨x5,x9,rfl,rfl,t5,t9⟩
     refine ⟨trivial,?_⟩
     subst hr3
     walk_at "ra"
     refine ⟨b,_,_,rfl,sb.bx,by omega,by omega,by omega,fun at_ M8 s8 a0 a1=>?_⟩
     have sb:=sb.go s8
     have pu:=pu.bx s8
     obtain ⟨k,rfl⟩:∃ k:Nat,at_=k:=⟨at_.toNat,by omega⟩
     refine ⟨n,k,ds,row,rfl,by omega,by omega,by omega,hd,true,rfl,?_⟩
     rw [if_neg (by decide)]
     exact ⟨SB.frm f2 b0 sb,pu,_,_,_,_,_,_,_,_,_,_,rfl,Mu _,t5,t9,t10⟩
  walk_at "ra"
  have ld':(ds.map dD).length<=30:=by rw [am];omega
  obtain ⟨row,hd⟩:=st
  cases hd with
  | none=>
   rw [if_neg (by rw [show jX (AV.d (oD none))=true from rfl];exact fun z=>nomatch z)]
   exact key ds row _ hdo (by omega) (sb.mono (by omega)) pu hpl
  | some h=>
   rw [if_pos (show jX (AV.d (oD (some h)))=false from rfl)]
   obtain ⟨j,j1,j2,j3⟩:=wB (HE cst)
   refine ⟨⟨_,jj hpl⟩,⟨_,rfl⟩,row.map vC,by rw [bv];exact LA row,.non,rfl,j,by rw [am];exact j1,fun y hy=>?_,fun m y hm hy=>?_,by omega,_,hpl,by rw [am];omega,?_⟩
   ·rw [aE,j2] at hy;cases hy;rfl
   ·rw [aE] at hy
    cases e:row[m]? with
    | none=>rw [e] at hy;cases hy
    | some c=>
     rw [e] at hy;cases hy
     cases c with
     | none=>exact absurd rfl (j3 m none hm e)
     | some x=>rfl
   ·have el:(ds.map dD).map AV.d ++ [AV.d (.tup [.str (au "lay"),.int j])]=((ds ++ [De.lay j]).map dD).map AV.d:=by rw [aQ,aQ];rfl
    rw [el]
    exact key _ _ _ (hdo.append (.one (.lay j2))) (by rw [bg];show _+1<=_;omega) ((sb.put p0 pb _).mono (by omega)) (pu.mup p _) ze
 ·rintro ρ M' ⟨f1,_,x1,x2,x3,x4,x5,x6,x7,x8,x9,x10,rfl,_⟩
  refine ⟨trivial,?_⟩
  subst hr0
  walk_at "ra"
  exact ZQ f1 q
end
variable {l:PySem.W.OpenLaw}
theorem all_mk {w:bE}{K:az}{h:Heap}{mg:Str->Option aq}{fa C pa cBadDeed cBadPlan cNotDone fBadDeed fBadPlan fNotDone:ay}{cdd:ClassData}(X:K.In h)(G:h.Ns bz mg)(hfa:mg "law"=some (.ref fa))(a:At K mg "law" EK)(B:Blt mg)(Ball:mg "all"=none)
  (a__law_take:At K mg "_law_take" Xy) (a__law_box:At K mg "_law_box" Bw) (a__law_folded:At K mg "_law_folded" wx) (a__law_length:At K mg "_law_length" Zd) (a__law_deed:At K mg "_law_deed" Yi) (a__law_done:At K mg "_law_done" XZ) (a__law_plan:At K mg "_law_plan" Yf) (a__law_no_fewer:At K mg "_law_no_fewer" Jn) (a__law_room_right:At K mg "_law_room_right" QN) (a_is_place:At K mg "is_place" yy) (a_is_deed:At K mg "is_deed" Zz) (a_back_of:At K mg "back_of" Q8) (a_room_behind:At K mg "room_behind" Xv) (a_walked:At K mg "walked" Dc) (a_order_done:At K mg "order_done" JE) (a_deeds_of:At K mg "deeds_of" Ju) (a_ring_from:At K mg "ring_from" xI) (a_rings:At K mg "rings" Jk) (a_round_ring:At K mg "round_ring" kL) (a_by_rings:At K mg "by_rings" ym) (a_by_swaps:At K mg "by_swaps" yt) (a_back_deed:At K mg "back_deed" JC) (a_undone:At K mg "undone" ZG) (a_undoes:At K mg "undoes" Zl) (a_tidied:At K mg "tidied" wC)
  (ag_BadDeed:bK K bz "BadDeed"=some (some (.ref cBadDeed)))
  (ag_BadPlan:bK K bz "BadPlan"=some (some (.ref cBadPlan)))
  (ag_NotDone:bK K bz "NotDone"=some (some (.ref cNotDone)))
  (xgs:gz K (.builtin "object.__class__") "__get__"=some (some (.builtin "getset_descriptor.__get__")))
  (xtk:mq K (.builtin "object.__class__")=some true)
  (dbx:PySem.W.subIn K (.ref cBadDeed) (.type "BaseException")=some true)
  (dga:bC K (.ref cBadDeed) "__getattribute__"=some (some (.builtin "BaseException.__getattribute__")))
  (dgt:bC K (.ref cBadDeed) "__getattr__"=some none)
  (dcl:bC K (.ref cBadDeed) "__class__"=some (some (.builtin "object.__class__")))
  (dmo:PySem.W.mroIn K cBadDeed (.type "object")=some true)
  (dis:PySem.W.clsIn K cBadDeed=some cdd)
  (dhd:eP K cBadDeed=true)
  (dfw:bC K (.ref cBadDeed) "word"=some none)
  (di:iQ K (.ref cBadDeed) (.ref cBadDeed)=some true)
  (xa_BadDeed:bC K (.ref cBadDeed) "__init__"=some (some (.ref fBadDeed))) (xd_BadDeed:∃ fd,Fun K "__init__" "BadDeed.__init__" Zp fBadDeed fd) (xn_BadDeed:dh K (.ref fBadDeed)=true) (xq_BadDeed:jp K cBadDeed vG "ValueError.__new__" fBadDeed=true) (xs_BadDeed_word:ye K cBadDeed "word")
  (xa_BadPlan:bC K (.ref cBadPlan) "__init__"=some (some (.ref fBadPlan))) (xd_BadPlan:∃ fd,Fun K "__init__" "BadPlan.__init__" yR fBadPlan fd) (xn_BadPlan:dh K (.ref fBadPlan)=true) (xq_BadPlan:jp K cBadPlan vG "ValueError.__new__" fBadPlan=true) (xs_BadPlan_place:ye K cBadPlan "place") (xs_BadPlan_word:ye K cBadPlan "word")
  (xa_NotDone:bC K (.ref cNotDone) "__init__"=some (some (.ref fNotDone))) (xd_NotDone:∃ fd,Fun K "__init__" "NotDone.__init__" wF fNotDone fd) (xn_NotDone:dh K (.ref fNotDone)=true) (xq_NotDone:jp K cNotDone vG "ValueError.__new__" fNotDone=true) (xs_NotDone_hand:ye K cNotDone "hand")
  (aP:bK K bz "PLACES_OF"=some (some (.ref pa))) {t1 t2 t3 t4 u1 u2 u3 u4:Tok} {ep:Nat}
  (lP:K.lookup pa=some ⟨.type "dict",none,.dict #[⟨iX w "swap",.str "swap" t1,.int 2 u1⟩,⟨iX w "take",.str "take" t2,.int 1 u2⟩,⟨iX w "move",.str "move" t3,.int 2 u3⟩,⟨iX w "lay",.str "lay" t4,.int 1 u4⟩] ep,#[]⟩) (nP:(pa == lN)=false)
  (aC:bK K bz "Room"=some (some (.ref C))) (pg:fO K C Str.empty=true) (hd:eP K C=true) (po:i7 K C=true) (sa:bC K (.ref C) "__setattr__"=some (some (.builtin "object.__setattr__"))) (mk:mn K C=true) (kc:dv K (.ref C)=true)
  (nr:bC K (.ref C) "row"=some none) (nh:bC K (.ref C) "hand"=some none) (nm:bC K (.ref C) "moved"=some none)
  (am___init__:AtM K C "__init__" "Room.__init__" Q3) (am_do:AtM K C "do" "Room.do" LG) (am_swap:AtM K C "swap" "Room.swap" XT) (am_take:AtM K C "take" "Room.take" Q5) (am_move:AtM K C "move" "Room.move" XQ) (am_lay:AtM K C "lay" "Room.lay" Be) (am_lift:AtM K C "lift" "Room.lift" Xw) (am_row_now:AtM K C "row_now" "Room.row_now" Yj) (am_hand_now:AtM K C "hand_now" "Room.hand_now" XA) (am_moved_now:AtM K C "moved_now" "Room.moved_now" Yn) (am_twin:AtM K C "twin" "Room.twin" Yu)
 :∃ fd:dz,(∀ (s:ax) (v:aq),lS s fd ⟨[v],[]⟩ [("_law_script",v)])/\∀ base:Heap,K.In base->base.Ns bz mg->jx l.prog w K mg base CX0 20 fa fd ["_law_script"] (VJ K):=by
 obtain ⟨f,fd,F,m⟩:=id a
 obtain rfl:fa=f:=by rw [hfa] at m;cases m;rfl
 obtain ⟨oc,od,kV,doc,pm,an,cdv,ct,osl,e,lk,hcd⟩:=F.ex
 refine ⟨fd,fun s v=>?_,fun base _ _=>?_⟩
 ·subst e;exact .of_eq rfl
 ·have T:=Hn (P:=l.prog) (w:=w) (base:=base) a__law_take B
  have XG_BadDeed:=f7 X G ag_BadDeed
  have XG_BadPlan:=f7 X G ag_BadPlan
  have XG_NotDone:=f7 X G ag_NotDone
  have R:RTx K C:=⟨⟨pg,hd,po,sa⟩,nr,nh,nm⟩
  have KP:KD K w pa Fz:=WL lP nP
  have MP:=f7 X G aP
  have MC:=f7 X G aC
  have XD:XB K cBadDeed:=⟨⟨dbx,dga,dgt,dcl,xgs,xtk,dmo,by rw [dis];rfl⟩,di,dhd,dfw⟩
  obtain ⟨fdB,FB⟩:=xd_BadDeed
  obtain ⟨fdP,FP⟩:=xd_BadPlan
  obtain ⟨fdN,FN⟩:=xd_NotDone
  have MX:MkX l.prog w K mg base cBadDeed 1 1 fnW:=Nf FB xq_BadDeed xn_BadDeed xs_BadDeed_word
  have MP1:MkX l.prog w K mg base cBadPlan 1 2 fnP:=IL FP xq_BadPlan xn_BadPlan xs_BadPlan_place xs_BadPlan_word
  have MP2:Jf l.prog w K mg base cBadPlan 1 2 fnP:=Hv FP xq_BadPlan xn_BadPlan xs_BadPlan_place xs_BadPlan_word
  have MN:MkX l.prog w K mg base cNotDone 1 1 fnN:=M9 FN xq_NotDone xn_NotDone xs_NotDone_hand
  have d1:=WI (P:=l.prog) (w:=w) (base:=base) a_is_deed B Ball (K2 a_is_place B) KP MP
  have ml:=Bd am_lift R B MX XG_BadDeed
  have md:=MU am_do R B (MkX.mono MX (by decide)) XG_BadDeed (d1.mono (by decide)) ((AR am_swap R B MX XG_BadDeed).mono (by decide)) (V8 am_take R B (MkX.mono MX (by decide)) XG_BadDeed ml) (Et am_move R B (MkX.mono MX (by decide)) XG_BadDeed ml) ((GP am_lay R B MX XG_BadDeed).mono (by decide))
  obtain ⟨fi,fdi,Fi,bi,mi⟩:=(Kj (P:=l.prog) (w:=w) (base:=base) am___init__ R B).mono (show 1<=5 by decide)
  obtain ⟨fi9,fdi9,Fi9,bi9,mi9⟩:=(Kj (P:=l.prog) (w:=w) (base:=base) am___init__ R B).mono (show 1<=9 by decide)
  have MR:Mkr l.prog w K mg base "Room" C ["self","n"] 5 (cSp (Qq C)):=⟨fi,fdi,Fi,bi,⟨mk,mi.at_,mi.fn,kc⟩,MC⟩
  have MR9:Mkr l.prog w K mg base "Room" C ["self","n"] 9 (cSp (Qq C)):=⟨fi9,fdi9,Fi9,bi9,⟨mk,mi9.at_,mi9.fn,kc⟩,MC⟩
  have rb:=F8 (P:=l.prog) (w:=w) (base:=base) a_room_behind B R.cl XG_BadDeed XG_BadPlan (MkX.mono MP1 (by decide)) (MP2.mono (by decide)) XD MR (md.mono (by decide))
  have wk:=Md (P:=l.prog) (w:=w) (base:=base) a_walked B R.cl rb ((Du a_back_of B).mono (by decide)) ((Vd am_row_now R B).mono (by decide)) ((VQ am_hand_now R B).mono (by decide)) ((VD am_moved_now R B).mono (by decide))
  have od:=Ay (P:=l.prog) (w:=w) (base:=base) a_order_done B XG_NotDone (MkX.mono MN (by decide)) wk
  have tk:=T.imp' Gq
  have dn:=(GN (P:=l.prog) (w:=w) (base:=base) a__law_done B)
  have dd:=(GW (P:=l.prog) (w:=w) (base:=base) a__law_deed B tk)
  have pl:=GX (P:=l.prog) (w:=w) (base:=base) a__law_plan B dd (dn.mono (by decide))
  have rg:=(Fs (P:=l.prog) (w:=w) (base:=base) a_rings B (Jc a_ring_from B)).imp' Dk
  have br:=JP (P:=l.prog) (w:=w) (base:=base) a_by_rings B rg ((ZS a_round_ring B).mono (by decide))
  have bs:=Kt (P:=l.prog) (w:=w) (base:=base) a_by_swaps B rg
  have bd:=B2 (P:=l.prog) (w:=w) (base:=base) a_back_deed B
  have ti:=(WC (P:=l.prog) (w:=w) (base:=base) a_tidied B (WX a_undoes B bd)).imp' GD
  have nf:=A7 (P:=l.prog) (w:=w) (base:=base) a__law_no_fewer B ((Fd a_deeds_of B).mono (by decide)) (br.mono (by decide)) (bs.mono (by decide))
  have rr:=EF (P:=l.prog) (w:=w) (base:=base) a__law_room_right B R.cl MR9 (md.mono (by decide)) ((GF am_twin R B MR).mono (by decide)) ((Vd am_row_now R B).mono (by decide)) ((VQ am_hand_now R B).mono (by decide)) ((VD am_moved_now R B).mono (by decide)) (wk.mono (by decide)) ((Ao a_undone B bd).mono (by decide))
  have L:=Mb (P:=l.prog) (w:=w) (base:=base) a B (((NE a__law_box B).imp' IJ).mono (by decide)) (((W8 a__law_folded B).imp' Aa).mono (by decide)) (((Ak a__law_length B T).imp' W6).mono (by decide)) (tk.mono (by decide)) (pl.mono (by decide)) (ti.mono (by decide)) (od.mono (by decide)) (br.mono (by decide)) (bs.mono (by decide)) (nf.mono (by decide)) (rr.mono (by decide))
  exact (L.imp' (sp_law (K:=K))).fn m lk
theorem walk {q:ba}{loose:List Str}{XP:(Str->Option aq)->Heap->Prop}{YP:bE->Heap->Prop}{d:DefRec}{K:Params->az}(hn:l.most=some 63)(hdf:d.params.defaults=[])
  (hY:∀ (w:bE) (h:Heap),YP w h->(K w.params).In h)
  (F:∀ (w:bE) (mg:Str->Option aq) (fa:ay) (h:Heap),(K w.params).In h->h.Ns bz mg->mg d.name=some (.ref fa) ->
   ∃ fd:dz,(∀ (s:ax) (u:aq),lS s fd ⟨[u],[]⟩ [("_law_script",u)])/\∀ base:Heap,(K w.params).In base->base.Ns bz mg->jx l.prog w (K w.params) mg base CX0 20 fa fd ["_law_script"] (VJ (K w.params))) :
  PySem.W.WalkO q loose XP YP l.row.toRowW d [] (fun f vs=>oK f vs):=
 L2.walk_of (n:=63) (k:=20) (x:="_law_script") (CX:=fun _=>CX0) (sp:=fun w=>VJ (K w.params)) hn (by decide) hdf ⟨rfl,rfl,by decide,by decide⟩ hY F (fun _ _ a ns hl _ hS=>⟨a,ns,rfl,hS,hl,fun _=>rfl⟩) fun _ _ _ _ _ z=>z
end Ot
theorem PySem.W.Fast.te10487708649639760086:True:=trivial
theorem PySem.W.Fast.te17595849995105484197:True:=trivial
theorem PySem.W.Fast.te17253630895479218351:True:=trivial
namespace PySem.W.Fast
def tw13054119123574228914:=()
def tw6278755808198206526:=()
def tw5041579071180012558:=()
def tw7536375568351775100:=()
def tw10449975115239897032:=()
def tw3581887235285309633:=()
def tw12976596922265538911:=()
def tw17046791924036813926:=()
def tw14511338924119491323:=()
def tw17522170272117378617:=()
def tw13503914710124821901:=()
def tw6728100588132787300:=()
def tw16657704674335854718:=()
def tw2853747113609055486:=()
def tw5822525009253821143:=()
def tw6673810963348213034:=()
def tw12611126336382285302:=()
def tw9622116238409774194:=()
def tw7140391568696465988:=()
def tw15068998165580019350:=()
def tw9646508132226298691:=()
def tw2367967238200283539:=()
def tw407246110050060274:=()
def tw13805048629312179296:=()
def tw11364900093652464773:=()
def tw16139306190903856564:=()
def tw15741627363250307015:=()
def tw1734284468703304765:=()
def tw4706126807705716402:=()
def tw15540783612712046096:=()
def tw7199146402701721987:=()
def tw5278734430394706666:=()
def tw1782028540920910232:=()
def tw2103374781038825867:=()
def tw17316927212034445124:=()
def tw4713606170265106302:=()
def tw17418852101055207158:=()
def tw2520794900617469251:=()
def tw18225096508861862567:=()
def tw4200750956249413346:=()
def tw3145971652302499035:=()
def tw4821127914366453478:=()
def tw13419596676721955352:=()
def tw1041476310857535239:=()
def tw795948230816278195:=()
def tw16345190168031662017:=()
def tw12647480767464467787:=()
def tw14364506292947593614:=()
def tw13230401322759102142:=()
def tw239228096364461561:=()
def tw7670040182402204963:=()
def tw13650902822099387622:=()
def tw2084177552777433745:=()
def tw15716470667037791736:=()
def tw17214629464806164178:=()
def tw7644573905336431112:=()
def tw2587248843745571128:=()
def tw18195605050235041995:=()
def tw17874337572656021492:=()
def tw6821183679722807300:=()
def tw14905105254479175632:=()
def tw17382642439359069344:=()
def tw8876759252438908273:=()
def tw14318691354068087166:=()
def tw23503274427866194:=()
def tw7204822648893487892:=()
def tw10934877234202347283:=()
def tw2895453457421506496:=()
def tw12290208734379026734:=()
def tw947466926053954789:=()
def tw1801127428671493995:=()
def tw13878309755970862378:=()
def tw15955038628515891630:=()
def tw6037522133093403556:=()
def tw7362905986060916280:=()
def tw13507139776751120842:=()
def tw2831209168306376990:=()
def tw17877672918092876144:=()
def tw4877864868558472745:=()
def tw16621757712215220636:=()
def tw508876564239353641:=()
def tw6475372128768193584:=()
def tw12590939915031920413:=()
def tw10979413286484482980:=()
def tw15078334191360525033:=()
def tw1882108198271846602:=()
def tw3474671929046746481:=()
def tw4491767796156756368:=()
def tw13556103764607750945:=()
def tw11950266158710648356:=()
def tw8577705162618888587:=()
def tw8611403431538217513:=()
def tw4106946071760043247:=()
def tw9281625737844674020:=()
def tw11399878752844833241:=()
def tw9197245037931298809:=()
def tw13969025136456316837:=()
def tw5455942924959879204:=()
def tw7769510189524886973:=()
def tw1950634615199617088:=()
def tw15769356418883684680:=()
def tw11940062024419384579:=()
def tw12891589025953193494:=()
def tw4385759952235730998:=()
def tw17145894966491074529:=()
def tw10322239191903093553:=()
def tw3822474651112606021:=()
def tw14097262783097629127:=()
def tw3639515899021071430:=()
def tw10688912252896844325:=()
def tw17659253118694285452:=()
def tw9650041117650375763:=()
def tw659386258592430051:=()
def tw7815670653472444917:=()
def tw7758442269920109347:=()
def tw9004723568335518403:=()
def tw14229004460655424276:=()
def tw1062263382389285245:=()
def tw8853563939605879139:=()
def tw55645255692848:=()
def tw11040832942897693913:=()
def tw13792653266638209958:=()
def tw307527053484867726:=()
def tw4178659483319333394:=()
def tw8001004585312098144:=()
def tw7034879645441130312:=()
def tw9034225903927141845:=()
def tw580532284108626428:=()
def tw2995561945398806975:=()
def tw5120531007910981562:=()
def tw3489909636295369671:=()
def tw1600339725279217574:=()
def tw44562903345940126:=()
def tw10733688753097373553:=()
def tw16953749996925311970:=()
def tw11575597927789576958:=()
def tw14913076985819270865:=()
def tw13057593604482727520:=()
def tw1899754451894580337:=()
def tw12216497933056594905:=()
def tw18439043354104452326:=()
def tw1564654568465387917:=()
def tw7454241736226749168:=()
def tw1686281207597240365:=()
def tw16904492641946345384:=()
def tw14203169437380518637:=()
def tw4487153287731758185:=()
def tw10925056022019251179:=()
def tw13401373942216706596:=()
def tw4490119907805879696:=()
def tw10295127773076958945:=()
def tw18118451403646708740:=()
def tw7240218726860805497:=()
def tw3101041414887024940:=()
def tw2793572153057961788:=()
def tw8227438419358227777:=()
def tw15791442589031688816:=()
def tw12999667753462851785:=()
def tw14140168279265218435:=()
def tw102903085066708451:=()
def tw15331967773940540568:=()
def tw17471276872556504184:=()
def tw11712737461341384903:=()
def tw5982237022741197941:=()
def tw1586432157176701444:=()
def tw5088877433248122354:=()
def tw16432134038030185684:=()
def tw4386954810201266947:=()
def tw183610268084305874:=()
def tw18204294475957525784:=()
def tw10548706029043918556:=()
def tw17394358467522305968:=()
def tw3787080547570907768:=()
def tw16695636556413008480:=()
def tw10403802862083678439:=()
def tw15281747515950408151:=()
def tw167960040880498080:=()
def tw4559936731167149882:=()
def tw7966800033765117860:=()
def tw11520033255216185825:=()
def tw15332800583499695406:=()
def tw17381559494158399354:=()
def tw14345243306943419573:=()
def tw11644783291106047501:=()
def tw2718275393103719439:=()
def tw2583029777904615644:=()
def tw889508187848507011:=()
def tw15197250984735597707:=()
def tw1786887762114521001:=()
def tw16493440369755550726:=()
def tw1233434590033427439:=()
def tw12414509831036333629:=()
def tw81740153422877569:=()
def tw2535066821918954895:=()
def tw13294972763534410781:=()
def tw11906983912290042463:=()
def tw3142373621126939373:=()
def tw3416384835988963954:=()
def tw10451067565472751238:=()
def tw7413032620768193119:=()
def tw2340621114887492019:=()
def tw1268310558976873083:=()
def tw18137375702269894058:=()
def tw15067592384998588860:=()
def tw5292698779898259697:=()
def tw321301173507732194:=()
def tw4383075529237905039:=()
def tw3880137187409538056:=()
def tw17399625338264941658:=()
def tw12588108818111795413:=()
def tw6483662057867049743:=()
def tw6336967509400635971:=()
def tw6621919817923629312:=()
def tw11567140312978657543:=()
def tw6497341067311581793:=()
def tw2106641585977897841:=()
def tw448608070359956241:=()
def tw11824823750187569131:=()
def tw1619029329096747681:=()
def tw16600184483029023268:=()
def tw10807000005334797913:=()
def tw15739727148941786019:=()
def tw17064780343890915465:=()
def tw15971513901700009185:=()
def tw3184947317832693028:=()
def tw7772463531927812968:=()
def tw4995975824136499475:=()
def tw4055220386364976469:=()
def tw14717338876353866286:=()
def tw11851618216822034275:=()
def tw17776188293622640997:=()
def tw1992613583180224793:=()
def tw2012735848661981137:=()
def tw5926272291413224128:=()
def tw5311502284298564706:=()
def tw14580652591103932709:=()
def tw17493098087141915902:=()
def tw10357769303145065108:=()
def tw854149429874859966:=()
def tw15087163690825040824:=()
def tw250919759899333052:=()
def tw4744792155984905528:=()
def tw9953218168367871287:=()
def tw5551809808073358440:=()
def tw10388435285870987592:=()
def tw13577777082767999743:=()
def tw18324368889570493266:=()
def tw14585189886988612639:=()
def tw8709851615039922598:=()
def tw6927207407793841014:=()
def tw278226031692314901:=()
def tw17888436385989872878:=()
def tw3750815842307421821:=()
def tw10845210749856908794:=()
def tw8280344933553892411:=()
def tw10648432082478629130:=()
def tw864435665832136623:=()
def tw16782978230192198105:=()
def tw14854998607574910807:=()
def tw9754534308471034497:=()
def tw9997785131835109388:=()
def tw528102488852863631:=()
def tw11624534137784260798:=()
def tw5937095712936800286:=()
def tw1916418061706399812:=()
def tw14544286254501715103:=()
def tw11963402646719998308:=()
def tw17390443033380834125:=()
def tw5273977040511957897:=()
def tw17556255340095488738:=()
def tw16536571039395552432:=()
def tw4636065522348194992:=()
def tw8181525777832717183:=()
def tw17510381399533212933:=()
def tw1691638389505896209:=()
def tw2576917972288743593:=()
def tw10418874089642265669:=()
def tw5880007691869857272:=()
def tw1018252029910140350:=()
def tw7357100572430370406:=()
def tw13250812814218203118:=()
def tw5010152222256998105:=()
def tw16527480798636183013:=()
def tw12605647176498992026:=()
def tw52618817066356963:=()
def tw10145457120938227441:=()
def tw5330446230336915273:=()
def tw14050399711954602367:=()
def tw18147556916874708894:=()
def tw3828447796063291753:=()
def tw3057546454043506235:=()
def tw697313313408471457:=()
def tw17500000871285378313:=()
def tw658297034375117097:=()
def tw1486643826448472601:=()
def tw394777695513442828:=()
def tw6448176553709176865:=()
def tw12116191386650530507:=()
def tw16662467384678234559:=()
def tw4866220704598431810:=()
def tw386288691775277483:=()
def tw16365507933885483202:=()
def tw5578119297657523359:=()
def tw13757685422795139799:=()
def tw10913290062534811156:=()
def tw12103976454027276644:=()
def tw16846159284287554366:=()
def tw9893228050952531466:=()
def tw13960814726767722314:=()
def tw17058430759714798197:=()
def tw7676672871786429296:=()
def tw11656008131994760757:=()
def tw5352075760952558096:=()
def tw77166834803901106:=()
def tw3036119820735770233:=()
def tw13252657114375446309:=()
def tw13892787644548437326:=()
def tw3977759196022064153:=()
def tw2504207333026854082:=()
def tw7250870451982610980:=()
def tw13518271245452155703:=()
end PySem.W.Fast
open PySem PySem.W PyProof.Rows
set_option maxRecDepth 100000 in
set_option maxHeartbeats 0 in
theorem PySem.Challenge.cw_ownturn_k68_whole_rooms_by_any_plan_holds : PySem.Challenge.rw_ownturn_k68_whole_rooms_by_any_plan.Holds := by
 w_on; o_law; k_head; (case hw => w_witness2)
 k_fill
 refine Ot.walk (l := PySem.Challenge.rw_ownturn_k68_whole_rooms_by_any_plan) rfl rfl (fun w h Y => PySem.W.kIn_of Y) ?F
 case F =>
  intro w mg fa h KX G hmg
  refine' Ot.all_mk KX G hmg (L2.at_mk KX G ?a0 ?l0 ?c0 ?k0) (L2.blt_mk KX G ?z1 ?z2 ?z3 ?z4 ?z5 ?z6 ?z7 ?z8 ?z9 ?z10 ?z11 ?z12 ?z13 ?z14 ?z15 ?z16) (PySem.W.mg_none_of KX G ?zall) (L2.at_mk KX G ?a1 ?l1 ?c1 ?k1) (L2.at_mk KX G ?a2 ?l2 ?c2 ?k2) (L2.at_mk KX G ?a3 ?l3 ?c3 ?k3) (L2.at_mk KX G ?a4 ?l4 ?c4 ?k4) (L2.at_mk KX G ?a5 ?l5 ?c5 ?k5) (L2.at_mk KX G ?a6 ?l6 ?c6 ?k6) (L2.at_mk KX G ?a7 ?l7 ?c7 ?k7) (L2.at_mk KX G ?a8 ?l8 ?c8 ?k8) (L2.at_mk KX G ?a9 ?l9 ?c9 ?k9) (L2.at_mk KX G ?a10 ?l10 ?c10 ?k10) (L2.at_mk KX G ?a11 ?l11 ?c11 ?k11) (L2.at_mk KX G ?a12 ?l12 ?c12 ?k12) (L2.at_mk KX G ?a13 ?l13 ?c13 ?k13) (L2.at_mk KX G ?a14 ?l14 ?c14 ?k14) (L2.at_mk KX G ?a15 ?l15 ?c15 ?k15) (L2.at_mk KX G ?a16 ?l16 ?c16 ?k16) (L2.at_mk KX G ?a17 ?l17 ?c17 ?k17) (L2.at_mk KX G ?a18 ?l18 ?c18 ?k18) (L2.at_mk KX G ?a19 ?l19 ?c19 ?k19) (L2.at_mk KX G ?a20 ?l20 ?c20 ?k20) (L2.at_mk KX G ?a21 ?l21 ?c21 ?k21) (L2.at_mk KX G ?a22 ?l22 ?c22 ?k22) (L2.at_mk KX G ?a23 ?l23 ?c23 ?k23) (L2.at_mk KX G ?a24 ?l24 ?c24 ?k24) (L2.at_mk KX G ?a25 ?l25 ?c25 ?k25) ?xgD ?xgP ?xgNotDone ?xfxgs ?xfxtk ?xfdbx ?xfdga ?xfdgt ?xfdcl ?xfdmo ?xfdis ?xfdhd ?xfdfw ?xfdi ?xaD ⟨_, L2.fun_mk ?xlD ?xcD ?xkD⟩ ?xnD ?xqD ⟨?xsDword, ?xtDword, ?xhDword, ?xmDword, ?xvDword⟩ ?xaP ⟨_, L2.fun_mk ?xlP ?xcP ?xkP⟩ ?xnP ?xqP ⟨?xsPplace, ?xtPplace, ?xhPplace, ?xmPplace, ?xvPplace⟩ ⟨?xsPword, ?xtPword, ?xhPword, ?xmPword, ?xvPword⟩ ?xaNotDone ⟨_, L2.fun_mk ?xlNotDone ?xcNotDone ?xkNotDone⟩ ?xnNotDone ?xqNotDone ⟨?xsNotDonehand, ?xtNotDonehand, ?xhNotDonehand, ?xmNotDonehand, ?xvNotDonehand⟩ ?aP ?lP ?nP ?aC ?pg ?hd ?po ?sa ?mk ?kc ?nr ?nh ?nm (L2.atm_mk ?ma0 ?mi0 ?ml0 ?mc0 ?mk0) (L2.atm_mk ?ma1 ?mi1 ?ml1 ?mc1 ?mk1) (L2.atm_mk ?ma2 ?mi2 ?ml2 ?mc2 ?mk2) (L2.atm_mk ?ma3 ?mi3 ?ml3 ?mc3 ?mk3) (L2.atm_mk ?ma4 ?mi4 ?ml4 ?mc4 ?mk4) (L2.atm_mk ?ma5 ?mi5 ?ml5 ?mc5 ?mk5) (L2.atm_mk ?ma6 ?mi6 ?ml6 ?mc6 ?mk6) (L2.atm_mk ?ma7 ?mi7 ?ml7 ?mc7 ?mk7) (L2.atm_mk ?ma8 ?mi8 ?ml8 ?mc8 ?mk8) (L2.atm_mk ?ma9 ?mi9 ?ml9 ?mc9 ?mk9) (L2.atm_mk ?ma10 ?mi10 ?ml10 ?mc10 ?mk10)
  (case xgD | xgP | xgNotDone => k_is)
  (case xfxgs | xfxtk | xfdbx | xfdga | xfdgt | xfdcl | xfdmo | xfdis | xfdhd | xfdfw | xfdi => first | k_is | kit_is | kts_exm)
  (case xaD | xlD | xcD | xkD | xnD => k_is)
  (case xqD => first | rfl | with_unfolding_all rfl | exact Eq.refl true)
  (case xsDword | xtDword | xhDword | xmDword => k_is)
  (case xvDword => first | rfl | with_unfolding_all rfl | exact Eq.refl true)
  (case xaP | xlP | xcP | xkP | xnP => k_is)
  (case xqP => first | rfl | with_unfolding_all rfl | exact Eq.refl true)
  (case xsPplace | xtPplace | xhPplace | xmPplace => k_is)
  (case xvPplace => first | rfl | with_unfolding_all rfl | exact Eq.refl true)
  (case xsPword | xtPword | xhPword | xmPword => k_is)
  (case xvPword => first | rfl | with_unfolding_all rfl | exact Eq.refl true)
  (case xaNotDone | xlNotDone | xcNotDone | xkNotDone | xnNotDone => k_is)
  (case xqNotDone => first | rfl | with_unfolding_all rfl | exact Eq.refl true)
  (case xsNotDonehand | xtNotDonehand | xhNotDonehand | xmNotDonehand => k_is)
  (case xvNotDonehand => first | rfl | with_unfolding_all rfl | exact Eq.refl true)
  (case aP | lP => k_is)
  (case nP => first | rfl | decide | k_is)
  (case aC | a0 | l0 | c0 | k0 | a1 | l1 | c1 | k1 | a2 | l2 | c2 | k2 | a3 | l3 | c3 | k3 | a4 | l4 | c4 | k4 | a5 | l5 | c5 | k5 | a6 | l6 | c6 | k6 | a7 | l7 | c7 | k7 | a8 | l8 | c8 | k8 | a9 | l9 | c9 | k9 | a10 | l10 | c10 | k10 | a11 | l11 | c11 | k11 | a12 | l12 | c12 | k12 | a13 | l13 | c13 | k13 | a14 | l14 | c14 | k14 | a15 | l15 | c15 | k15 | a16 | l16 | c16 | k16 | a17 | l17 | c17 | k17 | a18 | l18 | c18 | k18 | a19 | l19 | c19 | k19 | a20 | l20 | c20 | k20 | a21 | l21 | c21 | k21 | a22 | l22 | c22 | k22 | a23 | l23 | c23 | k23 | a24 | l24 | c24 | k24 | a25 | l25 | c25 | k25 | zall | z1 | z2 | z3 | z4 | z5 | z6 | z7 | z8 | z9 | z10 | z11 | z12 | z13 | z14 | z15 | z16 | pg | hd | po | sa | mk | kc | nr | nh | nm | ma0 | mi0 | ml0 | mc0 | mk0 | ma1 | mi1 | ml1 | mc1 | mk1 | ma2 | mi2 | ml2 | mc2 | mk2 | ma3 | mi3 | ml3 | mc3 | mk3 | ma4 | mi4 | ml4 | mc4 | mk4 | ma5 | mi5 | ml5 | mc5 | mk5 | ma6 | mi6 | ml6 | mc6 | mk6 | ma7 | mi7 | ml7 | mc7 | mk7 | ma8 | mi8 | ml8 | mc8 | mk8 | ma9 | mi9 | ml9 | mc9 | mk9 | ma10 | mi10 | ml10 | mc10 | mk10 => k_is)
