import PyProof.Rows.All
import Wide.All
import OpenK.AllK
import Wide.FinOn
import Lean
import PyProof.EqAt
import PyProof.EqKinds
import PyProof.TupleCall
import Lean
import PyProof.ExcInit
import PyProof.ExcClass3
import PyProof.InstStoreFacts
import KE.KIsAll
import KE.KTryMore
import PyProof.ExcBaseAll.ValueError
import PyProof.ExcArgsOwn
import KE.RegKIsAll
import KE.RegKTryMore
import PyProof.RulesAs
import PyProof.WalksMore
import PyProof.TupleOfGen
import PyProof.DictUpdate
import PyProof.FactsAll.dict_3
import PyProof.FactsAll.dict_4
import PySem.Challenge.RW_ownturn_k76_whole_two_reasons_at_once
local macro_rules | `(tactic| omega) => `(tactic| lia)
set_option compiler.extract_closed false
set_option Elab.async false
set_option linter.all false
set_option maxRecDepth 100000
open Array renaming length_toList->gL,getElem?_eq_some_iff->hW,mem_toList_iff->lv,append_assoc->lU,find?_toList->lW
open Bool renaming false_ne_true->bo,and_eq_true->dj,eq_iff_iff->fJ,and_false->gb,not_true->iC,not_false->lD,false_eq_true->me
open Classical renaming choose->iP,choose_spec->ls
open Eq renaming refl->lL
open Except renaming ok->iT
open False renaming elim->bM
open ForInStep renaming yield->eN
open Int renaming toNat_natCast->bp,fdiv_eq_ediv_of_nonneg->gW,fmod_eq_emod_of_nonneg->gX,mul_one->ie,zero_add->mR
open Lean renaming mkIdent->gR
open Lean.Parser.Tactic renaming tacticSeq->eO
open List renaming getElem?_eq_getElem->au,length_map->aw,getD_eq_getElem?_getD->aD,mem_cons->aF,getElem?_eq_some_iff->aG,replicate->aH,size_toArray->aJ,getElem?_map->aK,not_mem_nil->aN,map_map->aZ,length_cons->ba,mem_of_getElem?->bf,mem_cons_of_mem->bj,getElem_mem->bv,length_append->bA,getElem?_of_mem->bC,mem_cons_self->bD,mem_map->bE,length_take->bI,length_set->bN,map_append->bO,lookup->bP,map_cons->bQ,find?_cons->bS,mem_append_right->bT,length_replicate->bU,append_nil->bW,range->b8,mem_singleton->cj,nodup_cons->cr,length_drop->cw,lookup_cons->cy,getElem?_append_left->cz,map->cC,mem_or_eq_of_mem_set->cF,getElem?_set_ne->cU,getElem?_append_right->dg,replicate_succ->dh,getElem?_set->dG,length_range->dH,mem_append->dM,all_cons->dW,flatten_cons->ej,set_comm->er,all_eq_true->eE,mem_filterMap->eJ,length_singleton->eT,length_filter_le->eU,mem_range->eZ,getElem_toArray->fc,filterMap_cons->fu,map_congr_left->fC,length_nil->fK,count_cons->fM,map_replicate->fP,getElem?_set_self->fS,take_of_length_le->gg,drop_of_length_le->gh,map_set->gi,nodup_nil->gk,ext_getElem->gu,take_length->gw,mem_append_left->gB,of_mem_zip->gI,forIn_cons->gJ,getElem?_range->gN,idxOf_lt_length_of_mem->gS,drop_eq_getElem_cons->h9,take_add_one->iq,any_cons->iA,getElem?_replicate->iJ,length_eq_zero_iff->iQ,all_nil->lf,mem_filter->lg,foldl_cons->lj,mem_of_mem_drop->lF,mem_of_mem_take->lG,Pairwise->lQ,contains_cons->mh,count_pos_iff->mq,getElem_idxOf->mr,append_assoc->mF,map_nil->mG,all_map->mM,getElem?_inj->mP,pairwise_map->mQ,getElem_inj->mS,countP_cons->m7,nodup_range->ng,length->nk,foldl->ny
open List.cons renaming inj->iD
open Nat renaming le_refl->aM,ne_of_lt->bq,lt_of_lt_of_le->bw,le_trans->bz,zero_le->cV,lt_irrefl->dk,lt_of_sub_eq_succ->d9,ne_of_gt->eh,succ_le_succ->eG,le_of_ble_eq_true->eV,max_le->ff,succ_ne_self->iO,le_max_right->iR,min_self->i7,le_max_left->lp,le_of_lt->mw,le_of_eq->mB,lt_succ_of_lt->mK,lt_succ_self->mU,le_add_right->m3,min_eq_right->m8,le_succ->nj
open Option renaming map_eq_some_iff->dQ,isSome_iff_exists->iz,getD_none->mY,bind_some->m9
open Option.some renaming inj->bR
open Or renaming inl->aV,inr->aW
open PyProof renaming noPylong_small->iZ
open PyProof.Rows renaming Keyed->cq,callWith_type1->cY,assignInOrder_cons->dX,slot_tuple_getitem->eA,envOfC->e8,callWith_builtin1->gn,AllBare->gQ,assignInOrder_nil->ic
open PySem renaming Value->aj,wpAny_bind->aq,Addr->ay,Shared->az,wpAny_pure->aL,starEach->aO,sizeLine->aQ,model->aR,wpAny->aS,Program->aX,Around->bg,mainGlobals->bh,wpAny_mono->bn,World->bu,bootBuiltins->bH,wpAny_field->bY,NameKind->bZ,backTo->b9,Stmt->cg,wpAny_newObj_type->cG,sizeLine_eq->cH,wpAny_loadPart'->cS,wpAny_callSpecial?_slot->cX,wpAny_standAt->cZ,FuncData->df,wpAny_holding->dq,compareOp->dC,wpAny_truthy_bool->dE,wpAny_loadPart_at->dI,sysModules->dJ,PyData->dO,attributeBase->dS,keywordEach->dU,wpAny_Call_Name_kw->dZ,wpAny_setField->d3,wpAny_pyIter_tuple->d6,wpAny_nameGoes_keeps->el,mem_of_lookup->eB,wpAny_call_entry->eD,wpAny_seqItems->eF,excClassObj->eI,ExcBaseFacts->eL,bindArgs->eM,behindInMarks->eP,wpAny_pyIter_enum->eY,codeAny_mono->fj,bindName->fD,rangeSize_one->fE,backToKw->fF,wpAny_execs_nil->fG,wpAny_passesOwn->fH,codeAny->fL,Spec->fN,assignEach->fO,sliceBounds->fR,wpAny_bindName->fT,rawInt->fU,foldedSetIterable->fV,recursionLimit->fZ,IsPair->gf,plainObj_wpAny_Assign_Attribute->gl,call_meets->gq,wpAny_pyIter_zip->gr,assignInOrder->gy,Comprehension->gz,binaryOp->gC,callWith->gD,Paired->gF,letOwnedTupleGo->gG,wpAny_isSubtype_exc->gO,Within->gP,wpAny_loadPart->gY,cLine->g0,wpAny_call->hJ,wpAny_letOwnedTupleGo_enum->hU,wpAny_letOwnedTupleGo_zip->hX,codeAny_handlers_suite_as->h8,hashStr->ia,Keyword->ik,wpAny_attempt->iB,wpAny_execs_cons->iE,small_one->iF,wpAny_lookBehind->iH,pastItsLine_dict->iI,noteFrame->iM,setFlight->iS,standAt->iX,wpAny_rule->iY,BindsTo->i3,seqIndex_neg->i4,wpAny_getItem_list_neg->i5,wpAny_noteFrame_againW->i9,pyNext->lu,seqIndex_of->lw,field->lC,tupleKind->lH,swapsWith->lI,callerA->lJ,swapsWithSole->lN,swappedStores->lO,wpAny_onRaise->lR,assign->lV,IsPart->ma,getItem->my,wpAny_nsSet1->mz,Code->mE,valueAt->mH,call_meetsIn->mI,relabel->mJ,Result->mT,cellsFrom->mX,seqItems?->mZ,raiseStmt->nc,Model->ni,getAttr->nl,OwnTail->nq,CmpOp->nu,bindL->nv,bindC->nw,call->nz
open PySem.Builtin.List renaming listTooLong->ez
open PySem.Builtin.ObjectAttr renaming storeInDict->gx
open PySem.Builtin.Range renaming rangeSize->dF,small->fA
open PySem.Builtin.Slice renaming slicePlaces->ef,sliceAdjust->fq,sliceApplied->hR
open PySem.Builtin.SmallTypes renaming nextOf->b7,ownedTupleIsFree->cK,ownedTupleHandOut->fB
open PySem.Builtin.Tuple renaming tupleExact->et,tupleHashOf->hZ
open PySem.Calls renaming spliced_cons->dY,evalArgs_plain->ei,spliced_nil->eX,callWith_builtin->f9,Name_function_global->gU
open PySem.Challenge renaming rw_ownturn_k76_whole_two_reasons_at_once->dB
open PySem.Data renaming fields->dR,seq->fb,cell->fQ
open PySem.F renaming plainAttrs_list->bV,excBase_ValueError->cn,slot_list_append->cL,type_list_append->cM,slot_dict_get->d8,entry_dict_get->gc,args_dict_get_3->iK,plainAttrs_dict->iL,slot_list_index->iU,type_list_index->iV,type_dict_get->lq
open PySem.Heap renaming get?_push_of_some->aE,lt_size->aI,get?_push_size->bc,get?_update_self->bK,SameBut->bX,size_push->dz,get?_update_other->dP,get?_none_of_le->e6,FlyingW->fm,MadeExcOf->hV,IsTuple->mL
open PySem.Obj renaming mapFields->bB,data_mapFields->cm,isFreed_of_fields->cJ,mapSeq->i6
open PySem.PassesOwn renaming never->cu
open PySem.PyData renaming hasDict->dA
open PySem.SeqAt renaming EqAt->bF,RcNeAt->fk,RcAt->gv
open PySem.Str renaming ofString->af
open PySem.W renaming Frag->aA,findIn->aT,kitAny->aY,nsIn->br,mg_none_of->bt,fnOf->bJ,kia_one->cc,exmOne->cf,hasDictIn->ci,emptyDict->cI,isFn->cQ,kia_tup->cT,keepIn->de,mg_of->dr,hideAll_none->du,instObj->dL,findIn->d7,hasDictIn->eg,callWith_K->eK,Looks->eQ,clsIn->eR,methodCall_KW->eS,specialIn->eW,looks_findIn->e7,codeIn->e9,notCls->fg,plainGet->fh,hideAll_get->ft,looks_clsIn->fz,lookIn->fW,kitx_list->fX,kitx_dict->fY,cellsFrom_some->f7,any_some->gm,findObj->gA,Looks->gE,takesIn->gH,plainGet_of->gM,of_hideAll->gT,kitOne->gZ,methodObj->ib,plainOver->ig,set_plain->ii,mroIn->iu,handedIn->iG,funFrames_hide->i8,takerIn->lh,makesIn->li,subIn->lE,takerIn->lK,findObj_own->lM,subIn->lS,kitx_float->lX,kitx_tuple->lY,codeRec_of->lZ,looks_find->mf,isNs_of_in->mj,kitx_none->mC,kitx_bool->mD,mroIn->mO,kitx_int->mV,kitx_str->mW
open Sum renaming inr->bG,inl->iW
namespace L2
open PySem PySem.Spec PyProof.Rows
abbrev Key:=Sum Int Str
noncomputable def ZD:Key->aj->Bool
 | .inl k,v=>aj.isInt k v
 | .inr x,v=>aj.isStrOf x v
noncomputable def MZ (w:bu):Key->Int
 | .inl k=>hashInt k
 | .inr x=>ia w x
theorem qw:∀ {k:Key} {v:aj},ZD k v=true->(∃ i t,k=iW i/\v=aj.int i t) \/ (∃ x t,k=bG x/\v=aj.str x t)
 | .inl i,v,h=>by
  obtain ⟨t,e⟩:=aj.isInt_shape (k:=i) (v:=v) h
  exact .inl ⟨i,t,rfl,e⟩
 | .inr x,v,h=>by
  obtain ⟨t,e⟩:=aj.isStrOf_shape (x:=x) (v:=v) h
  exact .inr ⟨x,t,rfl,e⟩
theorem YM (i:Int)(t:Tok):ZD (.inl i) (.int i t)=true:=by simp [ZD,aj.isInt]
theorem VX (x:Str)(t:Tok):ZD (.inr x) (.str x t)=true:=by simp [ZD,aj.isStrOf]
theorem HL (a b:Int):decide ((iW a:Key)=iW b)=(a == b):=by
 by_cases e:a=b
 ·subst e;simp
 ·have h:¬ (iW a:Key)=iW b:=fun q=>e (iW.inj q)
  rw [decide_eq_false h]
  exact (beq_eq_false_iff_ne.mpr e).symm
theorem Lo (a b:Str):decide ((bG a:Key)=bG b)=decide (a=b):=by
 by_cases e:a=b
 ·subst e;simp
 ·have h:¬ (bG a:Key)=bG b:=fun q=>e (bG.inj q)
  rw [decide_eq_false h,decide_eq_false e]
theorem Ln (a:Int)(b:Str):decide ((iW a:Key)=bG b)=false:=decide_eq_false (fun q=>nomatch q)
theorem IJ (a:Str)(b:Int):decide ((bG a:Key)=iW b)=false:=decide_eq_false (fun q=>nomatch q)
noncomputable def qh (prog:aX)(w:bu):PySem.KeyKind prog w Key where
 is:=ZD
 hash:=MZ w
 inj:=fun v a b ha hb=>by
  rcases qw ha with ⟨i,t,rfl,rfl⟩ | ⟨x,t,rfl,rfl⟩
  ·rcases qw hb with ⟨j,u,rfl,e⟩ | ⟨y,u,rfl,e⟩
   ·injection e with e1 _;rw [e1]
   ·exact nomatch e
  ·rcases qw hb with ⟨j,u,rfl,e⟩ | ⟨y,u,rfl,e⟩
   ·exact nomatch e
   ·injection e with e1 _;rw [e1]
 byValue:=fun k v h=>by
  rcases qw h with ⟨i,t,rfl,rfl⟩ | ⟨x,t,rfl,rfl⟩ <;> rfl
 pyHash:=fun hv h=>by
  rcases qw hv with ⟨i,t,rfl,rfl⟩ | ⟨x,t,rfl,rfl⟩
  ·exact wpAny_pyHash_int h
  ·exact wpAny_pyHash_str h
 eqBool:=fun hu hv h=>by
  rcases qw hu with ⟨i,t,rfl,rfl⟩ | ⟨x,t,rfl,rfl⟩
  ·rcases qw hv with ⟨j,u,rfl,rfl⟩ | ⟨y,u,rfl,rfl⟩
   ·rw [HL] at h;exact wpAny_eqBool_int h
   ·rw [Ln] at h;exact bF.int_str i t y u _ _ _ _ h
  ·rcases qw hv with ⟨j,u,rfl,rfl⟩ | ⟨y,u,rfl,rfl⟩
   ·rw [IJ] at h;exact bF.str_int x t j u _ _ _ _ h
   ·rw [Lo] at h;exact wpAny_eqBool_str h
 «strs»:=fun k x t v h=>by
  rcases qw h with ⟨i,u,rfl,e⟩ | ⟨y,u,rfl,e⟩
  ·exact nomatch e
  ·injection e with e1 _
   subst e1
   cases v <;> rfl
theorem JM (prog:aX)(w:bu)(i:Int)(t:Tok):(qh prog w).is (.inl i) (.int i t)=true:=YM i t
theorem Jm (prog:aX)(w:bu)(x:Str)(t:Tok):(qh prog w).is (.inr x) (.str x t)=true:=VX x t
inductive V where
 | non | bl (b:Bool) | int (i:Int) | str (x:Str) | byt (b:Array UInt8) | flt (b:UInt64) | ref (a:ay) | ty (n:String)
 deriving DecidableEq
noncomputable def zG:V->aj->Prop
 | .non,u=>u=aj.none
 | .bl b,u=>u=aj.bool b
 | .int i,u=>∃ t,u=aj.int i t
 | .str x,u=>∃ t,u=aj.str x t
 | .byt b,u=>∃ t,u=aj.bytes b t
 | .flt b,u=>∃ t,u=aj.float b t
 | .ref a,u=>u=aj.ref a
 | .ty n,u=>u=aj.type n
noncomputable abbrev zJ:List V->List aj->Prop:=gF zG
variable {us:List aj}
theorem zJ.length {xs:List V} (r:zJ xs us):xs.length=us.length:=gF.length r
theorem zJ.get:∀ {xs:List V} {us:List aj} {i:Nat} {x:V},zJ xs us->xs[i]?=some x->∃ u,us[i]?=some u/\zG x u
 | _,_,_,_,.nil,e=>by simp at e
 | _,_,0,_,.cons r _,e=>by simp at e;subst e;exact ⟨_,rfl,r⟩
 | _,_,i+1,x,.cons _ t,e=>by
  obtain ⟨u,h1,h2⟩:=zJ.get (i:=i) (x:=x) t (by simpa using e)
  exact ⟨u,by simpa using h1,h2⟩
theorem zJ.set {x:V}{u:aj}(r:zG x u):∀ {xs:List V} {us:List aj} (i:Nat),zJ xs us->zJ (xs.set i x) (us.set i u)
 | _,_,_,.nil=>.nil
 | _,_,0,.cons _ t=>.cons r t
 | _,_,i+1,.cons q t=>.cons q (zJ.set r i t)
theorem zJ.append:∀ {xs ys:List V} {us ws:List aj},zJ xs us->zJ ys ws->zJ (xs ++ ys) (us ++ ws)
 | _,_,_,_,.nil,s=>s
 | _,_,_,_,.cons r t,s=>.cons r (zJ.append t s)
theorem zJ.take:∀ {xs:List V} {us:List aj} (n:Nat),zJ xs us->zJ (xs.take n) (us.take n)
 | _,_,0,_=>.nil
 | _,_,_+1,.nil=>.nil
 | _,_,n+1,.cons r t=>.cons r (zJ.take n t)
theorem zJ.drop:∀ {xs:List V} {us:List aj} (n:Nat),zJ xs us->zJ (xs.drop n) (us.drop n)
 | _,_,0,r=>r
 | _,_,_+1,.nil=>.nil
 | _,_,n+1,.cons _ t=>zJ.drop n t
noncomputable def xU:Option V->Option aj->Prop
 | some v,some u=>zG v u
 | none,none=>True
 | _,_=>False
noncomputable def KV {κ:Type}:List (κ × V)->List (κ × aj)->Prop:=gF fun (p:κ × V) (q:κ × aj)=>p.1=q.1/\zG p.2 q.2
noncomputable def kV:Key->V
 | .inl i=>.int i
 | .inr x=>.str x
inductive HO where
  | lst (xs:List V)
  | tup (xs:List V)
  | dK (kvs:List (Key × V)) | dT (kvs:List (List Key × V))
  | set (S:Int->Bool) (n:Nat)
  | ins (C dx:ay) (fs:List (Str × V))
  | own (x:ay)
  | xd (fs:List (Str × V))
  | met (f x:ay)
  | rng (lo hi:Int)
  | frz (o:Obj) (u:HO)
  | tbl (ps:Array aj)
  | ext (φ:Heap->Prop)
abbrev Hp:=ay->Option HO
noncomputable def upd (H:Hp)(a:ay)(o:HO):Hp:=fun b=>if b=a then some o else H b
variable {H:Hp} {a:ay} {o:HO}
theorem zl:upd H a o a=some o:=by unfold upd;rw [if_pos rfl]
variable {b:ay}
theorem zj (h:b ≠ a):upd H a o b=H b:=by unfold upd;rw [if_neg h]
variable {u:HO}
theorem xJ:upd (upd H a o) a u=upd H a u:=by
 funext b;unfold upd;split <;> rfl
theorem Jq (h:H a=some o)(h':H b=some u)(d:o ≠ u):a ≠ b:=by
 intro e;subst e;rw [h] at h';exact d (bR h')
theorem zp (h:H a=some o)(h':H b=none):a ≠ b:=by
 intro e;subst e;rw [h] at h';cases h'
def Qb (h:Heap)(a:ay)(items:Array aj):Prop:=∃ o,h.get? a=some o/\o.cls=.type "tuple"/\(∃ n,o.data=.seq items n)/\o.dict=none
variable {items:Array aj}
theorem Qb.is {h:Heap} (x:Qb h a items):IsTup h a items:=let ⟨o,e,c,n,_⟩:=x;⟨o,e,c,n⟩
theorem Qb.lt {h:Heap} (x:Qb h a items):a<h.objs.size:=x.is.lt
theorem Qb.new (h:Heap)(items:Array aj):Qb (h.push { cls:=.type "tuple",data:=.seq items }) h.objs.size items:=⟨_,bc _ rfl,rfl,⟨_,rfl⟩,rfl⟩
section
variable (P:aX)(w:bu)
noncomputable def zS (H:Hp)(h:Heap)(a:ay):HO->Prop
  | .lst xs=>xs.length<=aQ/\∃ (its:List aj) (n:Nat),zJ xs its/\h.get? a=some { cls:=.type "list",data:=.seq its.toArray n }
  | .tup xs=>xs.length<=aQ/\∃ its:List aj,zJ xs its/\Qb h a its.toArray
  | .dK kvs=>kvs.length<=aQ/\(a == dJ)=false/\∃ vs,KV kvs vs/\h.DictOf (qh P w) a vs
  | .dT kvs => kvs.length <= aQ /\ (a == dJ) = false /\ ∃ xs : List (List Key × ay × aj),
      gF (fun (p:List Key × V) (q:List Key × ay × aj)=>p.1=q.1/\H q.2.1=some (.tup (p.1.map kV))/\zG p.2 q.2.2) kvs xs /\
      ∃ o es ep,h.get? a=some o/\o.ExactDict/\o.data=.dict es ep/\es.toList=xs.map (entryOfKey (lH (qh P w)))/\(xs.map (·.1)).Nodup
  | .set S n=>h.SetOf (intKind P w) a S n
  | .ins C dx fs => H dx = some (.own a) /\ fs.length <= 1000 /\ dx ≠ a /\ h.get? a = some (dL C dx) /\
      ∃ mA,h.Ns1 dx mA/\(∀ f,xU (fs.lookup f) (mA f))/\gP mA (fs.map (·.1))
  | .own _=>∃ o,h.get? a=some o
  | .xd fs=>∃ mA,h.Ns1 a mA/\∀ f,xU (fs.lookup f) (mA f)
  | .rng lo hi=>∃ t u v,h.get? a=some { cls:=.type "range",data:=.fields #[.int lo t,.int hi u,.int 1 v] }
  | .frz o u=>h.get? a=some o/\zS H h a u
  | .tbl ps=>h.get? a=some { cls:=.none,data:=.fields ps }
  | .met f x=>h.get? a=some (ib (.ref f) (.ref x))
  | .ext φ=>φ h/\(∃ o,h.get? a=some o)/\∀ h1 h2:Heap,φ h1->(∀ o,h1.get? a=some o->h2.get? a=some o)->φ h2
def HOk (H:Hp)(h:Heap):Prop:=∀ a o,H a=some o->zS P w H h a o
end
section
variable {P:aX}{w:bu}{H H':Hp}{h h':Heap}{a:ay}{o:HO}
theorem zS.lt (x:zS P w H h a o):a<h.objs.size:=by
 cases o with
 | lst xs=>obtain ⟨_,_,_,_,e⟩:=x;exact aI e
 | tup xs=>obtain ⟨_,_,_,p⟩:=x;exact p.lt
 | dK kvs=>obtain ⟨_,_,_,_,o,_,_,e,_⟩:=x;exact aI e
 | dT kvs=>obtain ⟨_,_,_,_,o,_,_,e,_⟩:=x;exact aI e
 | set S n=>obtain ⟨o,_,_,_,e,_⟩:=x;exact aI e
 | ins C dx fs=>obtain ⟨_,_,_,e,_⟩:=x;exact aI e
 | own y=>obtain ⟨_,e⟩:=x;exact aI e
 | xd fs=>obtain ⟨_,⟨_,_,_,e,_⟩,_⟩:=x;exact aI e
 | rng lo hi=>obtain ⟨_,_,_,e⟩:=x;exact aI e
 | frz ob u=>obtain ⟨e,_⟩:=x;exact aI e
 | tbl ps=>exact aI (show h.get? a=some _ from x)
 | met f y=>exact aI (show h.get? a=some _ from x)
 | ext φ=>obtain ⟨_,⟨_,e⟩,_⟩:=x;exact aI e
theorem gF.mapP {α β:Type}{F G:α->β->Prop}:∀ {l₁:List α} {l₂:List β},gF F l₁ l₂->(∀ a b,F a b->G a b)->gF G l₁ l₂
 | _,_,.nil,_=>.nil
 | _,_,.cons r t,f=>.cons (f _ _ r) (gF.mapP t f)
theorem zS.stay (x:zS P w H h a o)(k:∀ b u,(b=a \/ H b=some (.own a))->h.get? b=some u->h'.get? b=some u)
  (ho:∀ b,H b=some (.own a)->H' b=some (.own a)) (ht:∀ b xs,H b=some (.tup xs)->H' b=some (.tup xs)):zS P w H' h' a o:=by
 induction o with
 | lst xs=>obtain ⟨z,its,n,r,e⟩:=x;exact ⟨z,its,n,r,k _ _ (.inl rfl) e⟩
 | tup xs=>obtain ⟨z,its,r,ob,e,c⟩:=x;exact ⟨z,its,r,ob,k _ _ (.inl rfl) e,c⟩
 | dK kvs=>obtain ⟨z,y,vs,r,ob,es,ep,e,c⟩:=x;exact ⟨z,y,vs,r,ob,es,ep,k _ _ (.inl rfl) e,c⟩
 | dT kvs=>
  obtain ⟨z,y,xs,r,ob,es,ep,e,c⟩:=x
  exact ⟨z,y,xs,gF.mapP r fun p q z=>⟨z.1,ht _ _ z.2.1,z.2.2⟩,ob,es,ep,k _ _ (.inl rfl) e,c⟩
 | set S n=>obtain ⟨ob,es,ep,t,e,c⟩:=x;exact ⟨ob,es,ep,t,k _ _ (.inl rfl) e,c⟩
 | ins C dx fs=>
  obtain ⟨d,z,ne,e,mA,⟨od,es,ep,e2,c⟩,r⟩:=x
  exact ⟨ho _ d,z,ne,k _ _ (.inl rfl) e,mA,⟨od,es,ep,k _ _ (.inr d) e2,c⟩,r⟩
 | own y=>obtain ⟨ob,e⟩:=x;exact ⟨ob,k _ _ (.inl rfl) e⟩
 | xd fs=>obtain ⟨mA,⟨od,es,ep,e,c⟩,r⟩:=x;exact ⟨mA,⟨od,es,ep,k _ _ (.inl rfl) e,c⟩,r⟩
 | rng lo hi=>obtain ⟨t,u,v,e⟩:=x;exact ⟨t,u,v,k _ _ (.inl rfl) e⟩
 | frz ob u ih=>obtain ⟨e,q⟩:=x;exact ⟨k _ _ (.inl rfl) e,ih q⟩
 | tbl ps=>
  have e:h.get? a=some { cls:=.none,data:=.fields ps }:=x
  show h'.get? a=some { cls:=.none,data:=.fields ps }
  exact k a _ (.inl rfl) e
 | met f y=>
  have e:h.get? a=some (ib (.ref f) (.ref y)):=x
  show h'.get? a=some (ib (.ref f) (.ref y))
  exact k a _ (.inl rfl) e
 | ext φ=>obtain ⟨p,⟨o,e⟩,st⟩:=x;exact ⟨st _ _ p fun o q=>k _ _ (.inl rfl) q,⟨o,k _ _ (.inl rfl) e⟩,st⟩
theorem HOk.lt (x:HOk P w H h)(e:H a=some o):a<h.objs.size:=(x a o e).lt
theorem HOk.fresh (x:HOk P w H h)(e:h.objs.size<=a):H a=none:=by
 cases q:H a with
 | none=>rfl
 | some u=>exact absurd (bw (x.lt q) e) (dk _)
theorem HOk.kept (x:HOk P w H h)(k:∀ b u,h.get? b=some u->h'.get? b=some u):HOk P w H h':=fun a o e=>
 (x a o e).stay (fun b u _ q=>k b u q) (fun _ q=>q) fun _ _ q=>q
theorem HOk.laid (x:HOk P w H h)(k:∀ b u,h.get? b=some u->h'.get? b=some u)(hp:h.objs.size<=a)(new:zS P w (upd H a o) h' a o):HOk P w (upd H a o) h':=fun b u e=>by
 have hn:=x.fresh hp
 by_cases hb:b=a
 ·subst hb;rw [zl] at e;cases e;exact new
 ·rw [zj hb] at e
  exact (x b u e).stay (fun c v _ q=>k c v q) (fun c q=>by rw [zj (zp q hn)];exact q) fun c xs q=>by rw [zj (zp q hn)];exact q
end
def Rd (H:Hp)(a:ay)(u:HO):Prop:=H a=some u \/ ∃ o,H a=some (.frz o u)
variable {P:aX} {w:bu}
theorem Rd.ok {h:Heap} (r:Rd H a u)(x:HOk P w H h):zS P w H h a u:=by
 rcases r with r | ⟨o,r⟩
 ·exact x a u r
 ·obtain ⟨_,q⟩:=x a _ r
  exact q
noncomputable def Mut:Option HO->Prop
 | some (.lst _)=>True
 | some (.dK _)=>True
 | some (.dT _)=>True
 | some (.set _ _)=>True
 | some (.ins _ _ _)=>True
 | some (.ext _)=>True
 | _=>False
section
variable {P:aX}{w:bu}{H:Hp}{h h':Heap}{x e:ay}{o':HO}
theorem HOk.write (ok : HOk P w H h)(mu : Mut (H x))(he : e = x \/ H e = some (.own x))(k : ∀ b u, b ≠ e -> h.get? b = some u -> h'.get? b = some u)(heo : ∃ u, h'.get? e = some u)
    (new:zS P w (upd H x o') h' x o'):HOk P w (upd H x o') h':=fun b u q=>by
  have nown:∀ c y,H c=some (.own y)->c ≠ x:=fun c y r z=>by subst z;rw [r] at mu;exact mu
  have ntup:∀ c xs,H c=some (.tup xs)->c ≠ x:=fun c xs r z=>by subst z;rw [r] at mu;exact mu
  by_cases hb:b=x
  · subst hb;rw [zl] at q;cases q;exact new
  · rw [zj hb] at q
    by_cases hbe:b=e
    · have q' : H b = some (.own x) := by
        rcases he with z | z
        · exact absurd (hbe.trans z) hb
        · rw [hbe];exact z
      rw [q] at q';cases q'
      obtain ⟨v,hv⟩:=heo
      exact ⟨v,by rw [hbe];exact hv⟩
    · refine (ok b u q).stay (fun c v hc r=>k c v ?_ r) (fun c r=>by rw [zj (nown c b r)];exact r) fun c xs r=>by rw [zj (ntup c xs r)];exact r
      rcases hc with rfl | hc
      · exact hbe
      · rintro rfl
        rcases he with z | z
        · exact nown c b hc z
        · rw [hc] at z;cases z;exact hb rfl
end
structure Un (fs ex:List ay)(H H':Hp)(h h':Heap):Prop where
 keep:∀ b o,h.get? b=some o->H b=none->b ∉ fs->b ∉ ex->h'.get? b=some o
 slot:∀ b o,h.get? b=some o->H b=none->b ∈ fs->b ∉ ex->∃ sl,h'.get? b=some { o with slots:=sl }
 free:∀ b o,h.get? b=some o->H b=none->b ∉ ex->H' b=none
 there:∀ b o,h.get? b=some o->b ∉ ex->∃ o',h'.get? b=some o'
 tups:∀ b xs,H b=some (.tup xs)->H' b=some (.tup xs)
 frzs:∀ b o u,H b=some (.frz o u)->H' b=some (.frz o u)
 tbls:∀ b ps,H b=some (.tbl ps)->∃ more,H' b=some (.tbl (ps ++ more))
section
variable {fs fs' ex ex':List ay}{H H1 H2:Hp}{h h1 h2 h':Heap}{a x e:ay}{o:HO}
theorem Un.any (u:Un fs ex H H1 h h1) {ob:Obj}(q:h.get? b=some ob)(n:H b=none)(hx:b ∉ ex):∃ sl,h1.get? b=some { ob with slots:=sl }:=by
 by_cases hb:b ∈ fs
 ·exact u.slot b ob q n hb hx
 ·exact ⟨ob.slots,u.keep b ob q n hb hx⟩
theorem Un.kept (k:∀ b u,h.get? b=some u->h'.get? b=some u):Un fs ex H H h h':=
 ⟨fun b ob q _ _ _=>k b ob q,fun b ob q _ _ _=>⟨ob.slots,k b ob q⟩,fun _ _ _ n _=>n,fun b ob q _=>⟨ob,k b ob q⟩,fun _ _ q=>q,fun _ _ _ q=>q,fun _ ps q=>⟨#[],by rw [q];simp⟩⟩
theorem Un.refl:Un fs ex H H h h:=Un.kept fun _ _ q=>q
theorem Un.laid (k:∀ b u,h.get? b=some u->h'.get? b=some u)(hp:h.objs.size<=a)(hn:H a=none):Un fs ex H (upd H a o) h h' where
 keep:=fun b u q _ _ _=>k b u q
 slot:=fun b u q _ _ _=>⟨u.slots,k b u q⟩
 free:=fun b u q n _=>by rw [zj (bq (bw (aI q) hp))];exact n
 there:=fun b u q _=>⟨u,k b u q⟩
 tups:=fun b xs q=>by rw [zj (zp q hn)];exact q
 frzs:=fun b u xs q=>by rw [zj (zp q hn)];exact q
 tbls:=fun b ps q=>⟨#[],by rw [zj (zp q hn),q];simp⟩
theorem Un.write (mu:Mut (H x))(he:e=x \/ H e=some (.own x))(k:∀ b u,b ≠ e->h.get? b=some u->h'.get? b=some u)(heo:∃ u,h'.get? e=some u):Un fs ex H (upd H x o) h h':=by
 have hx:∀ b,H b=none->b ≠ x:=fun b n z=>by subst z;rw [n] at mu;exact mu
 have hb:∀ b,H b=none->b ≠ e:=fun b n z=>by
  subst z
  rcases he with r | r
  ·exact hx b n r
  ·rw [n] at r;cases r
 have hm:∀ b u,H b=some u->¬ Mut (some u)->b ≠ x:=fun b u q nm z=>by subst z;rw [q] at mu;exact nm mu
 refine ⟨fun b u q n _ _=>k b u (hb b n) q,fun b u q n _ _=>⟨u.slots,k b u (hb b n) q⟩,fun b u q n _=>by rw [zj (hx b n)];exact n,fun b u q _=>?_,
  fun b xs q=>by rw [zj (hm b _ q fun z=>z)];exact q,fun b u xs q=>by rw [zj (hm b _ q fun z=>z)];exact q,fun b ps q=>⟨#[],by rw [zj (hm b _ q fun z=>z),q];simp⟩⟩
 by_cases hbe:b=e
 ·subst hbe;exact heo
 ·exact ⟨u,k b u hbe q⟩
end
noncomputable def trk (h:Heap)(H:Hp):List ay:=(b8 h.objs.size).filter fun a=>(H a).isSome
noncomputable def ZU (h:Heap)(H:Hp):Heap:=PySem.W.hideAll h (trk h H)
theorem V1 (h:Heap)(H:Hp):(ZU h H).objs.size=h.objs.size:=PySem.W.hideAll_size _ _
theorem Ad {h:Heap} {o:Obj}(e:h.get? b=some o)(n:H b=none):(ZU h H).get? b=some o:=
 ft _ e fun hm=>by
  have q:(H b).isSome=true:=(lg.mp hm).2
  rw [n] at q;simp at q
theorem Eb {h:Heap}{H:Hp}{b:ay}{o:Obj}(e:(ZU h H).get? b=some o):h.get? b=some o/\H b=none:=by
 have e':h.get? b=some o:=gT (trk h H) e
 refine ⟨e',?_⟩
 cases q:H b with
 | none=>rfl
 | some x=>
  have hm:b ∈ trk h H:=lg.mpr ⟨eZ.mpr (aI e'),by simp [q]⟩
  have z:(ZU h H).get? b=none:=du (trk h H) hm
  rw [z] at e;cases e
noncomputable def FU (g h:Heap)(L:ay):List (ay × Obj):=(b8 h.objs.size).filterMap fun a=>if a=L \/ (g.get? a).isSome=true then none else (h.get? a).map fun o=>(a,o)
noncomputable def qR (g h:Heap)(L d:ay):List (ay × Obj):=(FU g h L).filter fun p=>decide (p.1 ≠ d)
structure Mod (K:aA)(mg:Str->Option aj)(base:Heap):Prop where
 kin:K.In base
 glob:base.Ns bh mg
 blt:∃ mb,base.Ns builtinsNs mb/\∀ x:Str,x ≠ "__name__"->mb x=bH x
 nolimit:base.NoLimit
structure Cx where
 prog:aX
 w:bu
 K:aA
 mg:Str->Option aj
 base:Heap
 A:bg
 N:List Str
 s₀:az
 H₀:Hp
 env:Env
 outer:List Env
 stack:List Env
 ex:List ay
 fn:Str->Bool
 calm:Bool
 pn:List (ay × Obj)
 xe:aj->az->Prop
noncomputable def frs (l:List Env):List ay:=l.filterMap (·.frame)
noncomputable abbrev Cx.fs (X:Cx):List ay:=frs X.outer
def Vis (sc:Scope)(x:Str):Prop:=sc.names.lookup x=some .local \/ sc.names.lookup x=some .cell \/ sc.names.lookup x=some .free
def Loc (sc:Scope)(x:Str):Prop:=sc.names.lookup x=some .local \/ sc.names.lookup x=some .cell
def Nb (env:Env)(h:Heap)(m:Str->Option aj)(x:Str)(u:aj):Prop:=
 (env.kindOf x=some .local/\m x=some u) \/ ((env.kindOf x=some .cell \/ env.kindOf x=some .free)/\∃ c,env.cells.lookup x=some c/\h.IsCell c (some u))
structure Cx.Ok (X:Cx):Prop where
 mod:Mod X.K X.mg X.base
 kind:X.env.scope.kind=.function
 glob:X.env.globals=bh
 blt:X.env.builtins=builtinsNs
 above:X.s₀.heap.objs.size<=X.env.locals
 inj:∀ x y c,X.env.cells.lookup x=some c->X.env.cells.lookup y=some c->x=y
 has:∀ x,(X.env.kindOf x=some .cell \/ X.env.kindOf x=some .free)->∃ c,X.env.cells.lookup x=some c
 cab:∀ x c,X.fn x=true->X.env.cells.lookup x=some c->X.s₀.heap.objs.size<=c
 hd:X.calm=true->X.A.handled=none
 frames:X.A.frames=some X.stack
 stk:X.stack=X.outer \/ (X.stack=X.env :: X.outer/\X.env.frame=some X.env.locals)
 exf:∀ b ∈ X.ex,b ≠ X.env.locals/\∀ x c,X.env.cells.lookup x=some c->c ≠ b
 bs:∀ b o,X.base.get? b=some o->X.s₀.heap.get? b=some o/\X.H₀ b=none
 bsz:X.base.objs.size<=X.s₀.heap.objs.size
 noex:∀ b o,X.base.get? b=some o->b ∉ X.ex
 exfs:∀ b ∈ X.ex,b ∉ X.fs
 funs:X.s₀.heap.FunFrames X.base X.outer
 frf:∀ b ∈ X.fs,X.H₀ b=none
structure Inv (X:Cx)(pins:List (ay × Obj))(σ:List (Option V))(H:Hp)(s:az):Prop where
 ok:X.Ok
 os:s.os=X.s₀.os
 bare:gQ s.gens
 base:Un X.fs X.ex X.H₀ H X.s₀.heap s.heap
 loc:∃ m,s.heap.Ns X.env.locals m/\∀ (i:Nat) (x:Str) (v:V),X.N[i]?=some x->σ[i]?=some (some v)->Vis X.env.scope x->∃ u,zG v u/\Nb X.env s.heap m x u
 cell:∀ x c,X.env.cells.lookup x=some c->∃ v,s.heap.IsCell c v
 free:H X.env.locals=none
 freeC:∀ x c,X.env.cells.lookup x=some c->H c=none
 pin:∀ p ∈ X.pn ++ pins,s.heap.get? p.1=some p.2/\H p.1=none/\p.1 ≠ X.env.locals/\p.1 ∉ X.fs/\∀ v,p.2.data ≠ .cell v
 hok:HOk X.prog X.w H s.heap
 len:σ.length=X.N.length
section
variable {X:Cx}{pins:List (ay × Obj)}{σ:List (Option V)}{H H':Hp}{s:az}{h':Heap}
theorem Cx.Ok.nofr (ok:X.Ok) {o:Obj}(e:X.base.get? b=some o):b ∉ X.fs:=fun hb=>by
 have:=(ok.funs.mem hb).1
 rw [e] at this;cases this
theorem Inv.bs (I:Inv X pins σ H s):∀ b o,X.base.get? b=some o->s.heap.get? b=some o/\H b=none:=fun b o e=>
 ⟨I.base.keep b o (I.ok.bs b o e).1 (I.ok.bs b o e).2 (I.ok.nofr e) (I.ok.noex b o e),I.base.free b o (I.ok.bs b o e).1 (I.ok.bs b o e).2 (I.ok.noex b o e)⟩
theorem Inv.bk (I:Inv X pins σ H s):∀ b o,X.base.get? b=some o->s.heap.get? b=some o:=fun b o e=>(I.bs b o e).1
theorem Inv.mod (I:Inv X pins σ H s):Mod X.K X.mg X.base:=I.ok.mod
theorem Inv.kIn (I:Inv X pins σ H s):X.K.In s.heap:=I.ok.mod.kin.keeps I.bk
theorem Inv.lt (I:Inv X pins σ H s):X.env.locals<s.heap.objs.size:=let ⟨_,hn,_⟩:=I.loc;hn.lt
theorem Inv.sz (I:Inv X pins σ H s):X.s₀.heap.objs.size<=s.heap.objs.size:=bz I.ok.above (mw I.lt)
theorem Inv.nofs (I:Inv X pins σ H s) (h:s.heap.objs.size<=a):a ∉ X.fs:=fun hb=>by
 obtain ⟨_,o,ho,_⟩:=I.ok.funs.mem hb
 exact absurd (bw (aI ho) (bz I.sz h)) (dk _)
theorem Inv.cne (I:Inv X pins σ H s):∀ x c,X.env.cells.lookup x=some c->c ≠ X.env.locals:=fun x c e z=>by
 obtain ⟨v,o,ho,hd⟩:=I.cell x c e
 obtain ⟨m,⟨o',es,ep,ho',hd',_⟩,_⟩:=I.loc
 rw [z,ho'] at ho;cases ho;rw [hd'] at hd;cases hd
theorem Inv.funs (I:Inv X pins σ H s):s.heap.FunFrames X.base X.outer:=by
 have all:∀ (l:List Env),(∀ b ∈ frs l,b ∈ X.fs)->X.s₀.heap.FunFrames X.base l->s.heap.FunFrames X.base l:=by
  intro l
  induction l with
  | nil=>intro _ _;trivial
  | cons env r ih=>
   intro hs hl
   obtain ⟨hk,⟨L,o,hf,hn,ho,hd⟩,hr⟩:=hl
   have hL:L ∈ X.fs:=hs L (by unfold frs;rw [fu,hf];exact bD)
   obtain ⟨sl,e⟩:=I.base.slot L o ho (I.ok.frf L hL) hL fun z=>I.ok.exfs L z hL
   exact ⟨hk,⟨L,_,hf,hn,e,hd⟩,ih (fun b hb=>hs b (by unfold frs;rw [fu,hf];exact bj _ hb)) hr⟩
 exact all X.outer (fun _ hb=>hb) I.ok.funs
theorem Inv.stack (I:Inv X pins σ H s):s.heap.FunFrames X.base X.stack:=by
 rcases I.ok.stk with e | ⟨e,hf⟩
 ·rw [e];exact I.funs
 ·rw [e]
  obtain ⟨m,hn,_⟩:=I.loc
  refine .cons (by rw [I.ok.kind];decide) hf hn ?_ I.funs
  exact e6 (bz I.ok.bsz I.ok.above)
theorem Inv.stkSub (I:Inv X pins σ H s):∀ b ∈ frs X.stack,b ∈ X.env.locals :: X.fs:=fun b hb=>by
 rcases I.ok.stk with e | ⟨e,hf⟩
 ·rw [e] at hb;exact bj _ hb
 ·rw [e] at hb
  unfold frs at hb
  rw [fu,hf] at hb
  exact hb
theorem Inv.stkFree (I:Inv X pins σ H s):∀ b ∈ frs X.stack,H b=none:=fun b hb=>by
 rcases aF.mp (I.stkSub b hb) with e | hb
 ·rw [e];exact I.free
 ·obtain ⟨_,o,ho,_⟩:=I.ok.funs.mem hb
  exact I.base.free b o ho (I.ok.frf b hb) fun z=>I.ok.exfs b z hb
variable {g':Array GenState} {t':Nat} {d':Drawn} {ch:List ay}
theorem Inv.step (I:Inv X pins σ H s)
  (hch:∀ b ∈ ch,(b ∈ X.ex \/ X.s₀.heap.objs.size<=b)/\b ≠ X.env.locals/\(∀ x c,X.env.cells.lookup x=some c->c ≠ b)/\∀ p ∈ X.pn ++ pins,p.1 ≠ b)
  (keep:∀ b o,b ≠ X.env.locals->b ∉ X.fs->b ∉ ch->s.heap.get? b=some o->H b=none->h'.get? b=some o)
  (slot:∀ b o,b ≠ X.env.locals->b ∈ X.fs->b ∉ ch->s.heap.get? b=some o->H b=none->∃ sl,h'.get? b=some { o with slots:=sl }) (free:∀ b o,b ∉ ch->s.heap.get? b=some o->H b=none->H' b=none)
  (there:∀ b o,b ∉ ch->s.heap.get? b=some o->∃ o',h'.get? b=some o')
  (tups:∀ b xs,H b=some (.tup xs)->H' b=some (.tup xs)) (frzs:∀ b o u,H b=some (.frz o u)->H' b=some (.frz o u)) (tbls:∀ b ps,H b=some (.tbl ps)->∃ more,H' b=some (.tbl (ps ++ more)))
  (ns:∀ m,s.heap.Ns X.env.locals m->h'.Ns X.env.locals m) (hok:HOk X.prog X.w H' h') (hg:gQ g') :
  Inv X pins σ H' { s with heap:=h',gens:=g',drawn:=d',toks:=t' }:=by
 have neL:∀ b o,X.s₀.heap.get? b=some o->b ≠ X.env.locals:=fun b o e=>bq (bw (aI e) I.ok.above)
 have neC:∀ b o,X.s₀.heap.get? b=some o->b ∉ X.ex->b ∉ ch:=fun b o e hx hb=>by
  rcases (hch b hb).1 with z | z
  ·exact hx z
  ·exact absurd (bw (aI e) z) (dk _)
 have cellK:∀ x c,X.env.cells.lookup x=some c->∀ v,s.heap.IsCell c v->h'.IsCell c v:=fun x c e v ⟨o,ho,hd⟩=>by
  have nch:c ∉ ch:=fun z=>(hch c z).2.2.1 x c e rfl
  by_cases hc:c ∈ X.fs
  ·obtain ⟨sl,q⟩:=slot c o (I.cne x c e) hc nch ho (I.freeC x c e)
   exact ⟨_,q,hd⟩
  ·exact ⟨o,keep c o (I.cne x c e) hc nch ho (I.freeC x c e),hd⟩
 refine ⟨I.ok,I.os,hg,⟨fun b o e n hb hx=>?_,fun b o e n hb hx=>?_,fun b o e n hx=>?_,fun b o e hx=>?_,fun b xs e=>tups b xs (I.base.tups b xs e),fun b o xs e=>frzs b o xs (I.base.frzs b o xs e),fun b ps e=>?_⟩,?_,fun x c e=>?_,?_,fun x c e=>?_,fun p hp=>?_,hok,I.len⟩
 ·exact keep b o (neL b o e) hb (neC b o e hx) (I.base.keep b o e n hb hx) (I.base.free b o e n hx)
 ·obtain ⟨sl,e1⟩:=I.base.slot b o e n hb hx
  obtain ⟨sl',e2⟩:=slot b _ (neL b o e) hb (neC b o e hx) e1 (I.base.free b o e n hx)
  exact ⟨sl',e2⟩
 ·obtain ⟨o',e1⟩:=I.base.there b o e hx
  exact free b o' (neC b o e hx) e1 (I.base.free b o e n hx)
 ·obtain ⟨o',e1⟩:=I.base.there b o e hx
  exact there b o' (neC b o e hx) e1
 ·obtain ⟨m1,e1⟩:=I.base.tbls b ps e
  obtain ⟨m2,e2⟩:=tbls b _ e1
  exact ⟨m1 ++ m2,by rw [e2,lU]⟩
 ·obtain ⟨m,hn,hl⟩:=I.loc
  refine ⟨m,ns m hn,fun i x v e1 e2 e3=>?_⟩
  obtain ⟨u,r,l⟩:=hl i x v e1 e2 e3
  refine ⟨u,r,?_⟩
  rcases l with l | ⟨k,c,e,z⟩
  ·exact .inl l
  ·exact .inr ⟨k,c,e,cellK x c e _ z⟩
 ·obtain ⟨v,z⟩:=I.cell x c e
  exact ⟨v,cellK x c e v z⟩
 ·obtain ⟨m,⟨o,_,_,ho,_⟩,_⟩:=I.loc
  exact free _ o (fun z=>(hch _ z).2.1 rfl) ho I.free
 ·obtain ⟨v,o,ho,hd⟩:=I.cell x c e
  exact free c o (fun z=>(hch c z).2.2.1 x c e rfl) ho (I.freeC x c e)
 ·obtain ⟨e,n,ne,nf,d⟩:=I.pin p hp
  have nch:p.1 ∉ ch:=fun z=>(hch p.1 z).2.2.2 p hp rfl
  exact ⟨keep p.1 p.2 ne nf nch e n,free p.1 p.2 nch e n,ne,nf,d⟩
theorem Inv.un (I:Inv X pins σ H s)(u:Un X.fs [] H H' s.heap h')(hok:HOk X.prog X.w H' h'):Inv X pins σ H' { s with heap:=h',toks:=t' }:=by
 obtain ⟨m,⟨o,es,ep,ho,r⟩,_⟩:=id I.loc
 obtain ⟨sl,hL⟩:=u.any ho I.free (by simp)
 exact I.step (g':=s.gens) (d':=s.drawn) (ch:=[]) (fun _ z=>nomatch z) (fun b o _ hb _ e n=>u.keep b o e n hb (by simp)) (fun b o _ hb _ e n=>u.slot b o e n hb (by simp)) (fun b o _ e n=>u.free b o e n (by simp)) (fun b o _ e=>u.there b o e (by simp)) u.tups u.frzs u.tbls (fun m' hm=>by
  obtain ⟨o',es',ep',ho',r'⟩:=hm
  rw [ho] at ho';cases ho'
  exact ⟨_,es',ep',hL,r'⟩) hok I.bare
theorem Inv.call (I:Inv X pins σ H s)(u:Un (frs X.stack) ch H H' s.heap h')(hok:HOk X.prog X.w H' h')(hg:gQ g')
  (hch:∀ b ∈ ch,(b ∈ X.ex \/ X.s₀.heap.objs.size<=b)/\b ≠ X.env.locals/\(∀ x c,X.env.cells.lookup x=some c->c ≠ b)/\∀ p ∈ X.pn ++ pins,p.1 ≠ b) :
  Inv X pins σ H' { s with heap:=h',gens:=g',drawn:=d',toks:=t' }:=by
 obtain ⟨m,⟨o,es,ep,ho,r⟩,_⟩:=id I.loc
 obtain ⟨sl,hL⟩:=u.any ho I.free fun z=>(hch _ z).2.1 rfl
 exact I.step (ch:=ch) hch (fun b o hL hb hc e n=>u.keep b o e n (fun z=>(aF.mp (I.stkSub b z)).elim hL hb) hc) (fun b o _ _ hc e n=>u.any e n hc) (fun b o hc e n=>u.free b o e n hc) (fun b o hc e=>u.there b o e hc) u.tups u.frzs u.tbls (fun m' hm=>by
  obtain ⟨o',es',ep',ho',r'⟩:=hm
  rw [ho] at ho';cases ho'
  exact ⟨_,es',ep',hL,r'⟩) hok hg
theorem Inv.turned {it:ay}(I:Inv X pins σ H s)(k:∀ b o,b ≠ it->s.heap.get? b=some o->h'.get? b=some o)(hn:H it=none)(hL:it ≠ X.env.locals)
  (h1:it ∈ X.ex \/ X.s₀.heap.objs.size<=it) (h2:∀ x c,X.env.cells.lookup x=some c->c ≠ it) (h3:∀ p ∈ X.pn ++ pins,p.1 ≠ it):Inv X pins σ H { s with heap:=h',toks:=t' }:=by
 have nit:∀ b u,H b=some u->b ≠ it:=fun b u e z=>by rw [z,hn] at e;cases e
 refine I.step (g':=s.gens) (d':=s.drawn) (ch:=[it]) (fun b hb=>?_) (fun b o _ _ hc e _=>k b o (fun z=>hc (by simp [z])) e) (fun b o _ _ hc e _=>⟨o.slots,k b o (fun z=>hc (by simp [z])) e⟩) (fun _ _ _ _ n=>n)
  (fun b o hc e=>⟨o,k b o (fun z=>hc (by simp [z])) e⟩) (fun _ _ e=>e) (fun _ _ _ e=>e) (fun b ps e=>⟨#[],by rw [e];simp⟩) (fun m hm=>?_) (fun b u e=>?_) I.bare
 ·have e:b=it:=by simpa using hb
  subst e
  exact ⟨h1,hL,h2,h3⟩
 ·obtain ⟨o,es,ep,ho,r⟩:=hm
  exact ⟨o,es,ep,k _ o (Ne.symm hL) ho,r⟩
 ·refine (I.hok b u e).stay (fun c v hc q=>k c v ?_ q) (fun _ q=>q) fun _ _ q=>q
  rcases hc with z | z
  ·rw [z];exact nit b u e
  ·exact nit c _ z
theorem Inv.tok (I:Inv X pins σ H s)(t:Nat):Inv X pins σ H { s with toks:=t }:=I.un (h':=s.heap) (t':=t) Un.refl I.hok
theorem Inv.kept (I:Inv X pins σ H s)(k:∀ b u,s.heap.get? b=some u->h'.get? b=some u):Inv X pins σ H { s with heap:=h',toks:=t' }:=I.un (Un.kept k) (I.hok.kept k)
theorem Inv.laid (I:Inv X pins σ H s)(k:∀ b u,s.heap.get? b=some u->h'.get? b=some u)(hp:s.heap.objs.size<=a)(new:zS X.prog X.w (upd H a o) h' a o) :
  Inv X pins σ (upd H a o) { s with heap:=h',toks:=t' }:=I.un (Un.laid k hp (I.hok.fresh hp)) (I.hok.laid k hp new)
theorem Inv.write {x e:ay} (I:Inv X pins σ H s)(mu:Mut (H x))(he:e=x \/ H e=some (.own x))(k:∀ b u,b ≠ e->s.heap.get? b=some u->h'.get? b=some u)(heo:∃ u,h'.get? e=some u)
  (new:zS X.prog X.w (upd H x o) h' x o):Inv X pins σ (upd H x o) { s with heap:=h',toks:=t' }:=I.un (Un.write mu he k heo) (I.hok.write mu he k heo new)
theorem Inv.pins_of {pins':List (ay × Obj)}(I:Inv X pins σ H s)(h:∀ p ∈ pins',s.heap.get? p.1=some p.2/\H p.1=none/\p.1 ≠ X.env.locals/\p.1 ∉ X.fs/\∀ v,p.2.data ≠ .cell v):Inv X pins' σ H s:=
 ⟨I.ok,I.os,I.bare,I.base,I.loc,I.cell,I.free,I.freeC,fun p hp=>(dM.mp hp).elim (fun z=>I.pin p (gB _ z)) (h p),I.hok,I.len⟩
theorem wH {N:List Str}(hN:N.Nodup){i j:Nat}{x:Str}(a:N[i]?=some x)(b:N[j]?=some x):i=j:=by
 obtain ⟨h1,e1⟩:=aG.mp a
 obtain ⟨h2,e2⟩:=aG.mp b
 exact (mS hN).mp (e1.trans e2.symm)
theorem ZI {M : ni}{A : bg}{E : aj -> az -> Prop}{i : Nat}{x : Str}{v : V}{u : aj}{Q : Unit -> az -> Prop}(I : Inv X pins σ H s)(hN : X.N.Nodup)(hi : X.N[i]? = some x)(hx : Loc X.env.scope x)(r : zG v u)
    (h:∀ s',Inv X pins (σ.set i (some v)) H s'->(∃ a,bX a s.heap s'.heap/\(a=X.env.locals \/ X.env.cells.lookup x=some a))->Q () s') (hf:X.fn x=true \/ X.env.scope.names.lookup x=some .local:=by first | exact .inl rfl | exact .inr rfl | assumption):aS M A (storeName X.env x u) Q E s:=by
  obtain ⟨m,hn,hl⟩:=id I.loc
  have hcls:(X.env.scope.kind == .class || (X.env.scope.kind == .module && X.env.locals != X.env.globals))=false:=by rw [I.ok.kind];rfl
  have hiσ:i<σ.length:=by rw [I.len];exact (aG.mp hi).1
  have cne:=I.cne
  have tracked:∀ {a:ay} {h':Heap},(∃ o,s.heap.get? a=some o/\H a=none)->bX a s.heap h'->HOk X.prog X.w H h':=fun {a h'} ha hs b ob e=>by
    obtain ⟨_,_,hfree⟩:=ha
    refine (I.hok b ob e).stay (fun c w' hc q=>(hs.2 c ?_).trans q) (fun _ q=>q) fun _ _ q=>q
    rintro rfl
    rcases hc with rfl | hc
    · rw [hfree] at e;cases e
    · rw [hfree] at hc;cases hc
  rcases hx with hk | hk
  · refine wpAny_storeName_local hk hn (fun h' hn' hs=>?_) hcls
    obtain ⟨oL,_,_,hoL,_⟩:=id hn
    refine h _ ⟨I.ok,I.os,I.bare,⟨fun b o e n hb hx=>?_,fun b o e n hb hx=>?_,I.base.free,fun b o e hx=>?_,I.base.tups,I.base.frzs,I.base.tbls⟩,⟨_,hn',fun j y v' e1 e2 e3=>?_⟩,fun y c e=>?_,I.free,I.freeC,fun p hp=>?_,tracked ⟨oL,hoL,I.free⟩ hs,by simpa using I.len⟩ ⟨_,hs,.inl rfl⟩
    · exact (hs.2 b (bq (bw (aI e) I.ok.above))).trans (I.base.keep b o e n hb hx)
    · obtain ⟨sl,e1⟩:=I.base.slot b o e n hb hx
      exact ⟨sl,(hs.2 b (bq (bw (aI e) I.ok.above))).trans e1⟩
    · obtain ⟨o',e1⟩:=I.base.there b o e hx
      exact ⟨o',(hs.2 b (bq (bw (aI e) I.ok.above))).trans e1⟩
    · by_cases hj:j=i
      · subst hj
        rw [hi] at e1;cases e1
        rw [fS hiσ] at e2
        cases e2
        exact ⟨u,r,.inl ⟨hk,by simp⟩⟩
      · rw [cU (Ne.symm hj)] at e2
        obtain ⟨u',r',q⟩:=hl j y v' e1 e2 e3
        refine ⟨u',r',?_⟩
        rcases q with ⟨k,e⟩ | ⟨k,c,e,z⟩
        · refine .inl ⟨k,?_⟩
          have:y ≠ x:=fun e=>hj (wH hN e1 (e ▸ hi))
          simp [this,e]
        · exact .inr ⟨k,c,e,z.sameBut hs (cne y c e)⟩
    · obtain ⟨w',z⟩:=I.cell y c e
      exact ⟨w',z.sameBut hs (cne y c e)⟩
    · obtain ⟨e,n,ne,nf,d⟩:=I.pin p hp
      exact ⟨(hs.2 p.1 ne).trans e,n,ne,nf,d⟩
  · have hfn : X.fn x = true := by
      rcases hf with z | z
      · exact z
      · rw [z] at hk;cases hk
    obtain ⟨c,hc⟩:=I.ok.has x (.inl hk)
    obtain ⟨w',z⟩:=I.cell x c hc
    refine wpAny_storeName_cell I.ok.kind hk hc z (fun h' hc' hs=>?_)
    obtain ⟨oc,hoc,hocd⟩:=id z
    refine h { s with heap:=h' } ⟨I.ok,I.os,I.bare,⟨fun b o e n hb hx=>?_,fun b o e n hb hx=>?_,I.base.free,fun b o e hx=>?_,I.base.tups,I.base.frzs,I.base.tbls⟩,⟨m,hn.sameBut hs (Ne.symm (cne x c hc)),fun j y v' e1 e2 e3=>?_⟩,fun y c' e=>?_,I.free,I.freeC,fun p hp=>?_,tracked ⟨oc,hoc,I.freeC x c hc⟩ hs,by simpa using I.len⟩ ⟨c,hs,.inr hc⟩
    · exact (hs.2 b (bq (bw (aI e) (I.ok.cab x c hfn hc)))).trans (I.base.keep b o e n hb hx)
    · obtain ⟨sl,e1⟩:=I.base.slot b o e n hb hx
      exact ⟨sl,(hs.2 b (bq (bw (aI e) (I.ok.cab x c hfn hc)))).trans e1⟩
    · obtain ⟨o',e1⟩:=I.base.there b o e hx
      exact ⟨o',(hs.2 b (bq (bw (aI e) (I.ok.cab x c hfn hc)))).trans e1⟩
    · by_cases hj:j=i
      · subst hj
        rw [hi] at e1;cases e1
        rw [fS hiσ] at e2
        cases e2
        exact ⟨u,r,.inr ⟨.inl hk,c,hc,hc'⟩⟩
      · rw [cU (Ne.symm hj)] at e2
        obtain ⟨u',r',q⟩:=hl j y v' e1 e2 e3
        refine ⟨u',r',?_⟩
        rcases q with q | ⟨k,c',e,z'⟩
        · exact .inl q
        · refine .inr ⟨k,c',e,z'.sameBut hs ?_⟩
          rintro rfl
          exact hj (wH hN e1 (I.ok.inj _ _ _ e hc ▸ hi))
    · by_cases hcc:c'=c
      · subst hcc;exact ⟨_,hc'⟩
      · obtain ⟨w2,z2⟩:=I.cell y c' e
        exact ⟨w2,z2.sameBut hs hcc⟩
    · obtain ⟨e,n,ne,nf,d⟩:=I.pin p hp
      refine ⟨(hs.2 p.1 ?_).trans e,n,ne,nf,d⟩
      intro q
      rw [q,hoc] at e
      have q':oc=p.2:=bR e
      exact d w' (by rw [<- q'];exact hocd)
theorem jr {M:ni}{A:bg}{E:aj->az->Prop}{i:Nat}{x:Str}{v:V}{u:aj}{Q:Unit->az->Prop}(I:Inv X pins σ H s)(hN:X.N.Nodup)(hi:X.N[i]?=some x)(hx:Loc X.env.scope x)(r:zG v u)
  (h:∀ s',Inv X pins (σ.set i (some v)) H s'->Q () s') (hf:X.fn x=true \/ X.env.scope.names.lookup x=some .local:=by first | exact .inl rfl | exact .inr rfl | assumption):aS M A (storeName X.env x u) Q E s:=
 ZI I hN hi hx r (fun s' I' _=>h s' I') hf
theorem Inv.call' {s':az} (I:Inv X pins σ H s)(ho:s'.os=s.os)(u:Un (frs X.stack) ch H H' s.heap s'.heap)(hok:HOk X.prog X.w H' s'.heap)(hg:gQ s'.gens)
  (hch:∀ b ∈ ch,(b ∈ X.ex \/ X.s₀.heap.objs.size<=b)/\b ≠ X.env.locals/\(∀ x c,X.env.cells.lookup x=some c->c ≠ b)/\∀ p ∈ X.pn ++ pins,p.1 ≠ b):Inv X pins σ H' s':=by
 obtain ⟨h',g',d',t',o'⟩:=s'
 have e:o'=s.os:=ho
 subst e
 exact I.call (g':=g') (t':=t') (d':=d') u hok hg hch
end
abbrev XK:=aj->Option ay->Hp->Prop
abbrev St:=List (Option V)
abbrev VK:=V->Hp->Prop
abbrev TE:=St->Hp->VK->Prop
abbrev TT:=St->Hp->(Bool->Hp->Prop)->Prop
abbrev TA:=St->Hp->(List V->Hp->Prop)->Prop
structure xf where
 nx:St->Hp->Prop
 rt:VK
 bk:St->Hp->Prop:=fun _ _=>False
 ct:St->Hp->Prop:=fun _ _=>False
abbrev TS:=xf->St->Hp->Prop
def EP (X:Cx)(pins:List (ay × Obj))(σ:St)(Q:VK)(u:aj)(s':az):Prop:=∃ v H',Inv X pins σ H' s'/\zG v u/\Q v H'
def TP (X:Cx)(pins:List (ay × Obj))(σ:St)(Q:Bool->Hp->Prop)(b:Bool)(s':az):Prop:=∃ H',Inv X pins σ H' s'/\Q b H'
def AP (X:Cx)(pins:List (ay × Obj))(σ:St)(Q:List V->Hp->Prop)(us:List aj)(s':az):Prop:=∃ vs H',Inv X pins σ H' s'/\zJ vs us/\Q vs H'
def SP (X:Cx)(pins:List (ay × Obj))(D:xf)(f:Flow)(s':az):Prop:=
 match f with
 | .next=>∃ σ' H',Inv X pins σ' H' s'/\D.nx σ' H'
 | .brk=>∃ σ' H',Inv X pins σ' H' s'/\D.bk σ' H'
 | .cont=>∃ σ' H',Inv X pins σ' H' s'/\D.ct σ' H'
 | .ret u=>∃ v σ' H',Inv X pins σ' H' s'/\zG v u/\D.rt v H'
def PE (X:Cx)(e:Expr)(t:TE):Prop:=
 ∀ (pins:List (ay × Obj)) (s:az) (σ:St) (H:Hp) (Q:VK),Inv X pins σ H s->t σ H Q->aS (aR X.prog X.w) X.A (eval e X.env) (EP X pins σ Q) X.xe s
def PT (X:Cx)(e:Expr)(t:TT):Prop:=
 ∀ (pins:List (ay × Obj)) (s:az) (σ:St) (H:Hp) (Q:Bool->Hp->Prop),Inv X pins σ H s->t σ H Q->aS (aR X.prog X.w) X.A (isTrue e X.env (eval e X.env)) (TP X pins σ Q) X.xe s
def PW (X:Cx)(e:Expr)(t:TT):Prop:=
 ∀ (whole:Sem aj) (pins:List (ay × Obj)) (s:az) (σ:St) (H:Hp) (Q:Bool->Hp->Prop),Inv X pins σ H s->t σ H Q->aS (aR X.prog X.w) X.A (isTrue e X.env whole) (TP X pins σ Q) X.xe s
variable {X:Cx} {e:Expr}
theorem PW.pt {t:TT}(h:PW X e t):PT X e t:=h _
def PA (X:Cx)(es:List Expr)(t:TA):Prop:=
 ∀ (pos:Pos) (pins:List (ay × Obj)) (s:az) (σ:St) (H:Hp) (Q:List V->Hp->Prop),Inv X pins σ H s->t σ H Q->aS (aR X.prog X.w) X.A (spliced (b9 pos (aO es X.env))) (AP X pins σ Q) X.xe s
def PS (X:Cx)(st:cg)(t:TS):Prop:=
 ∀ (pins:List (ay × Obj)) (s:az) (σ:St) (H:Hp) (D:xf),Inv X pins σ H s->t D σ H->aS (aR X.prog X.w) X.A (exec st X.env) (SP X pins D) X.xe s
def PSs (X:Cx)(st:List cg)(t:TS):Prop:=
 ∀ (pins:List (ay × Obj)) (s:az) (σ:St) (H:Hp) (D:xf),Inv X pins σ H s->t D σ H->aS (aR X.prog X.w) X.A (execs st X.env) (SP X pins D) X.xe s
variable {A:bg} {E:aj->az->Prop} {s:az}
theorem thn {α:Type}{t:Sem α}{Q Q':α->az->Prop}{M:ni} (h:aS M A t Q E s)(hQ:∀ a s,Q a s->Q' a s):aS M A t Q' E s:=bn h hQ fun _ _ x=>x
section
variable {X:Cx}
variable {pins:List (ay × Obj)} {σ:St}
theorem bin {a b:Expr}{ta tb:TE}(ha:PE X a ta)(hb:PE X b tb) {R:V->V->Hp->Prop}(I:Inv X pins σ H s)(h:ta σ H fun x H1=>tb σ H1 fun y H2=>R x y H2)
  {α:Type} {Q:α->az->Prop} {f:aj->aj->Sem α}
  (hf:∀ v u s2 x y H2,Inv X pins σ H2 s2->zG x v->zG y u->R x y H2->aS (aR X.prog X.w) X.A (f v u) Q X.xe s2) :
  aS (aR X.prog X.w) X.A (eval a X.env) (fun v s₁=>aS (aR X.prog X.w) X.A (eval b X.env) (fun u s₂=>aS (aR X.prog X.w) X.A (f v u) Q X.xe s₂) X.xe s₁) X.xe s:=by
 refine thn (ha pins s σ H _ I h) fun v s1 ⟨x,H1,I1,r1,q1⟩=>?_
 refine thn (hb pins s1 σ H1 _ I1 q1) fun u s2 ⟨y,H2,I2,r2,q2⟩=>?_
 exact hf v u s2 x y H2 I2 r1 r2 q2
noncomputable def wZ (i:Nat):TE:=fun σ H Q=>∃ v,σ[i]?=some (some v)/\Q v H
noncomputable def tC (v:V):TE:=fun _ H Q=>Q v H
variable {pos:Pos}
theorem LN {i:Nat}{x:Str} (hN:X.N[i]?=some x)(hv:Vis X.env.scope x)(hd:(x == ("__debug__":Str))=false:=by decide)(hcd:(x == ("__classdict__":Str))=false:=by decide):PE X (.Name x pos) (wZ i):=by
 intro pins s σ H Q I h
 obtain ⟨v,e,h⟩:=h
 obtain ⟨m,hn,hl⟩:=I.loc
 obtain ⟨u,r,l⟩:=hl i x v hN e hv
 have fin:EP X pins σ Q u s:=⟨v,H,I,r,h⟩
 rcases l with ⟨hk,hm⟩ | ⟨hk,c,hc,hcell⟩
 ·exact wpAny_Name (wpAny_loadName_local I.ok.kind hk hn hm fin) hd
 ·rcases hk with hk | hk
  ·exact wpAny_Name (wpAny_loadName_cell I.ok.kind hk hc hcell fin) hd
  ·exact wpAny_Name (wpAny_loadName_free I.ok.kind hk hc hcell fin hcd) hd
theorem zh {i j pos}:PE X (.Constant (.int i) j pos) (tC (.int i)):=fun _ _ _ H _ I h=>wpAny_Constant_int ⟨.int i,H,I.tok _,⟨_,rfl⟩,h⟩
theorem kf {b j pos}:PE X (.Constant (.bool b) j pos) (tC (.bl b)):=fun _ _ _ H _ I h=>Constant_bool ⟨.bl b,H,I,rfl,h⟩
theorem zI {j pos}:PE X (.Constant .none j pos) (tC .non):=fun _ _ _ H _ I h=>Constant_none ⟨.non,H,I,rfl,h⟩
theorem zm {x j pos}:PE X (.Constant (.str x) j pos) (tC (.str x)):=fun _ _ _ H _ I h=>Calls.Constant_str ⟨.str x,H,I.tok _,⟨_,rfl⟩,h⟩
def Gl (X:Cx)(x:Str):Prop:=X.env.kindOf x=some .globalImplicit
variable {Q:aj->az->Prop}
theorem jY {x:Str}{u:aj} (I:Inv X pins σ H s)(hg:Gl X x)(hm:X.mg x=some u)(h:Q u s)
  (hd:(x == ("__debug__":Str))=false:=by decide):aS (aR X.prog X.w) X.A (eval (.Name x pos) X.env) Q E s:=
 gU I.ok.kind hg (Calls.loadGlobal_global (by rw [I.ok.glob];exact I.mod.glob.keeps I.bk) hm h) hd
theorem xa {x:Str}{u:aj} (I:Inv X pins σ H s)(hg:Gl X x)(hm:X.mg x=none)(hv:bH x=some u)(h:Q u s)
  (hn:x ≠ "__name__":=by decide) (hd:(x == ("__debug__":Str))=false:=by decide):aS (aR X.prog X.w) X.A (eval (.Name x pos) X.env) Q E s:=by
 obtain ⟨mb,h1,h2⟩:=I.mod.blt
 exact gU I.ok.kind hg (Calls.loadGlobal_builtin (by rw [I.ok.glob];exact I.mod.glob.keeps I.bk) hm (by rw [I.ok.blt];exact h1.keeps I.bk) ((h2 x hn).trans hv) h) hd
theorem zW {x:Str}{v:V}{u:aj} (hg:Gl X x)(hm:X.mg x=none)(hv:bH x=some u)(r:zG v u)(hn:x ≠ "__name__":=by decide)(hd:(x == ("__debug__":Str))=false:=by decide):PE X (.Name x pos) (tC v):=
 fun _ _ _ H _ I h=>xa I hg hm hv ⟨v,H,I,r,h⟩ hn hd
variable {a b:Expr}{ta tb:TE}{pos:Pos}
def PC (X:Cx)(op:nu)(a b:Expr)(t:TE):Prop:=
 ∀ (pins:List (ay × Obj)) (s:az) (σ:St) (H:Hp) (Q:VK),Inv X pins σ H s->t σ H Q ->
  aS (aR X.prog X.w) X.A (eval a X.env) (fun v s₁=>aS (aR X.prog X.w) X.A (eval b X.env) (fun u s₂=>aS (aR X.prog X.w) X.A (dC op v u) (EP X pins σ Q) X.xe s₂) X.xe s₁) X.xe s
variable {op:nu}
theorem Bq (b:Expr) (h:op ≠ .In)(h2:op ≠ .NotIn):eP op b=false:=by
 have e1:(op == nu.In)=false:=by cases op <;> first | rfl | exact absurd rfl h
 have e2:(op == nu.NotIn)=false:=by cases op <;> first | rfl | exact absurd rfl h2
 cases b <;> simp [eP,e1,e2]
noncomputable def tB (t:TE):TT:=fun σ H Q=>t σ H fun x H1=>∃ c,x=.bl c/\Q c H1
variable {t:TE}
theorem Nf (h:PC X op a b t)(h1:eP op b=false:=by first | exact Bq _ (by decide) (by decide) | rfl):PT X (.Compare a [op] [b] pos) (tB t):=by
 intro pins s σ H Q I hw
 refine wpAny_isTrue_Compare1 (thn (h pins s σ H _ I hw) fun v s1 h1=>thn h1 fun u s2 h2=>thn h2 fun c s3 ⟨x,H1,I1,r1,q1⟩=>?_) h1
 obtain ⟨d,rfl,q⟩:=q1
 cases r1
 exact dE ⟨H1,I1,q⟩
theorem qp (h:PE X e t)(he:∀ whole,isTrue e X.env whole=(do let v <- whole;iX e.pos;holding [v] (truthy v)):=by intro _;rfl):PT X e (tB t):=by
 intro pins s σ H Q I hw
 refine isTrue_plain (thn (h pins s σ H _ I hw) fun v s1 ⟨x,H1,I1,r1,q1⟩=>?_) (he _)
 obtain ⟨d,rfl,q⟩:=q1
 cases r1
 exact dE ⟨H1,I1,q⟩
variable {tA tB':TT}{qR:List Expr}
noncomputable def Lh (t u:TT):TT:=fun σ H Q=>t σ H fun c H1=>if c=true then u σ H1 Q else Q false H1
noncomputable def tOr (t u:TT):TT:=fun σ H Q=>t σ H fun c H1=>if c=true then Q true H1 else u σ H1 Q
noncomputable def HD (t:TT):TT:=fun σ H Q=>t σ H fun c H1=>Q (!c) H1
theorem kO (ha:PT X a tA):PW X (.BoolOp .And [a] pos) tA:=by
 intro wh pins s σ H Q I h
 refine isTrue_and (thn (ha pins s σ H Q I h) fun c s1 e=>?_)
 cases c with
 | true=>exact isTrue_and_nil e
 | false=>exact e
theorem jE (ha:PT X a tA):PW X (.BoolOp .Or [a] pos) tA:=by
 intro wh pins s σ H Q I h
 refine isTrue_or (thn (ha pins s σ H Q I h) fun c s1 e=>?_)
 cases c with
 | false=>exact isTrue_or_nil e
 | true=>exact e
theorem x9 (ha:PT X a tA)(hb:PW X (.BoolOp .And (b :: qR) pos) tB'):PW X (.BoolOp .And (a :: b :: qR) pos) (Lh tA tB'):=by
 intro wh pins s σ H Q I h
 refine isTrue_and (thn (ha pins s σ H _ I h) fun c s1 ⟨H1,I1,q1⟩=>?_)
 cases c with
 | true=>exact hb wh pins s1 σ H1 Q I1 q1
 | false=>exact ⟨H1,I1,q1⟩
theorem kl (ha:PT X a tA)(hb:PW X (.BoolOp .Or (b :: qR) pos) tB'):PW X (.BoolOp .Or (a :: b :: qR) pos) (tOr tA tB'):=by
 intro wh pins s σ H Q I h
 refine isTrue_or (thn (ha pins s σ H _ I h) fun c s1 ⟨H1,I1,q1⟩=>?_)
 cases c with
 | true=>exact ⟨H1,I1,q1⟩
 | false=>exact hb wh pins s1 σ H1 Q I1 q1
theorem qJ (ha:PT X a tA):PT X (.UnaryOp .Not a pos) (HD tA):=by
 intro pins s σ H Q I h
 exact isTrue_not (ha pins s σ H (fun c H1=>Q (!c) H1) I h)
noncomputable def Wo (ta tb:TE):TE:=fun σ H Q=>ta σ H fun x H1=>∃ c,x=.bl c/\if c=true then tb σ H1 Q else Q (.bl false) H1
noncomputable def W9 (ta:TE):TE:=fun σ H Q=>ta σ H fun x H1=>∃ c,x=.bl c/\Q (.bl (!c)) H1
theorem QE {op} (h:PE X a t):PE X (.BoolOp op [a] pos) t:=fun pins s σ H Q I hw=>BoolOp_one (h pins s σ H Q I hw)
theorem yV (ha:PE X a ta)(hb:PE X (.BoolOp .And (b :: qR) pos) tb):PE X (.BoolOp .And (a :: b :: qR) pos) (Wo ta tb):=by
 intro pins s σ H Q I h
 refine BoolOp_and (thn (ha pins s σ H _ I h) fun v s1 ⟨x,H1,I1,r1,q1⟩=>?_)
 obtain ⟨c,rfl,q1⟩:=q1
 cases r1
 refine dE ?_
 cases c with
 | true=>exact hb pins s1 σ H1 Q I1 q1
 | false=>exact ⟨.bl false,H1,I1,rfl,q1⟩
theorem Ir (ha:PE X a ta):PE X (.UnaryOp .Not a pos) (W9 ta):=by
 intro pins s σ H Q I h
 refine UnaryOp_ (thn (ha pins s σ H _ I h) fun v s1 ⟨x,H1,I1,r1,q1⟩=>?_)
 obtain ⟨c,rfl,q1⟩:=q1
 cases r1
 exact not_of (dE ⟨.bl (!c),H1,I1,rfl,q1⟩)
noncomputable def tIf (t:TT)(ta tb:TE):TE:=fun σ H Q=>t σ H fun c H1=>if c=true then ta σ H1 Q else tb σ H1 Q
theorem jL {c:Expr}(hc:PT X c tA)(ha:PE X a ta)(hb:PE X b tb):PE X (.IfExp c a b pos) (tIf tA ta tb):=by
 intro pins s σ H Q I h
 refine wpAny_IfExp (thn (hc pins s σ H _ I h) fun d s1 ⟨H1,I1,q1⟩=>?_)
 cases d with
 | true=>exact ha pins s1 σ H1 Q I1 q1
 | false=>exact hb pins s1 σ H1 Q I1 q1
end
def SqL (K:aA)(H:Hp)(a:ay)(xs:List V):Prop:=
 Rd H a (.lst xs) \/
  ∃ (o:Obj) (its:Array aj) (n:Nat),K.lookup a=some o/\o.cls=.type "list"/\o.dict=none/\o.data=.seq its n/\its.size<=aQ/\zJ xs its.toList
def SqT (K:aA)(H:Hp)(a:ay)(xs:List V):Prop:=
 Rd H a (.tup xs) \/
  ∃ (o:Obj) (its:Array aj) (n:Nat),K.lookup a=some o/\o.cls=.type "tuple"/\o.data=.seq its n/\its.size<=aQ/\zJ xs its.toList
noncomputable def Nh:aj->Option V
 | .none=>some .non
 | .bool b=>some (.bl b)
 | .int i _=>some (.int i)
 | .str x _=>some (.str x)
 | .bytes b _=>some (.byt b)
 | .float b _=>some (.flt b)
 | .ref a=>some (.ref a)
 | .type n=>some (.ty n)
 | _=>none
theorem zG.abs {x:V}{u:aj}(r:zG x u):Nh u=some x:=by
 cases x with
 | non=>cases r;rfl
 | bl _=>cases r;rfl
 | int _=>obtain ⟨t,rfl⟩:=r;rfl
 | str _=>obtain ⟨t,rfl⟩:=r;rfl
 | byt _=>obtain ⟨t,rfl⟩:=r;rfl
 | flt _=>obtain ⟨t,rfl⟩:=r;rfl
 | ref _=>cases r;rfl
 | ty _=>cases r;rfl
theorem zG.inj {x y:V}{u:aj}(r:zG x u)(q:zG y u):x=y:=bR (r.abs.symm.trans q.abs)
theorem zJ.inj:∀ {xs ys:List V} {us:List aj},zJ xs us->zJ ys us->xs=ys
 | _,_,_,.nil,.nil=>rfl
 | _,_,_,.cons r t,.cons r' t'=>by rw [r.inj r',zJ.inj t t']
section
variable {X:Cx}{pins:List (ay × Obj)}{σ:St}{H:Hp}{s:az}{a:ay}{xs ys:List V}
variable {K:aA}
theorem SqL.of (h:H a=some (.lst xs)):SqL K H a xs:=.inl (.inl h)
theorem SqT.of (h:H a=some (.tup xs)):SqT K H a xs:=.inl (.inl h)
theorem Inv.list (I:Inv X pins σ H s)(h:SqL X.K H a xs):∃ its:List aj,zJ xs its/\PlainL s.heap a its.toArray/\xs.length<=aQ:=by
 rcases h with h | ⟨o,its,n,hk,hc,hd,hs,hz,r⟩
 ·obtain ⟨z,its,n,r,e⟩:=h.ok I.hok
  exact ⟨its,r,⟨_,n,e,rfl,rfl,rfl⟩,z⟩
 ·refine ⟨its.toList,r,⟨o,n,I.kIn a o hk,hc,hd,by simpa using hs⟩,?_⟩
  have e:=r.length
  simp only [gL] at e
  omega
theorem Inv.tuple (I:Inv X pins σ H s)(h:SqT X.K H a xs):∃ its:List aj,zJ xs its/\IsTup s.heap a its.toArray/\xs.length<=aQ:=by
 rcases h with h | ⟨o,its,n,hk,hc,hs,hz,r⟩
 ·obtain ⟨z,its,r,p⟩:=h.ok I.hok
  exact ⟨its,r,p.is,z⟩
 ·refine ⟨its.toList,r,⟨o,I.kIn a o hk,hc,n,by simpa using hs⟩,?_⟩
  have e:=r.length
  simp only [gL] at e
  omega
theorem Inv.list_inj (I:Inv X pins σ H s)(h:SqL X.K H a xs)(h':SqL X.K H a ys):xs=ys:=by
 obtain ⟨its,r,⟨o,n,e,_,_,d⟩,_⟩:=I.list h
 obtain ⟨its',r',⟨o',n',e',_,_,d'⟩,_⟩:=I.list h'
 rw [e] at e';cases e'
 rw [d] at d'
 injection d' with d1 _
 have:its=its':=by simpa using congrArg Array.toList d1
 subst this
 exact r.inj r'
theorem Inv.tuple_inj (I:Inv X pins σ H s)(h:SqT X.K H a xs)(h':SqT X.K H a ys):xs=ys:=by
 obtain ⟨its,r,⟨o,e,_,n,d⟩,_⟩:=I.tuple h
 obtain ⟨its',r',⟨o',e',_,n',d'⟩,_⟩:=I.tuple h'
 rw [e] at e';cases e'
 rw [d] at d'
 injection d' with d1 _
 have:its=its':=by simpa using congrArg Array.toList d1
 subst this
 exact r.inj r'
end
noncomputable abbrev Cx.wish (X:Cx)(E:aj->az->Prop):Cx:={ X with xe:=E }
noncomputable abbrev Cx.nox (X:Cx):Cx:=X.wish fun _ _=>False
theorem Cx.Ok.wish (ok:X.Ok)(E:aj->az->Prop):(X.wish E).Ok:=
 ⟨ok.mod,ok.kind,ok.glob,ok.blt,ok.above,ok.inj,ok.has,ok.cab,ok.hd,ok.frames,ok.stk,ok.exf,ok.bs,ok.bsz,ok.noex,ok.exfs,ok.funs,ok.frf⟩
theorem Cx.Ok.unwish (ok:(X.wish E).Ok):X.Ok:=
 ⟨ok.mod,ok.kind,ok.glob,ok.blt,ok.above,ok.inj,ok.has,ok.cab,ok.hd,ok.frames,ok.stk,ok.exf,ok.bs,ok.bsz,ok.noex,ok.exfs,ok.funs,ok.frf⟩
section
variable {X:Cx}{pins:List (ay × Obj)}{σ:St}{H:Hp}{s:az}{E:aj->az->Prop}
theorem Inv.wish (I:Inv X pins σ H s)(E:aj->az->Prop):Inv (X.wish E) pins σ H s:=⟨I.ok.wish E,I.os,I.bare,I.base,I.loc,I.cell,I.free,I.freeC,I.pin,I.hok,I.len⟩
theorem Inv.unwish (I:Inv (X.wish E) pins σ H s):Inv X pins σ H s:=⟨I.ok.unwish,I.os,I.bare,I.base,I.loc,I.cell,I.free,I.freeC,I.pin,I.hok,I.len⟩
theorem SP.unwish {D:xf}{f:Flow}{s':az}(h:SP (X.wish E) pins D f s'):SP X pins D f s':=by
 cases f with
 | next=>obtain ⟨σ',H',I,q⟩:=h;exact ⟨σ',H',I.unwish,q⟩
 | brk=>obtain ⟨σ',H',I,q⟩:=h;exact ⟨σ',H',I.unwish,q⟩
 | cont=>obtain ⟨σ',H',I,q⟩:=h;exact ⟨σ',H',I.unwish,q⟩
 | ret u=>obtain ⟨v,σ',H',I,r,q⟩:=h;exact ⟨v,σ',H',I.unwish,r,q⟩
theorem PSs.nox {st:List cg}{t:TS}(h:PSs X.nox st t):PSs X st t:=fun pins s σ H D I hw=>
 bn (h pins s σ H D (I.wish _) hw) (fun _ _ q=>q.unwish) fun _ _ z=>bM z
end
section
variable {X:Cx}{st:cg}{qR:List cg}{t u:TS}{e:Expr}{te:TE}{pos:Pos}
noncomputable def BJ:TS:=fun D σ H=>D.nx σ H
noncomputable def VD (t u:TS):TS:=fun D σ H=>t { D with nx:=u D } σ H
theorem zw:PSs X [] BJ:=fun _ _ σ H _ I h=>fG ⟨σ,H,I,h⟩
theorem zc (h1:PS X st t)(h2:PSs X qR u):PSs X (st :: qR) (VD t u):=by
 intro pins s σ H D I h
 refine iE (thn (h1 pins s σ H { D with nx:=u D } I h) fun f s1 q=>?_)
 cases f with
 | next=>
  obtain ⟨σ',H',I',q⟩:=q
  exact h2 pins s1 σ' H' D I' q
 | ret v=>exact q
 | brk=>exact q
 | cont=>exact q
theorem ze (h1:PS X st t):PSs X [st] t:=by
 intro pins s σ H D I h
 refine iE (thn (h1 pins s σ H D I h) fun f s1 q=>?_)
 cases f with
 | next=>exact fG q
 | ret v=>exact q
 | brk=>exact q
 | cont=>exact q
theorem Inv.quiet {pins:List (ay × Obj)}{σ:St} (I:Inv X pins σ H s):interactive X.env=false:=by simp [interactive,I.ok.kind]
noncomputable def XI (te:TE):TS:=fun D σ H=>te σ H fun _ H1=>D.nx σ H1
theorem qB (he:PE X e te)(hs:lI e none pos.line X.env=pure false:=by rfl):PS X (.Expr e pos) (XI te):=by
 intro pins s σ H D I h
 exact wpAny_Expr_any (thn (he pins s σ H _ I h) fun v s1 ⟨x,H1,I1,r1,q1⟩=>⟨σ,H1,I1,q1⟩) I.quiet hs
noncomputable def EE (te:TE):TS:=fun D σ H=>te σ H D.rt
theorem zA (he:PE X e te):PS X (.Return (some e) pos) (EE te):=by
 intro pins s σ H D I h
 exact wpAny_Return_some (thn (he pins s σ H _ I h) fun v s1 ⟨x,H1,I1,r1,q1⟩=>⟨x,σ,H1,I1,r1,q1⟩)
noncomputable def Ey (c:TT)(t u:TS):TS:=fun D σ H=>c σ H fun b H1=>if b=true then t D σ H1 else u D σ H1
theorem zN {c:Expr}{a b:List cg}{tc:TT}(hc:PT X c tc)(ha:PSs X a t)(hb:PSs X b u):PS X (.If c a b pos) (Ey tc t u):=by
 intro pins s σ H D I h
 refine wpAny_If (thn (hc pins s σ H _ I h) fun d s1 ⟨H1,I1,q1⟩=>?_)
 cases d with
 | true=>exact ha pins s1 σ H1 D I1 q1
 | false=>exact hb pins s1 σ H1 D I1 q1
end
abbrev TG:=V->St->Hp->(St->Hp->Prop)->Prop
abbrev TGs:=List V->St->Hp->(St->Hp->Prop)->Prop
def PG (X:Cx)(target:Expr)(t:TG):Prop:=
 ∀ (pins:List (ay × Obj)) (s:az) (σ:St) (H:Hp) (v:V) (u:aj) (Q:St->Hp->Prop),Inv X pins σ H s->zG v u->t v σ H Q ->
  aS (aR X.prog X.w) X.A (lV target X.env u) (fun _ s'=>∃ σ' H',Inv X pins σ' H' s'/\Q σ' H') X.xe s
def PGs (X:Cx)(ts:List Expr)(t:TGs):Prop:=
 ∀ (pins:List (ay × Obj)) (s:az) (σ:St) (H:Hp) (vs:List V) (us:List aj) (Q:St->Hp->Prop),Inv X pins σ H s->zJ vs us->t vs σ H Q ->
  aS (aR X.prog X.w) X.A (gy ((fO ts X.env).map (·.2)) us) (fun _ s'=>∃ σ' H',Inv X pins σ' H' s'/\Q σ' H') X.xe s
abbrev Jt:=V->V->V->Hp->(Hp->Prop)->Prop
def E6 (X:Cx)(t:Jt):Prop:=
 ∀ (pins:List (ay × Obj)) (s:az) (σ:St) (H:Hp) (o i v:V) (ov iv u:aj) (Q:Hp->Prop),Inv X pins σ H s->zG o ov->zG i iv->zG v u->t o i v H Q ->
  aS (aR X.prog X.w) X.A (setItem ov iv u) (fun _ s'=>∃ H',Inv X pins σ H' s'/\Q H') X.xe s
abbrev TIp:=V->V->Hp->VK->Prop
def PIp (X:Cx)(op:Operator)(t:TIp):Prop:=
 ∀ (pins:List (ay × Obj)) (s:az) (σ:St) (H:Hp) (x y:V) (v u:aj) (Q:VK),Inv X pins σ H s->zG x v->zG y u->t x y H Q ->
  aS (aR X.prog X.w) X.A (inplaceOp op v u) (EP X pins σ Q) X.xe s
section
variable {X:Cx}{pos:Pos}
noncomputable def JI (i:Nat):TG:=fun v σ H Q=>Q (σ.set i (some v)) H
variable {i:Nat}
theorem zx {x:Str}(hN:X.N.Nodup)(hi:X.N[i]?=some x)(hx:Loc X.env.scope x)(hf:X.fn x=true \/ X.env.scope.names.lookup x=some .local:=by first | exact .inl rfl | exact .inr rfl | assumption):PG X (.Name x pos) (JI i):=by
 intro pins s σ H v u Q I r h
 exact wpAny_assign_Name (jr I hN hi hx r (fun s' I'=>⟨_,H,I',h⟩) hf)
noncomputable def Ij:TGs:=fun vs σ H Q=>vs=[]/\Q σ H
noncomputable def DF (t:TG)(u:TGs):TGs:=fun vs σ H Q=>∃ v r,vs=v :: r/\t v σ H fun σ' H'=>u r σ' H' Q
theorem qi:PGs X [] Ij:=by
 intro pins s σ H vs us Q I r h
 obtain ⟨e,h⟩:=h
 subst e
 cases r
 exact ic ⟨σ,H,I,h⟩
theorem zy {e:Expr}{es:List Expr}{t:TG}{u:TGs}(h1:PG X e t)(h2:PGs X es u)
  (hs:(fO (e :: es) X.env).map (·.2)=lV e X.env :: (fO es X.env).map (·.2):=by rfl):PGs X (e :: es) (DF t u):=by
 intro pins s σ H vs us Q I r h
 obtain ⟨v,vr,e1,h⟩:=h
 subst e1
 cases r with
 | cons r rr=>
  rw [hs]
  refine dX (thn (h1 pins s σ H _ _ _ I r h) fun _ s1 ⟨σ1,H1,I1,q1⟩=>?_)
  exact h2 pins s1 σ1 H1 _ _ Q I1 rr q1
noncomputable def Y6 (K:aA)(n:Nat)(t:TGs):TG:=fun v σ H Q=>∃ a xs,v=.ref a/\SqT K H a xs/\xs.length=n/\t xs σ H Q
theorem Hn {es:List Expr}{k:Nat}{t:TGs}{n:Nat}(hc:X.calm=true)(h:PGs X es t)
  (hn:(fO es X.env).length=n:=by rfl) (hst:(fO es X.env).findIdx? (·.1)=none:=by rfl):PG X (.Tuple es k pos) (Y6 X.K n t):=by
 intro pins s σ H v u Q I r hw
 obtain ⟨a,xs,e1,hq,hl,hw⟩:=hw
 subst e1
 cases r
 obtain ⟨its,rv,ht,hz⟩:=I.tuple hq
 refine assign_Tuple_tuple (I.ok.hd hc) ht (by simp [hn,<- hl,rv.length]) hst fun h' hx=>?_
 have I1:Inv X pins σ H { s with heap:=h' }:=I.kept (t':=s.toks) fun b o e=>hx b o (bq (aI e)) e
 exact h pins _ σ H xs _ Q I1 (by simpa using rv) hw
noncomputable def Hh (to ti:TE)(t:Jt):TG:=fun v σ H Q=>to σ H fun o H1=>ti σ H1 fun i H2=>t o i v H2 fun H3=>Q σ H3
theorem qU {o i:Expr}{to ti:TE}{t:Jt}(ho:PE X o to)(hi:PE X i ti)(hs:E6 X t)
  (ha:∀ v,lV (.Subscript o i pos) X.env v=(do
   let ov <- holding [v] (eval o X.env)
   let iv <- holding [v,ov] (eval i X.env)
   iX pos
   holding [v,ov,iv] (setItem ov iv v)
   release [v,ov,iv] []):=by intro _;rfl):PG X (.Subscript o i pos) (Hh to ti t):=by
 intro pins s σ H v u Q I r h
 rw [ha]
 refine aq (dq (thn (ho pins s σ H _ I h) fun ov s1 ⟨x,H1,I1,r1,q1⟩=>?_))
 refine aq (dq (thn (hi pins s1 σ H1 _ I1 q1) fun iv s2 ⟨y,H2,I2,r2,q2⟩=>?_))
 refine aq (cZ (aq (dq (thn (hs pins s2 σ H2 x y v ov iv u _ I2 r1 r2 r q2) fun _ s3 ⟨H3,I3,q3⟩=>?_))))
 exact wpAny_release ⟨σ,H3,I3,q3⟩
noncomputable def Qn (te:TE)(g:TG):TS:=fun D σ H=>te σ H fun x H1=>g x σ H1 D.nx
variable {te:TE}
theorem qk {tg e:Expr} {g:TG}(he:PE X e te)(hg:PG X tg g)(hs:lN [tg] e pos.line X.env=pure false:=by rfl)(hw:lO [tg] e X.env=pure none:=by rfl)
  (h1:(fO [tg] X.env).map (·.2)=[lV tg X.env]:=by rfl):PS X (.Assign [tg] e pos) (Qn te g):=by
 intro pins s σ H D I h
 refine wpAny_Assign_stores (thn (he pins s σ H _ I h) fun v s1 ⟨x,H1,I1,r1,q1⟩=>?_) hs hw
 rw [h1]
 exact thn (hg pins s1 σ H1 x v _ I1 r1 q1) fun _ s2 q=>q
theorem zE {x:Str} {pos':Pos}(hN:X.N.Nodup)(hi:X.N[i]?=some x)(hx:Loc X.env.scope x)(he:PE X e te)(hs:lI e (some (.Name x pos')) pos.line X.env=pure false:=by rfl)(hf:X.fn x=true \/ X.env.scope.names.lookup x=some .local:=by first | exact .inl rfl | exact .inr rfl | assumption) :
  PS X (.Assign [.Name x pos'] e pos) (Qn te (JI i)):=by
 intro pins s σ H D I h
 refine wpAny_Assign_Name (thn (he pins s σ H _ I h) fun v s1 ⟨y,H1,I1,r1,q1⟩=>?_) hs
 exact jr I1 hN hi hx r1 (fun s2 I2=>⟨_,H1,I2,q1⟩) hf
noncomputable def Hf (i j:Nat)(ta:TA):TS:=fun D σ H=>ta σ H fun vs H1=>∃ v w,vs=[v,w]/\D.nx ((σ.set i (some v)).set j (some w)) H1
theorem KA {i j:Nat}{x y:Str}{a b:Expr}{ta:TA}{px py pt:Pos}{kt k2 pt2}(hc:X.calm=true)(hN:X.N.Nodup)(hi:X.N[i]?=some x)(hj:X.N[j]?=some y)(hij:i ≠ j)
  (hx:X.env.scope.names.lookup x=some .local) (hy:X.env.scope.names.lookup y=some .local) (ha:PA X [a,b] ta)
  (hw:lO [.Tuple [.Name x px,.Name y py] kt pt] (.Tuple [a,b] k2 pt2) X.env=pure (some [x,y]))
  (hs:lN [.Tuple [.Name x px,.Name y py] kt pt] (.Tuple [a,b] k2 pt2) pos.line X.env=pure false:=by rfl) :
  PS X (.Assign [.Tuple [.Name x px,.Name y py] kt pt] (.Tuple [a,b] k2 pt2) pos) (Hf i j ta):=by
 intro pins s σ H D I h
 rw [exec_Assign_arm]
 refine aq (cZ ?_)
 rw [hs]
 refine aq (aL ?_)
 rw [if_neg (by decide)]
 refine aq (Tuple_ (thn (ha _ pins s σ H _ I h) fun us s1 ⟨vs,H1,I1,r1,q1⟩=>?_))
 obtain ⟨v,w,e1,q1⟩:=q1
 subst e1
 obtain ⟨u1,u2,rfl,rv,rw'⟩:∃ u1 u2,us=[u1,u2]/\zG v u1/\zG w u2:=by
  cases r1 with
  | cons p q=>
   cases q with
   | cons p' q'=>
    cases q'
    exact ⟨_,_,rfl,p,p'⟩
 refine cG ?_ (by show 2<=aQ;decide)
 have I2:Inv X pins σ H1 { s1 with heap:=s1.heap.push { cls:=.type "tuple",data:=.seq [u1,u2].toArray } }:=I1.kept (t':=s1.toks) fun b o e=>aE _ e
 rw [hw]
 refine aq (aL ?_)
 show aS (aR X.prog X.w) X.A (do rule "assign.swapped-stores";let items <- unpackItems (.ref s1.heap.objs.size) 2 none;gy [fun v=>fD X.env y v,fun v=>fD X.env x v] items.reverse;pure Flow.next) _ _ _
 refine aq (iY (aq (unpackItems_tuple (items:=#[u1,u2]) (I.ok.hd hc) (IsTup.new s1.heap _) fun h' hx'=>?_)))
 have I3:=I2.kept (h':=h') (t':=s1.toks) fun b o e=>hx' b o (bq (aI e)) e
 show aS _ _ (gy [fun v=>fD X.env y v,fun v=>fD X.env x v] [u2,u1] >>= fun _=>pure Flow.next) _ _ _
 refine aq (dX (fT (jr I3 hN hj (.inl hy) rw' (fun s2 I4=>?_) (.inr hy))))
 refine dX (fT (jr I4 hN hi (.inl hx) rv (fun s3 I5=>ic (aL ?_)) (.inr hx)))
 rw [er _ _ (Ne.symm hij)] at I5
 exact ⟨_,H1,I5,q1⟩
noncomputable def Aj (to ti te:TE)(tget:V->V->Hp->VK->Prop)(tip:TIp)(tset:Jt):TS:=fun D σ H=>to σ H fun o H1=>ti σ H1 fun i H2=>tget o i H2 fun x H3=>te σ H3 fun y H4=>tip x y H4 fun z H5=>tset o i z H5 fun H6=>D.nx σ H6
def L5 (X:Cx)(t:V->V->Hp->VK->Prop):Prop:=
 ∀ (pins:List (ay × Obj)) (s:az) (σ:St) (H:Hp) (o i:V) (ov iv:aj) (Q:VK),Inv X pins σ H s->zG o ov->zG i iv->t o i H Q ->
  aS (aR X.prog X.w) X.A (my ov iv) (EP X pins σ Q) X.xe s
theorem vK {o i e:Expr}{to ti te:TE}{tget:V->V->Hp->VK->Prop}{tip:TIp}{tset:Jt}{op:Operator}{tpos:Pos}(ho:PE X o to)(hi:PE X i ti)(hg:L5 X tget)(he:PE X e te)(hp:PIp X op tip)(hs:E6 X tset)
  (ha:∀ ov iv new,augStore i ov iv new=(do holding [new,ov,iv] (setItem ov iv new);release [new,ov,iv] [];pure .next):=by intros;rfl):PS X (.AugAssign (.Subscript o i tpos) op e pos) (Aj to ti te tget tip tset):=by
 intro pins s σ H D I h
 refine wpAny_AugAssign_SubscriptAny (thn (ho pins s σ H _ I h) fun ov s1 ⟨x1,H1,I1,r1,q1⟩=>?_) ha
 refine thn (hi pins s1 σ H1 _ I1 q1) fun iv s2 ⟨x2,H2,I2,r2,q2⟩=>?_
 refine thn (hg pins s2 σ H2 x1 x2 ov iv _ I2 r1 r2 q2) fun old s3 ⟨x3,H3,I3,r3,q3⟩=>?_
 refine thn (he pins s3 σ H3 _ I3 q3) fun v s4 ⟨x4,H4,I4,r4,q4⟩=>?_
 refine thn (hp pins s4 σ H4 x3 x4 old v _ I4 r3 r4 q4) fun new s5 ⟨x5,H5,I5,r5,q5⟩=>?_
 exact thn (hs pins s5 σ H5 x1 x2 x5 ov iv new _ I5 r1 r2 r5 q5) fun _ s6 ⟨H6,I6,q6⟩=>⟨σ,H6,I6,q6⟩
noncomputable def ipI (f:Int->Int->Int):TIp:=fun x y H Q=>∃ i j,x=.int i/\y=.int j/\Q (.int (f i j)) H
theorem Z0:PIp X .Add (ipI fun i j=>i+j):=by
 intro pins s σ H x y v u Q I r1 r2 h
 obtain ⟨i,j,e1,e2,q⟩:=h
 subst e1;subst e2
 obtain ⟨t,rfl⟩:=r1
 obtain ⟨t',rfl⟩:=r2
 exact iadd_int ⟨.int _,H,I.tok _,⟨_,rfl⟩,q⟩
end
section
variable {X:Cx}{pos:Pos}
end
structure It where
 go:Nat->Hp->Prop
 yld:Nat->Hp->V->Hp->Prop
 stop:Nat->Hp->Prop
def vH (X:Cx)(pins:List (ay × Obj))(H:Hp)(b:ay):Prop:=
 H b=none/\b ≠ X.env.locals/\b ∉ X.fs/\(b ∈ X.ex \/ X.s₀.heap.objs.size<=b)/\(∀ x c,X.env.cells.lookup x=some c->c ≠ b)/\∀ p ∈ X.pn ++ pins,p.1 ≠ b
variable {pins:List (ay × Obj)} {σ:St}
theorem Inv.fpOk {H H':Hp} (I:Inv X pins σ H s)(hb:s.heap.objs.size<=b)(hn:H' b=none):vH X pins H' b:=by
 refine ⟨hn,eh (bw I.lt hb),I.nofs hb,.inr (bz I.sz hb),fun x c e z=>?_,fun p hp z=>?_⟩
 ·obtain ⟨v,q⟩:=I.cell x c e
  exact absurd (bw q.lt (by rw [z];exact hb)) (dk _)
 ·exact absurd (bw (aI (I.pin p hp).1) (by rw [z];exact hb)) (dk _)
structure Jf (P:aX)(w:bu)(K:aA)(tg:Expr)(J:It)(fp:List ay)(it:ay)(tn:Nat->Heap->Prop):Prop where
 mem:it ∈ fp
 obj:∀ i h,tn i h->∀ b ∈ fp,∃ o,h.get? b=some o/\∀ v,o.data ≠ .cell v
 keep:∀ i h h',tn i h->(∀ b ∈ fp,∀ o,h.get? b=some o->h'.get? b=some o)->tn i h'
 item:∀ (X:Cx),X.prog=P->X.w=w->X.K=K->X.calm=true->∀ (i:Nat) (pins:List (ay × Obj)) (s:az) (σ:St) (H:Hp) (E:aj->az->Prop),Inv X pins σ H s->(∀ b ∈ fp,vH X pins H b)->tn i s.heap->J.go i H ->
  aS (aR P w) X.A (lu (.ref it)) (fun r s1=>∃ u,r=some u /\
   aS (aR P w) X.A (gG tg (.ref it) u) (fun _ s2=>∃ x H',Inv X pins σ H' s2/\zG x u/\J.yld i H x H'/\tn (i+1) s2.heap/\∀ b ∈ fp,H' b=none) E s1) E s
 done:∀ (X:Cx),X.prog=P->X.w=w->X.K=K->X.calm=true->∀ (i:Nat) (pins:List (ay × Obj)) (s:az) (σ:St) (H:Hp) (E:aj->az->Prop),Inv X pins σ H s->(∀ b ∈ fp,vH X pins H b)->tn i s.heap->J.stop i H ->
  aS (aR P w) X.A (lu (.ref it)) (fun r s1=>r=none/\Inv X pins σ H s1) E s
 self:∀ (A:bg) (i:Nat) (s:az) (Q:aj->az->Prop) (E:aj->az->Prop),tn i s.heap->Q (.ref it) s->aS (aR P w) A (pyIter (.ref it)) Q E s
abbrev TI:=St->Hp->(It->Hp->Prop)->Prop
def PIE (X:Cx)(pins:List (ay × Obj))(σ:St)(tg:Expr)(R:It->Hp->Prop)(itv:aj)(s2:az):Prop:=
 ∃ (it:ay) (fp:List ay) (tn:Nat->Heap->Prop) (J:It) (H':Hp),itv=.ref it/\Inv X pins σ H' s2/\Jf X.prog X.w X.K tg J fp it tn/\tn 0 s2.heap/\(∀ b ∈ fp,vH X pins H' b)/\R J H'
def PI (X:Cx)(tg iter:Expr)(wi:TI):Prop:=
 ∀ (pins:List (ay × Obj)) (s:az) (σ:St) (H:Hp) (R:It->Hp->Prop),Inv X pins σ H s->wi σ H R ->
  aS (aR X.prog X.w) X.A (eval iter X.env) (fun v s1=>aS (aR X.prog X.w) X.A (pyIter v) (PIE X pins σ tg R) X.xe s1) X.xe s
theorem Be {M : ni}{A : bg}{E : aj -> az -> Prop}{s : az}{tg : Expr}{it : ay}{u : aj}{o : Obj}{n : String}{vs : Array aj}{Q : Unit -> az -> Prop}(ho : s.heap.get? it = some o)(hc : o.cls = .type n)(hd : o.data = .fields vs)
    (hn:["enumerate","zip","dict_itemiterator","dict_reverseitemiterator","odict_iterator","itertools.zip_longest","itertools.pairwise"].contains n=false) (hQ:Q () s):aS M A (gG tg (.ref it) u) Q E s:=by
  unfold gG
  cases tg <;> first
    | exact aL hQ
    | (cases u <;> first
        | exact aL hQ
        | (refine aq (wpAny_load ho ?_)
           rw [hc,hd]
           show aS M A (if (["enumerate","zip","dict_itemiterator","dict_reverseitemiterator","odict_iterator","itertools.zip_longest","itertools.pairwise"].contains n && vs[0]? == some (fU _))=true then _ else _) Q E s
           rw [if_neg (by intro h;rw [hn,Bool.false_and] at h;cases h)]
           exact aL hQ))
noncomputable def Itl (K:aA)(a:ay):It:=
 ⟨fun i H=>∃ xs x,SqL K H a xs/\xs[i]?=some x,fun i H x H'=>H'=H/\∀ xs,SqL K H a xs->xs[i]?=some x,fun i H=>∃ xs,SqL K H a xs/\xs.length<=i⟩
noncomputable def Itt (K:aA)(a:ay):It:=
 ⟨fun i H=>∃ xs x,SqT K H a xs/\xs[i]?=some x,fun i H x H'=>H'=H/\∀ xs,SqT K H a xs->xs[i]?=some x,fun i H=>∃ xs,SqT K H a xs/\xs.length<=i⟩
noncomputable def Itr (lo:Int)(n:Nat):It:=⟨fun i _=>i<n,fun i H x H'=>H'=H/\x=.int (lo+i),fun i _=>n<=i⟩
variable {K:aA} {tg:Expr}
theorem V7 (a it:ay):Jf P w K tg (Itl K a) [it] it (fun i h=>h.IsListIter it a i) where
 mem:=by simp
 obj:=fun i h st b hb=>by
  have e:b=it:=by simpa using hb
  subst e
  obtain ⟨o,e,c,d⟩:=st
  exact ⟨o,e,fun v z=>by rw [d] at z;cases z⟩
 keep:=fun i h h' st k=>st.at fun o e=>k it (by simp) o e
 item:=by
  intro X hP hw hK hc i pins s σ H E I hf st hg
  subst hP hw hK
  obtain ⟨xs,x,hq,hx⟩:=hg
  obtain ⟨its,rv,p,hz⟩:=I.list hq
  obtain ⟨u,hu,ru⟩:=rv.get hx
  obtain ⟨f0,f1,f2,f3,f4,f5⟩:=hf it (by simp)
  refine wpAny_pyNext_list_item st p.isList (x:=u) (by simpa using hu) fun h' st' sb=>?_
  have I1:Inv X pins σ H { s with heap:=h' }:=I.turned (t':=s.toks) (fun b o hb e=>(sb.2 b hb).trans e) f0 f1 f3 f4 f5
  obtain ⟨o,e,c,d⟩:=id st'
  exact ⟨u,rfl,Be (s:={ s with heap:=h' }) e c d (by decide) ⟨x,H,I1,ru,⟨rfl,fun ys hy=>by rw [I.list_inj hy hq];exact hx⟩,st',fun b hb=>(hf b hb).1⟩⟩
 done:=by
  intro X hP hw hK hc i pins s σ H E I hf st hg
  subst hP hw hK
  obtain ⟨xs,hq,hx⟩:=hg
  obtain ⟨its,rv,p,hz⟩:=I.list hq
  obtain ⟨f0,f1,f2,f3,f4,f5⟩:=hf it (by simp)
  have hl:=rv.length
  exact wpAny_pyNext_list_end (I.ok.hd hc) st p.isList (by simp;omega) fun h' eb=>⟨rfl,I.turned (t':=s.toks) (fun b o hb e=>eb b o hb e) f0 f1 f3 f4 f5⟩
 self:=fun _ _ _ _ _ st h=>wpAny_pyIter_listiter st h
theorem KN (a it:ay):Jf P w K tg (Itt K a) [it] it (fun i h=>h.IsTupleIter it a i) where
 mem:=by simp
 obj:=fun i h st b hb=>by
  have e:b=it:=by simpa using hb
  subst e
  obtain ⟨o,e,c,d⟩:=st
  exact ⟨o,e,fun v z=>by rw [d] at z;cases z⟩
 keep:=fun i h h' st k=>st.at fun o e=>k it (by simp) o e
 item:=by
  intro X hP hw hK hc i pins s σ H E I hf st hg
  subst hP hw hK
  obtain ⟨xs,x,hq,hx⟩:=hg
  obtain ⟨its,rv,p,hz⟩:=I.tuple hq
  obtain ⟨u,hu,ru⟩:=rv.get hx
  obtain ⟨f0,f1,f2,f3,f4,f5⟩:=hf it (by simp)
  refine wpAny_pyNext_tuple_item st (show s.heap.IsTuple a its.toArray from p) (x:=u) (by simpa using hu) fun h' st' sb=>?_
  have I1:Inv X pins σ H { s with heap:=h' }:=I.turned (t':=s.toks) (fun b o hb e=>(sb.2 b hb).trans e) f0 f1 f3 f4 f5
  obtain ⟨o,e,c,d⟩:=id st'
  exact ⟨u,rfl,Be (s:={ s with heap:=h' }) e c d (by decide) ⟨x,H,I1,ru,⟨rfl,fun ys hy=>by rw [I.tuple_inj hy hq];exact hx⟩,st',fun b hb=>(hf b hb).1⟩⟩
 done:=by
  intro X hP hw hK hc i pins s σ H E I hf st hg
  subst hP hw hK
  obtain ⟨xs,hq,hx⟩:=hg
  obtain ⟨its,rv,p,hz⟩:=I.tuple hq
  obtain ⟨f0,f1,f2,f3,f4,f5⟩:=hf it (by simp)
  have hl:=rv.length
  exact wpAny_pyNext_tuple_end (I.ok.hd hc) st (show s.heap.IsTuple a its.toArray from p) (by simp;omega) fun h' eb=>⟨rfl,I.turned (t':=s.toks) (fun b o hb e=>eb b o hb e) f0 f1 f3 f4 f5⟩
 self:=fun _ _ _ _ _ st h=>wpAny_pyIter_tupleiter st h
theorem KY (it:ay)(lo:Int)(n:Nat):Jf P w K tg (Itr lo n) [it] it (fun i h=>IsRangeIter h it (lo+(i:Nat) * 1) ((n:Int) - (i:Nat)) 1) where
 mem:=by simp
 obj:=fun i h st b hb=>by
  have e:b=it:=by simpa using hb
  subst e
  exact ⟨_,st,fun v z=>by
   have z':dR _=fQ v:=z
   cases z'⟩
 keep:=fun i h h' st k=>k it (by simp) _ st
 item:=by
  intro X hP hw hK hc i pins s σ H E I hf st hg
  subst hP hw hK
  obtain ⟨f0,f1,f2,f3,f4,f5⟩:=hf it (by simp)
  have W:=Walks.range (prog:=X.prog) (w:=X.w) (I.ok.hd hc) it lo 1 n
  refine W.item i s _ _ hg st fun v h' tk hv st' kk=>?_
  obtain ⟨t,rfl⟩:=hv
  have I1:Inv X pins σ H { s with heap:=h',toks:=tk }:=I.turned (fun b o hb e=>kk b o (by simpa using hb) e) f0 f1 f3 f4 f5
  refine ⟨_,rfl,Be (s:={ s with heap:=h',toks:=tk }) (n:="range_iterator") st' rfl rfl (by decide) ⟨.int (lo+i),H,I1,⟨t,?_⟩,⟨rfl,rfl⟩,st',fun b hb=>(hf b hb).1⟩⟩
  rw [ie]
 done:=by
  intro X hP hw hK hc i pins s σ H E I hf st hg
  subst hP hw hK
  obtain ⟨f0,f1,f2,f3,f4,f5⟩:=hf it (by simp)
  exact wpAny_pyNext_range_end (I.ok.hd hc) st (by have:n<=i:=hg;omega) fun h' eb=>⟨rfl,I.turned (t':=s.toks) (fun b o hb e=>eb b o hb e) f0 f1 f3 f4 f5⟩
 self:=fun _ _ _ _ _ st h=>wpAny_pyIter_rangeiter st h
section
variable {X:Cx}{tg:Expr}
theorem Bb {R:It->Hp->Prop} {lo hi:Int}{t u v:Tok}{tk:Nat}(I:Inv X pins σ H s)(h1:-(2 ^ 62)<=lo)(h2:lo<2 ^ 62)(h3:-(2 ^ 62)<=hi)(h4:hi<2 ^ 62)
  (q:R (Itr lo (hi - lo).toNat) H):aS (aR X.prog X.w) X.A (pyIter (.ref s.heap.objs.size)) (PIE X pins σ tg R) E { s with heap:=s.heap.push { cls:=.type "range",data:=.fields #[.int lo t,.int hi u,.int 1 v] },toks:=tk }:=by
 refine wpAny_pyIter_range (IsRange.new ..) (iF h1 h2 h3 h4) ?_
 have I1:Inv X pins σ H { s with heap:=s.heap.push { cls:=.type "range",data:=.fields #[.int lo t,.int hi u,.int 1 v] },toks:=tk }:=I.kept fun b o e=>aE _ e
 refine ⟨(s.heap.push { cls:=.type "range",data:=.fields #[.int lo t,.int hi u,.int 1 v] }).objs.size,[(s.heap.push { cls:=.type "range",data:=.fields #[.int lo t,.int hi u,.int 1 v] }).objs.size],_,_,H,rfl,
  I1.kept (t':=tk) fun b o e=>aE _ e,KY _ lo (hi - lo).toNat,?_,fun b hb=>?_,q⟩
 ·have e1:lo+((0:Nat):Int) * 1=lo:=by simp
  have e2:(((hi - lo).toNat:Nat):Int) - ((0:Nat):Int)=dF lo hi 1:=by rw [fE];split <;> omega
  show IsRangeIter _ _ (lo+((0:Nat):Int) * 1) ((((hi - lo).toNat:Nat):Int) - ((0:Nat):Int)) 1
  rw [e1,e2]
  exact bc _ rfl
 ·have e:b=(s.heap.push { cls:=.type "range",data:=.fields #[.int lo t,.int hi u,.int 1 v] }).objs.size:=by simpa using hb
  subst e
  exact I1.fpOk (aM _) (I1.hok.fresh (aM _))
noncomputable def Wu (ta:TA):TI:=fun σ H R=>ta σ H fun vs H1=>∃ j:Int,vs=[.int j]/\-(2 ^ 62)<=j/\j<2 ^ 62/\R (Itr 0 j.toNat) H1
theorem qE {a:Expr}{ta:TA}{p pos:Pos}(hg:Gl X "range")(hm:X.mg "range"=none)(ha:PA X [a] ta)(hs:aO [a] X.env=[(false,eval a X.env)]:=by rfl):PI X tg (.Call (.Name "range" p) [a] [] pos) (Wu ta):=by
 intro pins s σ H R I h
 refine Call_ (xa I hg hm boot_range (cY (thn (ha pos pins s σ H _ I h) fun us s1 ⟨vs,H1,I1,r1,q1⟩=>?_) hs rfl))
 obtain ⟨j,e,q1,q2,q⟩:=q1
 subst e
 cases r1 with
 | cons r rr=>
  cases rr
  obtain ⟨t,rfl⟩:=r
  exact call_range_1 (Bb I1 (by omega) (by omega) q1 q2 (by simpa using q))
noncomputable def FI (wi:TI)(g:TG)(tb:TS):TS:=fun D σ H=>wi σ H fun J H1=>∃ W:Nat->Nat->St->Hp->Prop,(∃ m,W 0 m σ H1)/\∀ i m σ H,W i m σ H ->
 (J.stop i H/\D.nx σ H) \/ (J.go i H/\∃ N:St->Hp->Prop,(∀ σ' H',N σ' H'->∃ m',m'<m/\W (i+1) m' σ' H')/\∀ x H',J.yld i H x H'->g x σ H' fun σ2 H2=>tb { D with nx:=N,ct:=N,bk:=D.nx } σ2 H2)
noncomputable def wF (fp:List ay)(h:Heap):List (ay × Obj):=fp.filterMap fun b=>(h.get? b).map fun o=>(b,o)
variable {fp:List ay}
theorem kU {h:Heap} {o:Obj}(hb:b ∈ fp)(e:h.get? b=some o):(b,o) ∈ wF fp h:=eJ.mpr ⟨b,hb,by rw [e];rfl⟩
theorem VM {fp:List ay}{h:Heap}{p:ay × Obj}(hp:p ∈ wF fp h):p.1 ∈ fp/\h.get? p.1=some p.2:=by
 obtain ⟨b,hb,e⟩:=eJ.mp hp
 cases q:h.get? b with
 | none=>rw [q] at e;cases e
 | some o=>
  rw [q] at e
  have e':(b,o)=p:=bR e
  subst e'
  exact ⟨hb,q⟩
theorem Inv.pinned (I:Inv X pins σ H s)(hf:∀ b ∈ fp,vH X pins H b)(ho:∀ b ∈ fp,∃ o,s.heap.get? b=some o/\∀ v,o.data ≠ .cell v):Inv X (pins ++ wF fp s.heap) σ H s:=
 I.pins_of fun p hp=>(dM.mp hp).elim (fun z=>I.pin p (bT _ z)) fun z=>by
  obtain ⟨hb,e⟩:=VM z
  obtain ⟨f0,f1,f2,_⟩:=hf p.1 hb
  obtain ⟨o,e',d⟩:=ho p.1 hb
  rw [e] at e';cases e'
  exact ⟨e,f0,f1,f2,d⟩
theorem Inv.unpinned {pins pl:List (ay × Obj)} (I:Inv X (pins ++ pl) σ H s):Inv X pins σ H s:=I.pins_of fun p hp=>I.pin p (bT _ (gB _ hp))
theorem jP {iter:Expr}{body:List cg}{wi:TI}{g:TG}{tb:TS}{pos:Pos}(hp:PassesOwn (aR X.prog X.w) X.A X.env X.xe)(hc:X.calm=true)(hi:PI X tg iter wi)(hg:PG X tg g)(hb:PSs X body tb)
  (hs:∀ x,fV iter X.env x=pure x:=by intro _;rfl):PS X (.For tg iter body [] pos) (FI wi g tb):=by
 intro pins s σ H D I h
 refine wpAny_For (thn (hi pins s σ H _ I h) fun v s1 h1=>thn h1 fun itv s2 h2=>?_) hs
 obtain ⟨it,fp,tn,J,H2,e,I2,T,st2,f2,W,⟨m0,w0⟩,turn⟩:=h2
 subst e
 have stat:∀ {H':Hp},(∀ b ∈ fp,H' b=none)->∀ b ∈ fp,vH X pins H' b:=fun hn b hb=>⟨hn b hb,(f2 b hb).2⟩
 refine codeAny_forLoop_any (fun n s'=>∃ i σ' H',Inv X pins σ' H' s'/\tn i s'.heap/\(∀ b ∈ fp,H' b=none)/\W i n σ' H') ?_ m0 ⟨0,σ,H2,I2,st2,fun b hb=>(f2 b hb).1,w0⟩
 rintro n s3 ⟨i,σ3,H3,I3,st3,fr3,w3⟩
 rcases turn i n σ3 H3 w3 with ⟨stop,qn⟩ | ⟨go,N,hN,step⟩
 ·refine fH hp (thn (T.done X rfl rfl rfl hc i pins s3 σ3 H3 X.xe I3 (stat fr3) st3 stop) fun r s4 ⟨hr,I4⟩=>?_)
  subst hr
  exact fG ⟨σ3,H3,I4,qn⟩
 ·refine fH hp (thn (T.item X rfl rfl rfl hc i pins s3 σ3 H3 X.xe I3 (stat fr3) st3 go) fun r s4 ⟨u,hr,h4⟩=>?_)
  subst hr
  refine fH hp (thn h4 fun _ s5 ⟨x,H5,I5,r5,y5,st5,fr5⟩=>?_)
  have I5':=I5.pinned (stat fr5) (T.obj _ _ st5)
  refine fH hp (thn (hg _ s5 σ3 H5 x u _ I5' r5 (step x H5 y5)) fun _ s6 ⟨σ6,H6,I6,q6⟩=>?_)
  refine fH hp (thn (hb _ s6 σ6 H6 _ I6 q6) fun f s7 q7=>?_)
  have again:∀ {σ7:St} {H7:Hp},Inv X (pins ++ wF fp s5.heap) σ7 H7 s7->N σ7 H7->∃ m,m<n/\∃ i σ' H',Inv X pins σ' H' s7/\tn i s7.heap/\(∀ b ∈ fp,H' b=none)/\W i m σ' H':=fun {σ7 H7} I7 n7=>by
   obtain ⟨m',hm,w7⟩:=hN σ7 H7 n7
   refine ⟨m',hm,i+1,σ7,H7,I7.unpinned,T.keep _ _ _ st5 fun b hb o e=>(I7.pin (b,o) (bT _ (bT _ (kU hb e)))).1,fun b hb=>?_,w7⟩
   obtain ⟨o,e,d⟩:=T.obj _ _ st5 b hb
   exact (I7.pin (b,o) (bT _ (bT _ (kU hb e)))).2.1
  cases f with
  | next=>obtain ⟨σ7,H7,I7,n7⟩:=q7;exact again I7 n7
  | cont=>obtain ⟨σ7,H7,I7,n7⟩:=q7;exact again I7 n7
  | brk=>obtain ⟨σ7,H7,I7,q7⟩:=q7;exact ⟨σ7,H7,I7.unpinned,q7⟩
  | ret v=>obtain ⟨x7,σ7,H7,I7,r7,q7⟩:=q7;exact ⟨x7,σ7,H7,I7.unpinned,r7,q7⟩
end
abbrev R2:=V->V->Hp->VK->Prop
def OpR (X:Cx)(f:aj->aj->Sem aj)(r:R2):Prop:=
 ∀ (pins:List (ay × Obj)) (s:az) (σ:St) (H:Hp) (x y:V) (v u:aj) (Q:VK),Inv X pins σ H s->zG x v->zG y u->r x y H Q ->
  aS (aR X.prog X.w) X.A (f v u) (EP X pins σ Q) X.xe s
def UnR (X:Cx)(f:aj->Sem aj)(r:V->Hp->VK->Prop):Prop:=
 ∀ (pins:List (ay × Obj)) (s:az) (σ:St) (H:Hp) (x:V) (v:aj) (Q:VK),Inv X pins σ H s->zG x v->r x H Q ->
  aS (aR X.prog X.w) X.A (f v) (EP X pins σ Q) X.xe s
def jM (X:Cx)(f:aj)(r:List V->Hp->VK->Prop):Prop:=
 ∀ (pins:List (ay × Obj)) (s:az) (σ:St) (H:Hp) (xs:List V) (us:List aj) (Q:VK),Inv X pins σ H s->zJ xs us->r xs H Q ->
  aS (aR X.prog X.w) X.A (call f us) (EP X pins σ Q) X.xe s
noncomputable def tOp (r:R2)(ta tb:TE):TE:=fun σ H Q=>ta σ H fun x H1=>tb σ H1 fun y H2=>r x y H2 Q
noncomputable def tUn (r:V->Hp->VK->Prop)(ta:TE):TE:=fun σ H Q=>ta σ H fun x H1=>r x H1 Q
noncomputable def rI (C:Int->Int->Prop)(g:Int->Int->V):R2:=fun x y H Q=>∃ i j,x=.int i/\y=.int j/\C i j/\Q (g i j) H
noncomputable def rI0 (g:Int->Int->V):R2:=fun x y H Q=>∃ i j,x=.int i/\y=.int j/\Q (g i j) H
noncomputable def rU (g:Int->V):V->Hp->VK->Prop:=fun x H Q=>∃ i,x=.int i/\Q (g i) H
section
variable {X:Cx}{a b c:Expr}{ta tb tc:TE}{pos:Pos}
variable {f:aj->aj->Sem aj}
theorem LD (ha:PE X a ta)(hb:PE X b tb) {R:V->V->Hp->Prop}(I:Inv X pins σ H s)
  (h:ta σ H fun x H1=>tb σ H1 fun y H2=>R x y H2) {Q:aj->az->Prop}
  (hf:∀ v u s2 x y H2,Inv X pins σ H2 s2->zG x v->zG y u->R x y H2->aS (aR X.prog X.w) X.A (f v u) Q X.xe s2) :
  aS (aR X.prog X.w) X.A (eval a X.env) (fun v s₁=>aS (aR X.prog X.w) X.A (eval b X.env) (fun u s₂=>aS (aR X.prog X.w) X.A (f v u) Q X.xe s₂) X.xe s₁) X.xe s:=by
 refine thn (ha pins s σ H _ I h) fun v s1 ⟨x,H1,I1,r1,q1⟩=>?_
 refine thn (hb pins s1 σ H1 _ I1 q1) fun u s2 ⟨y,H2,I2,r2,q2⟩=>?_
 exact hf v u s2 x y H2 I2 r1 r2 q2
theorem zL {op:Operator}{r:R2}(ho:OpR X (gC op) r)(ha:PE X a ta)(hb:PE X b tb):PE X (.BinOp a op b pos) (tOp r ta tb):=by
 intro pins s σ H Q I h
 exact wpAny_BinOp (LD ha hb I h fun v u s2 x y H2 I2 rx ry q=>ho pins s2 σ H2 x y v u Q I2 rx ry q)
theorem BK {op:UnaryOp}{r:V->Hp->VK->Prop}(ho:UnR X (unaryOp op) r)(ha:PE X a ta):PE X (.UnaryOp op a pos) (tUn r ta):=by
 intro pins s σ H Q I h
 exact UnaryOp_ (thn (ha pins s σ H _ I h) fun v s1 ⟨x,H1,I1,r1,q1⟩=>ho pins s1 σ H1 x v Q I1 r1 q1)
variable {g:Int->Int->Int}
theorem opI {C:Int->Int->Prop}
  (rule:∀ (i j:Int) (t u:Tok) (s:az) (Q:aj->az->Prop) (E:aj->az->Prop),C i j->Q (.int (g i j) s.toks) { s with toks:=s.toks+1 }->aS (aR X.prog X.w) X.A (f (.int i t) (.int j u)) Q E s) :
  OpR X f (rI C fun i j=>.int (g i j)):=by
 intro pins s σ H x y v u Q I rx ry h
 obtain ⟨i,j,rfl,rfl,hc,q⟩:=h
 obtain ⟨t,rfl⟩:=rx
 obtain ⟨t',rfl⟩:=ry
 exact rule i j t t' s _ _ hc ⟨.int (g i j),H,I.tok _,⟨_,rfl⟩,q⟩
theorem Mt
  (rule:∀ (i j:Int) (t u:Tok) (s:az) (Q:aj->az->Prop) (E:aj->az->Prop),Q (.int (g i j) s.toks) { s with toks:=s.toks+1 }->aS (aR X.prog X.w) X.A (f (.int i t) (.int j u)) Q E s) :
  OpR X f (rI0 fun i j=>.int (g i j)):=by
 intro pins s σ H x y v u Q I rx ry h
 obtain ⟨i,j,rfl,rfl,q⟩:=h
 obtain ⟨t,rfl⟩:=rx
 obtain ⟨t',rfl⟩:=ry
 exact rule i j t t' s _ _ ⟨.int (g i j),H,I.tok _,⟨_,rfl⟩,q⟩
theorem El {g:Int->Int->Bool}
  (rule:∀ (i j:Int) (t u:Tok) (s:az) (Q:aj->az->Prop) (E:aj->az->Prop),Q (.bool (g i j)) s->aS (aR X.prog X.w) X.A (f (.int i t) (.int j u)) Q E s) :
  OpR X f (rI0 fun i j=>.bl (g i j)):=by
 intro pins s σ H x y v u Q I rx ry h
 obtain ⟨i,j,rfl,rfl,q⟩:=h
 obtain ⟨t,rfl⟩:=rx
 obtain ⟨t',rfl⟩:=ry
 exact rule i j t t' s _ _ ⟨.bl (g i j),H,I,rfl,q⟩
def Hc (i j:Int):Prop:=0<j/\j<1073741824
def Nj (i j:Int):Prop:=0<=j/\j<=1000000/\i.natAbs<2 ^ 64
def Aq (i j:Int):Prop:=(-(2 ^ 64)<i/\i<2 ^ 64) \/ (-(2 ^ 64)<j/\j<2 ^ 64)
theorem Aq.ok {i j:Int}(h:Aq i j):IntMulOk i j:=by
 rcases h with ⟨h1,h2⟩ | ⟨h1,h2⟩
 ·exact .of_left (intBits_le_64 h1 h2)
 ·exact .of_right (intBits_le_64 h1 h2)
theorem jy:OpR X (gC .Add) (rI0 fun i j=>.int (i+j)):=Mt fun _ _ _ _ _ _ _ q=>add_int q
theorem wm:OpR X (gC .Sub) (rI0 fun i j=>.int (i - j)):=Mt fun _ _ _ _ _ _ _ q=>sub_int q
theorem xD:OpR X (gC .Mult) (rI Aq fun i j=>.int (i * j)):=opI fun _ _ _ _ _ _ _ hc q=>mul_int q hc.ok
theorem Xp:OpR X (gC .FloorDiv) (rI Hc fun i j=>.int (i / j)):=opI fun i j _ _ _ _ _ hc q=>by
 have h1:(0:Int)<j:=hc.1
 have h2:j<1073741824:=hc.2
 exact floordiv_int (by omega) (by rw [gW i (by omega)];exact q) (.inl (iZ (by omega)))
theorem kA:OpR X (gC .Mod) (rI (fun _ j=>0<j) fun i j=>.int (i % j)):=opI fun i j _ _ _ _ _ hc q=>by
 have h1:(0:Int)<j:=hc
 exact mod_int' (by omega) (by rw [gX i (by omega)];exact q)
theorem HB:OpR X (gC .Pow) (rI Nj fun i j=>.int (i ^ j.toNat)):=opI fun _ _ _ _ _ _ _ hc q=>pow_int_small hc.1 hc.2.1 hc.2.2 q
theorem unI {f:aj->Sem aj}{g:Int->Int}
  (rule:∀ (i:Int) (t:Tok) (s:az) (Q:aj->az->Prop) (E:aj->az->Prop),Q (.int (g i) s.toks) { s with toks:=s.toks+1 }->aS (aR X.prog X.w) X.A (f (.int i t)) Q E s) :
  UnR X f (rU fun i=>.int (g i)):=by
 intro pins s σ H x v Q I rx h
 obtain ⟨i,rfl,q⟩:=h
 obtain ⟨t,rfl⟩:=rx
 exact rule i t s _ _ ⟨.int (g i),H,I.tok _,⟨_,rfl⟩,q⟩
theorem Kk:UnR X (unaryOp .USub) (rU fun i=>.int (-i)):=unI fun _ _ _ _ _ q=>neg_int q
end
noncomputable def Nd:V->V->Bool
 | .non,.non=>true | .non,.int _=>true | .int _,.non=>true | .non,.bl _=>true | .bl _,.non=>true | .non,.str _=>true | .str _,.non=>true
 | .int _,.int _=>true | .bl _,.bl _=>true | .str _,.str _=>true | .byt _,.byt _=>true
 | .int _,.str _=>true | .str _,.int _=>true | .bl _,.str _=>true | .str _,.bl _=>true
 | _,_=>false
noncomputable def rEq:R2:=fun x y H Q=>Nd x y=true/\Q (.bl (decide (x=y))) H
theorem FD {i j:Int}:decide (V.int i=V.int j)=(i == j):=by
 rw [fJ]
 simp
theorem HC {i j:Bool}:decide (V.bl i=V.bl j)=(i == j):=by
 rw [fJ]
 simp
theorem FZ {i j:Str}:decide (V.str i=V.str j)=(i == j):=by
 rw [fJ]
 simp
theorem Ff {i j:Array UInt8}:decide (V.byt i=V.byt j)=(i.toList == j.toList):=by
 rw [fJ]
 cases i
 cases j
 simp
section
variable {X:Cx}{a b c:Expr}{ta tb tc:TE}{pos:Pos}
theorem qT {Q:VK}{k k':Bool}(I:Inv X pins σ H s)(q:Q (.bl k) H)(e:k=k'):EP X pins σ Q (.bool k') s:=by
 subst e
 exact ⟨.bl k,H,I,rfl,q⟩
theorem GW:OpR X (dC .Eq) rEq:=by
 intro pins s σ H x y v u Q I rx ry h
 obtain ⟨hs,q⟩:=h
 cases x with
 | non=>
  cases rx
  cases y with
  | non=>cases ry;exact PySem.EqNone.eq_none_none (qT I q (by simp))
  | bl j=>cases ry;exact PySem.EqNone.eq_none_bool (qT I q (by simp))
  | int j=>obtain ⟨t',rfl⟩:=ry;exact PySem.EqNone.eq_none_int (qT I q (by simp))
  | str j=>obtain ⟨t',rfl⟩:=ry;exact PySem.EqNone.eq_none_str (qT I q (by simp))
  | _=>exact absurd (show false=true from hs) bo
 | bl i=>
  cases rx
  cases y with
  | non=>cases ry;exact PySem.EqNone.eq_bool_none (qT I q (by simp))
  | bl j=>cases ry;exact eq_bool (qT I q HC)
  | str j=>obtain ⟨t',rfl⟩:=ry;exact PySem.EqMixed.eq_bool_str (qT I q (by simp))
  | _=>exact absurd (show false=true from hs) bo
 | int i=>
  obtain ⟨t,rfl⟩:=rx
  cases y with
  | non=>cases ry;exact PySem.EqNone.eq_int_none (qT I q (by simp))
  | int j=>obtain ⟨t',rfl⟩:=ry;exact eq_int (qT I q FD)
  | str j=>obtain ⟨t',rfl⟩:=ry;exact PySem.EqMixed.eq_int_str (qT I q (by simp))
  | _=>exact absurd (show false=true from hs) bo
 | str i=>
  obtain ⟨t,rfl⟩:=rx
  cases y with
  | non=>cases ry;exact PySem.EqNone.eq_str_none (qT I q (by simp))
  | bl j=>cases ry;exact PySem.EqMixed.eq_str_bool (qT I q (by simp))
  | int j=>obtain ⟨t',rfl⟩:=ry;exact PySem.EqMixed.eq_str_int (qT I q (by simp))
  | str j=>obtain ⟨t',rfl⟩:=ry;exact eq_str (qT I q FZ)
  | _=>exact absurd (show false=true from hs) bo
 | byt i=>
  obtain ⟨t,rfl⟩:=rx
  cases y with
  | byt j=>obtain ⟨t',rfl⟩:=ry;exact PySem.W.eq_bytes (qT I q Ff)
  | _=>exact absurd (show false=true from hs) bo
 | _=>cases y <;> exact absurd (show false=true from hs) bo
theorem G0:OpR X (dC .Lt) (rI0 fun i j=>.bl (decide (i<j))):=El fun _ _ _ _ _ _ _ q=>lt_int q
theorem GN:OpR X (dC .LtE) (rI0 fun i j=>.bl (decide (i<=j))):=El fun _ _ _ _ _ _ _ q=>le_int q
theorem Gr:OpR X (dC .Gt) (rI0 fun i j=>.bl (decide (j<i))):=El fun _ _ _ _ _ _ _ q=>gt_int q
theorem Mh:OpR X (dC .GtE) (rI0 fun i j=>.bl (decide (j<=i))):=El fun _ _ _ _ _ _ _ q=>ge_int q
theorem je:OpR X (dC .Is) (fun x y H Q=>y=.non/\Q (.bl (decide (x=.non))) H):=by
 intro pins s σ H x y v u Q I rx ry h
 obtain ⟨rfl,q⟩:=h
 cases ry
 refine is_none_gen (qT I q ?_)
 cases x <;> first
  | (cases rx;rfl)
  | (obtain ⟨t,rfl⟩:=rx;rfl)
theorem jx:OpR X (dC .IsNot) (fun x y H Q=>y=.non/\Q (.bl (!decide (x=.non))) H):=by
 intro pins s σ H x y v u Q I rx ry h
 obtain ⟨rfl,q⟩:=h
 cases ry
 refine isnot_none_gen (qT I q ?_)
 cases x <;> first
  | (cases rx;rfl)
  | (obtain ⟨t,rfl⟩:=rx;rfl)
variable {op:nu}
theorem zq (b:Expr) (h:op ≠ .In:=by decide)(h2:op ≠ .NotIn:=by decide):eP op b=false:=by
 have e1:(op == nu.In)=false:=by cases op <;> first | rfl | exact absurd rfl h
 have e2:(op == nu.NotIn)=false:=by cases op <;> first | rfl | exact absurd rfl h2
 cases b <;> simp [eP,e1,e2]
variable {r:R2}
theorem kS (ho:OpR X (dC op) r)(ha:PE X a ta)(hb:PE X b tb)(hm:eP op b=false):PE X (.Compare a [op] [b] pos) (tOp r ta tb):=by
 intro pins s σ H Q I h
 exact wpAny_Compare1 (LD ha hb I h fun v u s2 x y H2 I2 rx ry q=>ho pins s2 σ H2 x y v u Q I2 rx ry q) hm
noncomputable def Dn (t:TE):TT:=fun σ H Q=>t σ H fun x H'=>∃ k,x=.bl k/\Q k H'
theorem zo (ho:OpR X (dC op) r)(ha:PE X a ta)(hb:PE X b tb)(hm:eP op b=false):PT X (.Compare a [op] [b] pos) (Dn (tOp r ta tb)):=by
 intro pins s σ H Q I h
 refine wpAny_isTrue_Compare1 (thn (ha pins s σ H _ I h) fun v s1 ⟨x,H1,I1,r1,q1⟩=>thn (hb pins s1 σ H1 _ I1 q1) fun u s2 ⟨y,H2,I2,r2,q2⟩=>
  thn (ho pins s2 σ H2 x y v u _ I2 r1 r2 q2) fun c s3 ⟨z,H3,I3,r3,k,e,q3⟩=>?_) hm
 subst e
 cases r3
 exact dE ⟨H3,I3,q3⟩
noncomputable def B1 (r r':R2)(ta tb tc:TE):TE:=fun σ H Q=>ta σ H fun x H1=>tb σ H1 fun y H2=>r x y H2 fun z H3=>∃ k,z=.bl k /\
 (if k=true then tc σ H3 fun w' H4=>r' y w' H4 Q else Q (.bl false) H3)
theorem Jg {op op':nu}{r r':R2}(ho:OpR X (dC op) r)(ho':OpR X (dC op') r')(ha:PE X a ta)(hb:PE X b tb)(hc:PE X c tc)
  (hm:lastMarks [op,op'] [b,c]=false:=by with_unfolding_all rfl):PE X (.Compare a [op,op'] [b,c] pos) (B1 r r' ta tb tc):=by
 intro pins s σ H Q I h
 refine Compare_chain (thn (ha pins s σ H _ I h) fun v s1 ⟨x,H1,I1,r1,q1⟩=>chain_link (thn (hb pins s1 σ H1 _ I1 q1) fun u s2 ⟨y,H2,I2,r2,q2⟩=>
  thn (ho pins s2 σ H2 x y v u _ I2 r1 r2 q2) fun d s3 ⟨z,H3,I3,r3,k,e,q3⟩=>?_)) hm
 subst e
 cases r3
 refine dE ?_
 cases k with
 | false=>exact ite_ff ⟨.bl false,H3,I3,rfl,q3⟩
 | true=>exact ite_tt (chain_last (thn (hc pins s3 σ H3 _ I3 q3) fun w' s4 ⟨z',H4,I4,r4,q4⟩=>ho' pins s4 σ H4 y z' u w' Q I4 r2 r4 q4))
theorem wr:(aQ:Nat)<2 ^ 63:=by rw [cH];decide
theorem xF {x:V}{us:List aj}(r:zJ [x] us):∃ u,us=[u]/\zG x u:=by
 cases r with
 | cons r1 r2=>cases r2;exact ⟨_,rfl,r1⟩
theorem Jv {x y:V}{us:List aj}(r:zJ [x,y] us):∃ u w',us=[u,w']/\zG x u/\zG y w':=by
 cases r with
 | cons r1 r2=>
  cases r2 with
  | cons r3 r4=>cases r4;exact ⟨_,_,rfl,r1,r3⟩
theorem QV:jM X (.builtin "abs") (fun xs H Q=>∃ i,xs=[.int i]/\Q (.int (if i<0 then -i else i)) H):=by
 intro pins s σ H xs us Q I r h
 obtain ⟨i,rfl,q⟩:=h
 obtain ⟨u,rfl,t,rfl⟩:=xF r
 exact call_abs_int fun u tk=>⟨.int (if i<0 then -i else i),H,I.tok _,⟨_,rfl⟩,q⟩
theorem Zk (hc:X.calm=true):jM X (.builtin "max") (fun xs H Q=>∃ i j,xs=[.int i,.int j]/\Q (.int (if j > i then j else i)) H):=by
 intro pins s σ H xs us Q I r h
 obtain ⟨i,j,rfl,q⟩:=h
 obtain ⟨u,w',rfl,⟨t,rfl⟩,⟨t',rfl⟩⟩:=Jv r
 refine max_two_ints (I.ok.hd hc) fun h' tk k=>⟨_,H,I.kept k,?_,q⟩
 by_cases hj:j > i
 ·rw [if_pos hj,if_pos hj];exact ⟨_,rfl⟩
 ·rw [if_neg hj,if_neg hj];exact ⟨_,rfl⟩
theorem YQ:jM X (.type "int") (fun xs H Q=>(∃ i,xs=[.int i]/\Q (.int i) H) \/ ∃ k,xs=[.bl k]/\Q (.int (if k then 1 else 0)) H):=by
 intro pins s σ H xs us Q I r h
 rcases h with ⟨i,rfl,q⟩ | ⟨k,rfl,q⟩
 ·obtain ⟨u,rfl,t,rfl⟩:=xF r
  exact call_int_int ⟨.int i,H,I,⟨_,rfl⟩,q⟩
 ·obtain ⟨u,rfl,r1⟩:=xF r
  cases r1
  exact call_int_bool ⟨.int (if k then 1 else 0),H,I.tok _,⟨_,rfl⟩,q⟩
theorem Jo:jM X (.builtin "divmod") (fun xs H Q=>∃ i j,xs=[.int i,.int j]/\Hc i j/\∀ p,H p=none->Q (.ref p) (upd H p (.tup [.int (i / j),.int (i % j)]))):=by
 intro pins s σ H xs us Q I r h
 obtain ⟨i,j,rfl,⟨h1,h2⟩,q⟩:=h
 obtain ⟨u,w',rfl,⟨t,rfl⟩,⟨t',rfl⟩⟩:=Jv r
 refine divmod_int (by omega) ?_ (.inl (iZ (by omega)))
 rw [gW i (by omega),gX i (by omega)]
 have hn:H s.heap.objs.size=none:=I.hok.fresh (aM _)
 refine ⟨.ref s.heap.objs.size,_,?_,rfl,q _ hn⟩
 refine I.laid (fun b o e=>aE _ e) (aM _) ⟨by simp only [ba,fK];rw [cH];decide,[.int (i / j) s.toks,.int (i % j) (s.toks+1)],.cons ⟨_,rfl⟩ (.cons ⟨_,rfl⟩ .nil),?_⟩
 exact ⟨_,bc s.heap rfl,rfl,⟨0,rfl⟩,rfl⟩
end
structure Xh (h:Heap)(x dx C:ay)(mA:Str->Option aj):Prop where
 obj:h.get? x=some (dL C dx)
 ns:h.Ns1 dx mA
 ne:dx ≠ x
variable {mA:Str->Option aj}
theorem y8 {h:Heap}{dx:ay} (n:h.Ns1 dx mA):∃ od,h.get? dx=some od/\∀ name,fW name od=some (mA name):=by
 obtain ⟨o,es,ep,ho,hd,hk,_,hm⟩:=n
 refine ⟨o,ho,fun name=>?_⟩
 have e:=hm name
 unfold nsFind findBy at e
 rw [<- lW] at e
 unfold fW
 rw [hd]
 dsimp only
 split
 ·rename_i y q
  rw [q] at e
  exact congrArg some e
 ·rename_i q
  rw [q] at e
  have a:es.toList.any (·.refKey)=false:=by
   rw [List.any_eq_false]
   intro y hy
   obtain ⟨z,t,hkey⟩:=hk y (lv.mp hy)
   simp [DictEntry.refKey,hkey]
  have a':¬ es.toList.any (·.refKey)=true:=by rw [a];exact bo
  rw [if_neg a']
  exact congrArg some e
theorem Xh.look {h:Heap}{x dx C:ay} (I:Xh h x dx C mA):∃ od,PySem.W.InstAt h x (dL C dx) C (some od)/\∀ name,fW name od=some (mA name):=
 let ⟨od,ho,hl⟩:=y8 I.ns
 ⟨od,⟨I.obj,rfl,rfl,ho⟩,hl⟩
section
variable {prog:aX}{w:bu}{A:bg}{E:aj->az->Prop}{s:az}{K:aA}{x dx C f:ay}{mA:Str->Option aj}{name:Str}{v:aj}
theorem Ed {expr:Bool}{Q:aj->az->Prop}(X:K.In s.heap)(I:Xh s.heap x dx C mA)(hg:fh K C name=true)(hh:ci K C=true)
  (ha:aT K (.ref C) name=some none) (hv:mA name=some v) (hv':iG v=true) (h:Q v { s with toks:=s.toks+1 }) :
  aS (aR prog w) A (nl (.ref x) name expr) Q E s:=by
 obtain ⟨od,J,hl⟩:=I.look
 exact PySem.W.get_value X J (gM hg).1 (lM hh ha rfl (by rw [hl,hv])) hv' h
theorem Bm {pl:Sem Bool}{Q:aj × List aj->az->Prop}(X:K.In s.heap)(I:Xh s.heap x dx C mA)(hg:fh K C name=true)
  (hf:aT K (.ref C) name=some (some (.ref f))) (ht:cQ K (.ref f)=true) (hv:mA name=none) (h:Q (.ref f,[.ref x]) s) :
  aS (aR prog w) A (getMethod (.ref x) name pl) Q E s:=by
 obtain ⟨od,J,hl⟩:=I.look
 exact PySem.W.method_fn X J (gM hg).1 (gM hg).2 hf (beq_iff_eq.mp ht) (by show (fW name od).map (·.isSome)=some false;rw [hl,hv];rfl) h
theorem Qy {ns:List Str}{Q:Unit->az->Prop}(X:K.In s.heap)(I:Xh s.heap x dx C mA)
  (hs:aT K (.ref C) "__setattr__"=some (some (.builtin "object.__setattr__"))) (hp:ig K C=true) (ht:lh K C name=some none) (hh:ci K C=true)
  (hw:gP mA ns) (hsz:ns.length<=aQ)
  (h:∀ h',Xh h' x dx C (fun y=>if y=name then some v else mA y)->bX dx s.heap h'->Q () { s with heap:=h',toks:=s.toks+2 }) :
  aS (aR prog w) A (setAttr (.ref x) name v) Q E s:=by
 obtain ⟨od,J,hl⟩:=I.look
 refine ii X J hs (PySem.W.osa_open (s:={ s with toks:=s.toks+1 }) (r:=none) X J hp ht fun b=>?_)
 obtain ⟨cd,hc,hd'⟩:=gm hh
 have hx:s.heap.get? x=some ⟨.ref C,some dx,.plain,#[]⟩:=I.obj
 refine aq (aL (aq (aq (gY hx (aq (eQ.here (s:={ s with toks:=s.toks+1 }) (fz X hc) ?_))))))
 rw [hd']
 refine aL (a:=some dx) (aq (aL (aq ?_)))
 refine mz (s:={ s with toks:=s.toks+1 }) I.ns fun h' hn2 hs2=>?_
 obtain ⟨oD,esD,epD,hoD,hdD,hcD⟩:=hn2.count (gP.cons name v hw)
 refine aq (iH hoD (by rw [hdD];exact iI (bz hcD (by rw [ba];omega))) ?_)
 exact aL (h _ ⟨(hs2.2 _ (Ne.symm I.ne)).trans I.obj,hn2,I.ne⟩ hs2)
theorem Wk {R:mT->az->Prop}{vs:List aj}{kw:List (Str × aj)}(X:K.In s.heap)(hm:li K C=true)
  (hi:aT K (.ref C) "__init__"=some (some (.ref f))) (hf:PySem.W.typeIn K (.ref f)=some (.type "function"))
  (h:fL (aR prog w) (A.under (.builtin "type.__call__" ⟨.ref C :: vs,kw⟩)) (.call (.ref f) ⟨.ref (s.heap.objs.size+1) :: vs,kw⟩) (PySem.W.InitBack (s.heap.objs.size+1) R)
   { s with heap:=(s.heap.push cI).push (dL C s.heap.objs.size) }) :
  fL (aR prog w) A (.call (.ref C) ⟨vs,kw⟩) R s:=by
 obtain ⟨hh,g,d,t,os⟩:=s
 exact PySem.W.make_core (PySem.W.makes_of X hm) (e7 X hi) (fun self=>PySem.W.bind_fn X self hf) (.inl rfl) h
end
noncomputable def jQ (f:Str)(v:V):List (Str × V)->List (Str × V)
 | []=>[(f,v)]
 | (g,x) :: r=>if g=f then (g,v) :: r else (g,x) :: jQ f v r
theorem kq (f g:Str)(v:V):∀ fs:List (Str × V),(jQ f v fs).lookup g=if g=f then some v else fs.lookup g
 | []=>by
  show bP g [(f,v)]=_
  by_cases h:g=f
  ·have hb:(g == f)=true:=beq_iff_eq.mpr h
   simp only [bP,hb,if_pos h]
  ·have hb:(g == f)=false:=beq_eq_false_iff_ne.mpr h
   simp only [bP,hb,if_neg h]
 | (k,x) :: r=>by
  have ih:=kq f g v r
  rw [show jQ f v ((k,x) :: r)=(if k=f then (k,v) :: r else (k,x) :: jQ f v r) from rfl]
  by_cases hk:k=f
  ·rw [if_pos hk]
   by_cases h:g=k
   ·have hb:(g == k)=true:=beq_iff_eq.mpr h
    simp only [bP,hb,if_pos (h.trans hk)]
   ·have hb:(g == k)=false:=beq_eq_false_iff_ne.mpr h
    simp only [bP,hb,if_neg (fun e:g=f=>h (e.trans hk.symm))]
  ·rw [if_neg hk]
   by_cases h:g=k
   ·have hb:(g == k)=true:=beq_iff_eq.mpr h
    simp only [bP,hb,if_neg (fun e:g=f=>hk (h.symm.trans e))]
   ·have hb:(g == k)=false:=beq_eq_false_iff_ne.mpr h
    simp only [bP,hb]
    exact ih
theorem kF (f:Str)(v:V):∀ fs:List (Str × V),f ∈ (jQ f v fs).map (·.1)/\∀ g,g ∈ fs.map (·.1)->g ∈ (jQ f v fs).map (·.1)
 | []=>⟨by simp [jQ],fun g h=>by simp at h⟩
 | (k,x) :: r=>by
  obtain ⟨i1,i2⟩:=kF f v r
  rw [show jQ f v ((k,x) :: r)=(if k=f then (k,v) :: r else (k,x) :: jQ f v r) from rfl]
  by_cases hk:k=f
  ·rw [if_pos hk]
   subst hk
   exact ⟨by simp,fun g h=>by simpa using h⟩
  ·rw [if_neg hk]
   refine ⟨?_,fun g h=>?_⟩
   ·rw [bQ]
    exact bj _ i1
   ·rw [bQ] at h ⊢
    rcases aF.mp h with e | e
    ·exact aF.mpr (.inl e)
    ·exact bj _ (i2 g e)
theorem vg (f:Str)(v:V):∀ fs:List (Str × V),(jQ f v fs).length<=fs.length+1
 | []=>by simp [jQ]
 | (k,x) :: r=>by
  have ih:=vg f v r
  rw [show jQ f v ((k,x) :: r)=(if k=f then (k,v) :: r else (k,x) :: jQ f v r) from rfl]
  by_cases hk:k=f
  ·rw [if_pos hk,ba,ba];omega
  ·rw [if_neg hk,ba,ba];omega
theorem xU.some_of {v:V}{o:Option aj}(r:xU (some v) o):∃ u,o=some u/\zG v u:=by
 cases o with
 | none=>exact (show False from r).elim
 | some u=>exact ⟨u,rfl,r⟩
theorem xU.none_of {o:Option aj}(r:xU none o):o=none:=by
 cases o with
 | none=>rfl
 | some u=>exact (show False from r).elim
theorem yT {v:V}{u:aj}(r:zG v u):iG u=true:=by
 cases v with
 | non=>cases (show u=aj.none from r);rfl
 | bl b=>cases (show u=aj.bool b from r);rfl
 | int i=>obtain ⟨t,e⟩:=(show ∃ t,u=aj.int i t from r);cases e;rfl
 | str x=>obtain ⟨t,e⟩:=(show ∃ t,u=aj.str x t from r);cases e;rfl
 | byt b=>obtain ⟨t,e⟩:=(show ∃ t,u=aj.bytes b t from r);cases e;rfl
 | flt b=>obtain ⟨t,e⟩:=(show ∃ t,u=aj.float b t from r);cases e;rfl
 | ref a=>cases (show u=aj.ref a from r);rfl
 | ty n=>cases (show u=aj.type n from r);rfl
section
variable {P:aX}{w:bu}{H H':Hp}{h h':Heap}{a C dx:ay}{fs fs':List (Str × V)}
theorem vT (hok:HOk P w H h)(e:H a=some (.ins C dx fs)):∃ mA,Xh h a dx C mA/\(∀ f,xU (fs.lookup f) (mA f))/\gP mA (fs.map (·.1))/\fs.length<=1000/\H dx=some (.own a):=by
 obtain ⟨d,z,ne,ob,mA,n,r,q⟩:=(show zS P w H h a (.ins C dx fs) from hok a _ e)
 exact ⟨mA,⟨ob,n,ne⟩,r,q,z,d⟩
end
structure Cls (K:aA)(C:ay):Prop where
 pg:fh K C Str.empty=true
 hd:ci K C=true
 po:ig K C=true
 sa:aT K (.ref C) "__setattr__"=some (some (.builtin "object.__setattr__"))
variable {C:ay}
theorem Cls.get (c:Cls K C)(f:Str):fh K C f=true:=c.pg
def j8 (K:aA)(C:ay)(f:Str):Prop:=aT K (.ref C) f=some none
variable {f:Str}
theorem j8.taker (n:j8 K C f):lh K C f=some none:=by
 unfold lh
 rw [show aT K (.ref C) f=some none from n]
 rfl
structure Con (K:aA)(C:ay)(f:Str)(v:V)(u:aj):Prop where
 at_:aT K (.ref C) f=some (some u)
 rel:zG v u
 get:eW K u "__get__"=some none
 cp:PySem.W.copiedNames.contains f=false
structure KZ (K:aA)(C:ay)(m:Str)(f:ay):Prop where
 at_:aT K (.ref C) m=some (some (.ref f))
 fn:cQ K (.ref f)=true
 kp:de K (.ref f)=true
section
variable {X:Cx}{pins:List (ay × Obj)}{σ:St}{H:Hp}{s:az}{a C dx:ay}{fs:List (Str × V)}{f:Str}{v:V}{A:bg}{E:aj->az->Prop}
variable {Q:aj->az->Prop}
theorem Xj {b:Bool} (I:Inv X pins σ H s)(e:H a=some (.ins C dx fs))(c:Cls X.K C)(n:j8 X.K C f)(l:fs.lookup f=some v)
  (h:∀ u s',Inv X pins σ H s'->zG v u->Q u s'):aS (aR X.prog X.w) A (nl (.ref a) f b) Q E s:=by
 obtain ⟨mA,O,r,_,_,_⟩:=vT I.hok e
 obtain ⟨u,hu,ru⟩:=xU.some_of (v:=v) (o:=mA f) (by rw [<- l];exact r f)
 exact Ed I.kIn O (c.get f) c.hd n hu (yT ru) (h u _ (I.tok _) ru)
theorem kT {m:Str}{g:ay}{pl:Sem Bool}{Q:aj × List aj->az->Prop}(I:Inv X pins σ H s)(e:H a=some (.ins C dx fs))(c:Cls X.K C)(k:KZ X.K C m g)(l:fs.lookup m=none)
  (h:Q (.ref g,[.ref a]) s):aS (aR X.prog X.w) A (getMethod (.ref a) m pl) Q E s:=by
 obtain ⟨mA,O,r,_,_,_⟩:=vT I.hok e
 have hn:mA m=none:=xU.none_of (by rw [<- l];exact r m)
 exact Bm I.kIn O (c.get m) k.at_ k.fn hn h
theorem K3 {y:V}{u:aj}{Q:Unit->az->Prop}(I:Inv X pins σ H s)(e:H a=some (.ins C dx fs))(c:Cls X.K C)(n:j8 X.K C f)(hl:fs.length<1000)(ry:zG y u)
  (h:∀ s',Inv X pins σ (upd H a (.ins C dx (jQ f y fs))) s'->Q () s'):aS (aR X.prog X.w) A (setAttr (.ref a) f u) Q E s:=by
 obtain ⟨mA,O,r,wi,_,ho⟩:=vT I.hok e
 have hz:(fs.map (·.1)).length<=aQ:=by rw [aw,cH];omega
 refine Qy I.kIn O c.sa c.po n.taker c.hd wi hz fun h' O' sb=>h _ ?_
 have hd:∃ o,h'.get? dx=some o:=let ⟨o,_,_,e',_⟩:=O'.ns;⟨o,e'⟩
 refine I.write (x:=a) (e:=dx) (by rw [e];exact True.intro) (.inr ho) (fun b q hb z=>(sb.2 b hb).trans z) hd ?_
 refine ⟨by rw [zj O.ne];exact ho,?_,O.ne,O'.obj,_,O'.ns,fun g=>?_,fun g hg=>?_⟩
 ·have:=vg f y fs;omega
 ·show xU ((jQ f y fs).lookup g) (if g=f then some u else mA g)
  rw [kq]
  by_cases q:g=f
  ·rw [if_pos q,if_pos q];exact ry
  ·rw [if_neg q,if_neg q];exact r g
 ·by_cases q:g=f
  ·rw [q];exact (kF f y fs).1
  ·refine (kF f y fs).2 g (wi g fun z=>hg ?_)
   show (if g=f then some u else mA g)=none
   rw [if_neg q];exact z
theorem Inv.made (I:Inv X pins σ H s):Inv X pins σ (upd (upd H s.heap.objs.size (.own (s.heap.objs.size+1))) (s.heap.objs.size+1) (.ins C s.heap.objs.size []))
  { s with heap:=(s.heap.push cI).push (dL C s.heap.objs.size) }:=by
 have e1:(s.heap.push cI).get? s.heap.objs.size=some cI:=bc s.heap rfl
 have e2:((s.heap.push cI).push (dL C s.heap.objs.size)).get? (s.heap.objs.size+1)=some (dL C s.heap.objs.size):=by
  have:=bc (s.heap.push cI) (o:=dL C s.heap.objs.size) rfl
  rwa [dz] at this
 have e3:(s.heap.push cI).Ns s.heap.objs.size (fun _=>none):=⟨cI,#[],_,e1,rfl,(fun e he=>absurd he (by simp)),fun _=>rfl⟩
 have I1:=I.laid (a:=s.heap.objs.size) (o:=.own (s.heap.objs.size+1)) (h':=s.heap.push cI) (t':=s.toks) (fun b u q=>aE _ q) (aM _) ⟨_,e1⟩
 refine I1.laid (a:=s.heap.objs.size+1) (o:=.ins C s.heap.objs.size []) (t':=s.toks) (fun b u q=>aE _ q) (mB (dz _ _)) ?_
 have ne:s.heap.objs.size ≠ s.heap.objs.size+1:=bq (mU _)
 refine ⟨by rw [zj ne,zl],cV _,ne,e2,fun _=>none,(Heap.Ns1.of_empty e3).at fun o q=>aE _ q,fun _=>True.intro,fun y hy=>absurd rfl hy⟩
theorem Z5 {prog:aX} {env:Env} {pos:Pos} (hb:dS e f env (eval e env)=eval e env)
  (h:aS (aR prog w) A (eval e env) (fun o s₁=>aS (aR prog w) A (nl o f true) Q E s₁) E s):aS (aR prog w) A (eval (.Attribute e f pos) env) Q E s:=
 Attribute_any_ h (by rw [arm_eval_Attribute,hb])
end
noncomputable def Iz (K:aA)(ta:TE)(f:Str):TE:=fun σ H Q=>ta σ H fun x H1=>∃ a C dx fs v,x=.ref a/\H1 a=some (.ins C dx fs)/\Cls K C/\j8 K C f/\fs.lookup f=some v/\Q v H1
noncomputable def EQ (K:aA)(ta tv:TE)(f:Str):TS:=fun D σ H=>tv σ H fun y H1=>ta σ H1 fun x H2=>∃ a C dx fs,x=.ref a/\H2 a=some (.ins C dx fs)/\Cls K C/\j8 K C f/\fs.length<1000 /\
 D.nx σ (upd H2 a (.ins C dx (jQ f y fs)))
section
variable {X:Cx}{o e value:Expr}{f:Str}{pos pos' tpos:Pos}{ta tv:TE}
theorem qg (he:PE X e ta)(hb:dS e f X.env (eval e X.env)=eval e X.env):PE X (.Attribute e f pos) (Iz X.K ta f):=by
 intro pins s σ H Q I h
 refine Z5 hb (thn (he pins s σ H _ I h) fun u s1 ⟨x,H1,I1,rx,a,C,dx,fs,v,ex,ea,c,n,l,q⟩=>?_)
 subst ex
 obtain rfl:u=aj.ref a:=rx
 exact Xj I1 ea c n l fun u' s2 I2 ru=>⟨v,H1,I2,ru,q⟩
theorem xj (ha:PE X o ta)(hv:PE X value tv)(hs:lI value (some (.Attribute o f pos')) pos.line X.env=pure false):PS X (.Assign [.Attribute o f pos'] value pos) (EQ X.K ta tv f):=by
 intro pins s σ H D I h
 refine gl (thn (hv pins s σ H _ I h) fun u s1 ⟨y,H1,I1,ry,q⟩=>thn (ha pins s1 σ H1 _ I1 q) fun ov s2 ⟨x,H2,I2,rx,a,C,dx,fs,ex,ea,c,n,l,q2⟩=>?_) hs
 subst ex
 obtain rfl:ov=aj.ref a:=rx
 exact K3 I2 ea c n l ry fun s3 I3=>⟨σ,_,I3,q2⟩
theorem Gy {pl:Sem Bool}{m:Str}{apos:Pos}{args:List Expr} {Q:aj->az->Prop}{te:TE}(he:PE X e te)(I:Inv X pins σ H s)
  (h:te σ H fun x H1=>∃ a C dx fs g,x=.ref a/\H1 a=some (.ins C dx fs)/\Cls X.K C/\KZ X.K C m g/\fs.lookup m=none /\
   ∀ s1,Inv X pins σ H1 s1->aS (aR X.prog X.w) X.A (gD pos (.ref g) [.ref a] (b9 pos (aO args X.env)) (fF pos (dU [] X.env))) Q X.xe s1)
  (ht:eval (.Call (.Attribute e m apos) args [] pos) X.env=(do
   let ov <- eval e X.env
   iX apos.atName
   let (f,first) <- holding [ov] (getMethod ov m pl)
   gD pos f first (b9 pos (aO args X.env)) (fF pos (dU [] X.env)))) :
  aS (aR X.prog X.w) X.A (eval (.Call (.Attribute e m apos) args [] pos) X.env) Q X.xe s:=by
 refine eS (pl:=pl) (thn (he pins s σ H _ I h) fun u s1 ⟨x,H1,I1,rx,a,C,dx,fs,g,ex,ea,c,k,l,q⟩=>?_) ht
 subst ex
 obtain rfl:u=aj.ref a:=rx
 exact kT I1 ea c k l (q s1 I1)
end
section
variable {X:Cx}{pins:List (ay × Obj)}{σ:St}{H:Hp}{s:az}{A:bg}{E:aj->az->Prop}{Q:aj->az->Prop}{c:aj}{b:Bool}
inductive xg (K:aA) (H:Hp):V->aj->Prop where
  | non:xg K H .non (.type "NoneType")
  | bl (x:Bool):xg K H (.bl x) (.type "bool")
  | int (i:Int):xg K H (.int i) (.type "int")
  | str (x:Str):xg K H (.str x) (.type "str")
  | flt (x:UInt64):xg K H (.flt x) (.type "float")
  | lst {a:ay} {xs:List V} (e:H a=some (.lst xs)):xg K H (.ref a) (.type "list")
  | frz {a:ay} {o:Obj} {xs:List V} (e:H a=some (.frz o (.lst xs))):xg K H (.ref a) (.type "list")
  | tup {a:ay} {xs:List V} (e:H a=some (.tup xs)):xg K H (.ref a) (.type "tuple")
  | dK {a:ay} {kvs:List (Key × V)} (e:H a=some (.dK kvs)):xg K H (.ref a) (.type "dict")
  | dT {a:ay} {kvs:List (List Key × V)} (e:H a=some (.dT kvs)):xg K H (.ref a) (.type "dict")
  | ins {a C dx : ay} {fs : List (Str × V)} (e : H a = some (.ins C dx fs)) (cl : Cls K C) (ha : aT K (.ref C) "__class__" = some (some (.builtin "object.__class__")))
      (hn:eW K (.builtin "object.__class__") "__get__"=some (some (.builtin "getset_descriptor.__get__"))) (htk:gH K (.builtin "object.__class__")=some true)
      (hm:iu K C (.type "object")=some true):xg K H (.ref a) (.ref C)
theorem VQ {x:V}{u t:aj}(I:Inv X pins σ H s)(rx:zG x u)(ty:xg X.K H x t)(e:gZ X.K t c=some b)(h:∀ tk,Q (.bool b) { s with toks:=tk }) :
  aS (aR X.prog X.w) A (call (.builtin "isinstance") [u,c]) Q E s:=by
 cases ty with
 | non=>cases (show u=aj.none from rx);exact cc mC I.kIn True.intro e (fun z=>nomatch z) h
 | bl y=>cases (show u=aj.bool y from rx);exact cc mD I.kIn True.intro e (fun z=>nomatch z) h
 | int i=>obtain ⟨t,q⟩:=(show ∃ t,u=aj.int i t from rx);cases q;exact cc mV I.kIn True.intro e (fun z=>nomatch z) h
 | str y=>obtain ⟨t,q⟩:=(show ∃ t,u=aj.str y t from rx);cases q;exact cc mW I.kIn True.intro e (fun z=>nomatch z) h
 | flt y=>obtain ⟨t,q⟩:=(show ∃ t,u=aj.float y t from rx);cases q;exact cc lX I.kIn True.intro e (fun z=>nomatch z) h
 | @lst a xs ea=>
  cases (show u=aj.ref a from rx)
  obtain ⟨_,_,n,_,h1⟩:=(show zS X.prog X.w H s.heap a (.lst xs) from I.hok a _ ea)
  exact cc fX I.kIn ⟨_,h1,rfl⟩ e (fun z=>nomatch z) h
 | @frz a ob xs ea=>
  cases (show u=aj.ref a from rx)
  obtain ⟨_,_,_,n,_,h1⟩:=(show zS X.prog X.w H s.heap a (.frz ob (.lst xs)) from I.hok a _ ea)
  exact cc fX I.kIn ⟨_,h1,rfl⟩ e (fun z=>nomatch z) h
 | @tup a xs ea=>
  cases (show u=aj.ref a from rx)
  obtain ⟨_,_,_,p⟩:=(show zS X.prog X.w H s.heap a (.tup xs) from I.hok a _ ea)
  obtain ⟨o,h1,h2,_⟩:=p
  exact cc lY I.kIn ⟨o,h1,h2⟩ e (fun z=>nomatch z) h
 | @dK a kvs ea=>
  cases (show u=aj.ref a from rx)
  obtain ⟨_,_,vs,_,p⟩:=(show zS X.prog X.w H s.heap a (.dK kvs) from I.hok a _ ea)
  obtain ⟨o,es,ep,h1,h2,_⟩:=p
  exact cc fY I.kIn ⟨o,h1,h2.1⟩ e (fun z=>nomatch z) h
 | @dT a kvs ea=>
  cases (show u=aj.ref a from rx)
  obtain ⟨_,_,xs,_,o,es,ep,h1,h2,_⟩:=(show zS X.prog X.w H s.heap a (.dT kvs) from I.hok a _ ea)
  exact cc fY I.kIn ⟨o,h1,h2.1⟩ e (fun z=>nomatch z) h
 | @ins a C dx fs ea cl ha hn htk hm=>
  cases (show u=aj.ref a from rx)
  obtain ⟨mA,O,_⟩:=vT I.hok ea
  obtain ⟨od,J,_⟩:=O.look
  exact cc (PySem.W.kitx_own (cl.get _) cl.hd ha hn htk hm) I.kIn J e (fun z=>nomatch z) h
end
structure qu (k:Nat)(A:bg):Prop where
 hd:A.handled=none
 gd:A.guards=some []
 dp:A.depth+3 * k+5<fZ
 un:A.units+16 * k+200<g0
theorem qu.mono {j k:Nat} (r:qu k A)(h:j<=k):qu j A:=⟨r.hd,r.gd,by have:=r.dp;omega,by have:=r.un;omega⟩
theorem qu.deeper {k:Nat} (r:qu (k+1) A)(env:Env):qu k (A.deeper env):=
 ⟨r.hd,r.gd,by have:=r.dp;show A.depth+1+3 * k+5<_;omega,by have:=r.un;show A.units+3+16 * k+200<_;omega⟩
variable {kw:List (Str × aj)}
theorem v9:(A.under (.builtin "type.__call__" ⟨.ref C :: us,kw⟩)).depth=A.depth+1:=by
 first | rfl | simp [bg.under,mE.weight,mE.isCreation,mE.isGuard,mE.isCaller,mE.frames,mE.isFrame,guardIds]
theorem wV:(A.under (.builtin "type.__call__" ⟨.ref C :: us,kw⟩)).units=A.units+1:=by
 first | rfl | simp [bg.under,mE.cUnits,mE.frames,mE.isFrame]
theorem vm:(A.under (.builtin "type.__call__" ⟨.ref C :: us,kw⟩)).guards=A.guards:=by
 first | rfl | (simp [bg.under,mE.guards,pushGuards,mE.isGuard,guardIds])
theorem qu.make {k:Nat} (r:qu (k+1) A)(C:ay)(us:List aj)(kw:List (Str × aj)):qu k (A.under (.builtin "type.__call__" ⟨.ref C :: us,kw⟩)):=
 ⟨r.hd,(vm).trans r.gd,by have:=r.dp;rw [v9];omega,by have:=r.un;rw [wV];omega⟩
theorem qu.depth {k:Nat} (r:qu k A):A.depth<fZ:=by have:=r.dp;omega
theorem qu.units {k:Nat} (r:qu k A):A.units+64<g0:=by have:=r.un;omega
noncomputable def Vu:TA:=fun _ H Q=>Q [] H
noncomputable def Ji (ta:TE)(tr:TA):TA:=fun σ H Q=>ta σ H fun x H1=>tr σ H1 fun xs H2=>Q (x :: xs) H2
section
variable {X:Cx}{e:Expr}{es:List Expr}{te:TE}{t:TA}{pos:Pos}
theorem zb:PA X [] Vu:=fun _ _ _ _ H Q I h=>eX ⟨[],H,I,.nil,h⟩
theorem za (ha:PE X e te)(hr:PA X es t)(hs:aO (e :: es) X.env=(false,eval e X.env) :: aO es X.env:=by rfl):PA X (e :: es) (Ji te t):=by
 intro pos pins s σ H Q I h
 rw [hs]
 show aS _ _ (spliced ((false,eval e X.env) :: b9 pos (aO es X.env))) _ _ s
 refine dY (thn (ha pins s σ H _ I h) fun u s1 ⟨x,H1,I1,r1,q1⟩=>?_)
 exact thn (hr pos pins s1 σ H1 _ I1 q1) fun us s2 ⟨xs,H2,I2,r2,q2⟩=>⟨x :: xs,H2,I2,.cons r1 r2,q2⟩
noncomputable def WQ (t:TA):TE:=fun σ H Q=>t σ H fun xs H1=>xs.length<=aQ/\∀ p,H1 p=none->Q (.ref p) (upd H1 p (.tup xs))
noncomputable def Im (t:TA):TE:=fun σ H Q=>t σ H fun xs H1=>xs.length<=aQ/\∀ p,H1 p=none->Q (.ref p) (upd H1 p (.lst xs))
theorem zD {x1}(h:PA X es t):PE X (.Tuple es x1 pos) (WQ t):=by
 intro pins s σ H Q I hq
 refine wpAny_Tuple_spliced (thn (h pos pins s σ H _ I hq) fun us s1 ⟨xs,H1,I1,r,z,q⟩=>⟨by rw [<- r.length];exact z,?_⟩)
 have hf:H1 s1.heap.objs.size=none:=I1.hok.fresh (aM _)
 refine ⟨.ref s1.heap.objs.size,upd H1 s1.heap.objs.size (.tup xs),I1.laid (t':=s1.toks) (fun b u e=>aE _ e) (aM _) ?_,rfl,q _ hf⟩
 exact ⟨z,us,r,⟨_,bc _ rfl,rfl,⟨_,rfl⟩,rfl⟩⟩
theorem zR (h:PA X es t):PE X (.List es pos) (Im t):=by
 intro pins s σ H Q I hq
 refine wpAny_List_spliced (thn (h pos pins s σ H _ I hq) fun us s1 ⟨xs,H1,I1,r,z,q⟩=>⟨by rw [<- r.length];exact z,?_⟩)
 have hf:H1 s1.heap.objs.size=none:=I1.hok.fresh (aM _)
 refine ⟨.ref s1.heap.objs.size,upd H1 s1.heap.objs.size (.lst xs),I1.laid (t':=s1.toks) (fun b u e=>aE _ e) (aM _) ?_,rfl,q _ hf⟩
 exact ⟨z,us,0,r,bc _ rfl⟩
end
abbrev Sp:=List V->Hp->VK->XK->Prop
abbrev CXT:=List Env->Hp->az->XK->aj->az->Prop
structure Qq (P:aX)(w:bu)(K:aA)(mg:Str->Option aj)(base:Heap)(A:bg)(outer:List Env)(s:az)(H:Hp):Prop where
 frames:A.frames=some outer
 mod:Mod K mg base
 bs:∀ b o,base.get? b=some o->s.heap.get? b=some o/\H b=none
 bsz:base.objs.size<=s.heap.objs.size
 funs:s.heap.FunFrames base outer
 frf:∀ b ∈ frs outer,H b=none
 hok:HOk P w H s.heap
 bare:gQ s.gens
def CE (outer:List Env)(P:aX)(w:bu)(H:Hp)(s:az)(Q:VK)(u:aj)(s':az):Prop:=
 ∃ v H',s'.os=s.os/\gQ s'.gens/\Un (frs outer) [] H H' s.heap s'.heap/\HOk P w H' s'.heap/\zG v u/\Q v H'
def CR (CX:CXT)(outer:List Env)(P:aX)(w:bu)(H:Hp)(s:az)(Q:VK)(E:XK)(r:mT)(s':az):Prop:=
 match r with
 | .ok (.ret u)=>CE outer P w H s Q u s'
 | .ok _=>False
 | .error e=>CX outer H s E e s'
structure jK (P:aX)(w:bu)(K:aA)(mg:Str->Option aj)(base:Heap)(CX:CXT)(k:Nat)(f:ay)(fd:df)(ps:List Str)(sp:Sp):Prop where
 len:∀ vs H Q E,sp vs H Q E->vs.length=ps.length
 run:∀ (A:bg) (outer:List Env) (s:az) (H:Hp) (args:Args) (us:List aj) (vs:List V) (Q:VK) (E:XK),qu k A->Qq P w K mg base A outer s H->i3 s fd args (ps.zip us)->zJ vs us->sp vs H Q E ->
  fL (aR P w) A (.call (.ref f) args) (CR CX outer P w H s Q E) s
variable {mg:Str->Option aj} {base:Heap} {CX:CXT} {fd:df} {ps:List Str} {sp:Sp}
theorem jK.mono {j k:Nat}{f:ay} (F:jK P w K mg base CX j f fd ps sp)(h:j<=k) :
  jK P w K mg base CX k f fd ps sp:=⟨F.len,fun A outer s H args us vs Q E hr=>F.run A outer s H args us vs Q E (hr.mono h)⟩
theorem jK.imp {k:Nat}{f:ay} {sp sp':Sp}(F:jK P w K mg base CX k f fd ps sp)
  (h:∀ vs H Q E,sp' vs H Q E->sp vs H Q E):jK P w K mg base CX k f fd ps sp':=
 ⟨fun vs H Q E q=>F.len vs H Q E (h _ _ _ _ q),fun A outer s H args us vs Q E hr he hb hv hs=>F.run A outer s H args us vs Q E hr he hb hv (h _ _ _ _ hs)⟩
theorem Qq.make {outer:List Env} (e:Qq P w K mg base A outer s H)(C:ay)(us:List aj)(kw:List (Str × aj)) :
  Qq P w K mg base (A.under (.builtin "type.__call__" ⟨.ref C :: us,kw⟩)) outer s H:=⟨by first | exact e.frames | (simpa [bg.under,mE.envs,mE.isFrame,pushEnvs] using e.frames),e.mod,e.bs,e.bsz,e.funs,e.frf,e.hok,e.bare⟩
section
variable {X:Cx}{pins:List (ay × Obj)}{σ:St}{H:Hp}{s s':az}
theorem Inv.env0 (I:Inv X pins σ H s):Qq X.prog X.w X.K X.mg X.base X.A X.stack s H:=
 ⟨I.ok.frames,I.ok.mod,I.bs,bz I.ok.bsz I.sz,I.stack,I.stkFree,I.hok,I.bare⟩
theorem Inv.after {Q:VK}{u:aj}(I:Inv X pins σ H s)(h:CE X.stack X.prog X.w H s Q u s'):EP X pins σ Q u s':=by
 obtain ⟨v,H',os,bare,un,hok,r,q⟩:=h
 obtain ⟨hh,g,d,t,os'⟩:=s'
 obtain rfl:os'=s.os:=os
 exact ⟨v,H',I.call (h':=hh) (g':=g) (d':=d) (t':=t) (ch:=[]) un hok bare (fun b z=>absurd z (by simp)),r,q⟩
end
noncomputable def Jn (sp:Sp)(dvs:List V)(E:XK)(t:TA):TE:=fun σ H Q=>t σ H fun vs H1=>sp (vs ++ dvs) H1 Q E
noncomputable def Zu (C:ay)(m:Str)(sp:Sp)(dvs:List V)(E:XK)(ta:TE)(t:TA):TE:=fun σ H Q=>ta σ H fun x H1=>∃ a dx fs,x=.ref a/\H1 a=some (.ins C dx fs)/\fs.lookup m=none /\
 t σ H1 fun vs H2=>sp (x :: (vs ++ dvs)) H2 Q E
noncomputable def XZ (C:ay)(sp:Sp)(dvs:List V)(E:XK)(t:TA):TE:=fun σ H Q=>t σ H fun vs H1=>∀ x dx,H1 x=none->H1 dx=none->dx ≠ x ->
 sp (.ref x :: (vs ++ dvs)) (upd (upd H1 dx (.own x)) x (.ins C dx [])) (fun v H2=>v=.non/\Q (.ref x) H2) E
def jH (K:aA)(fd:df)(ps:List Str)(ds:List aj):Prop:=
 ∀ (s:az) (us:List aj),K.In s.heap->(us ++ ds).length=ps.length->i3 s fd ⟨us,[]⟩ (ps.zip (us ++ ds))
theorem jH.all (h:∀ us:List aj,us.length=ps.length->eM fd ⟨us,[]⟩=pure (ps.zip us)):jH K fd ps []:=fun s us _ hl=>by
 rw [bW] at hl ⊢
 exact .of_eq (h us hl)
def xl (CX:CXT)(X:Cx)(E:XK):Prop:=∀ (pins:List (ay × Obj)) (σ:St) (H:Hp) (s:az) (e:aj) (s':az),Inv X pins σ H s->CX X.stack H s E e s'->X.xe e s'
section
variable {X:Cx}{CX:CXT}{k:Nat}{f C:ay}{fd:df}{ps:List Str}{sp:Sp}{dvs:List V}{ds:List aj}{E:XK}{x m:Str}{p pos apos:Pos}{e o:Expr}{es:List Expr}{ta:TE}{t:TA}
theorem JX {pins:List (ay × Obj)}{σ:St}{H:Hp}{s:az}{Q:VK}{us:List aj}{vs:List V}(F:jK X.prog X.w X.K X.mg X.base CX k f fd ps sp)(hr:qu k X.A)(hb:jH X.K fd ps ds)(hd:zJ dvs ds)(hx:xl CX X E)
  (I:Inv X pins σ H s) (r:zJ vs us) (h:sp (vs ++ dvs) H Q E):aS (aR X.prog X.w) X.A (call (.ref f) us) (EP X pins σ Q) X.xe s:=by
 have r2:zJ (vs ++ dvs) (us ++ ds):=r.append hd
 have hl:(us ++ ds).length=ps.length:=by rw [<- r2.length];exact F.len _ _ _ _ h
 refine hJ (fj (F.run X.A X.stack s H ⟨us,[]⟩ (us ++ ds) (vs ++ dvs) Q E hr I.env0 (hb s us I.kIn hl) r2 h) fun r s' hq=>?_)
 cases r with
 | error e=>exact hx pins σ H s e s' I hq
 | ok fl=>
  cases fl with
  | ret u=>exact I.after hq
  | next=>exact bM hq
  | brk=>exact bM hq
  | cont=>exact bM hq
theorem Ei (F:jK X.prog X.w X.K X.mg X.base CX k f fd ps sp)(hr:qu k X.A)(hg:Gl X x)(hm:X.mg x=some (.ref f))(hk:de X.K (.ref f)=true)(hb:jH X.K fd ps ds)(hd:zJ dvs ds)(hx:xl CX X E)
  (ha:PA X (e :: es) t) (hdb:(x == ("__debug__":Str))=false:=by decide) (he:aO (e :: es) X.env=(false,eval e X.env) :: aO es X.env:=by rfl) (hpl:(b9 pos (aO es X.env)).any (·.1)=false:=by rfl) :
  PE X (.Call (.Name x p) (e :: es) [] pos) (Jn sp dvs E t):=by
 intro pins s σ H Q I h
 refine dZ (jY I hg hm ?_ hdb)
 refine eK (h₀:=X.base) I.ok.mod.kin hk (thn (ha pos pins s σ H _ I h) fun us s1 ⟨vs,H1,I1,r,q⟩=>⟨I1.kIn,?_⟩) he hpl
 exact JX F hr hb hd hx I1 r q
variable {pl:Sem Bool}
theorem Fk (he:PE X o ta)(c:Cls X.K C)(hm:KZ X.K C m f)(F:jK X.prog X.w X.K X.mg X.base CX k f fd ps sp)(hr:qu k X.A)(hb:jH X.K fd ps ds)(hd:zJ dvs ds)(hx:xl CX X E)(ha:PA X (e :: es) t)
  (hst:aO (e :: es) X.env=(false,eval e X.env) :: aO es X.env:=by rfl) (hpl:(b9 pos (aO es X.env)).any (·.1)=false:=by rfl)
  (ht:eval (.Call (.Attribute o m apos) (e :: es) [] pos) X.env=(do
   let ov <- eval o X.env
   iX apos.atName
   let (f,first) <- holding [ov] (getMethod ov m pl)
   gD pos f first (b9 pos (aO (e :: es) X.env)) (fF pos (dU [] X.env))):=by rfl) :
  PE X (.Call (.Attribute o m apos) (e :: es) [] pos) (Zu C m sp dvs E ta t):=by
 intro pins s σ H Q I h
 refine eS (pl:=pl) (thn (he pins s σ H _ I h) fun u s1 ⟨x,H1,I1,rx,a,dx,fs,ex,ea,l,q⟩=>?_) ht
 subst ex
 obtain rfl:u=aj.ref a:=rx
 refine kT I1 ea c hm l ?_
 refine eK (first:=[.ref a]) (h₀:=X.base) I.ok.mod.kin hm.kp (thn (ha pos pins s1 σ H1 _ I1 q) fun us s2 ⟨vs,H2,I2,r,q2⟩=>⟨I2.kIn,?_⟩) hst hpl
 exact JX (us:=.ref a :: us) (vs:=.ref a :: vs) F hr hb hd hx I2 (.cons rfl r) q2
theorem W1 (he:PE X o ta)(c:Cls X.K C)(hm:KZ X.K C m f)(F:jK X.prog X.w X.K X.mg X.base CX k f fd ps sp)(hr:qu k X.A)(hb:jH X.K fd ps ds)(hd:zJ dvs ds)(hx:xl CX X E)
  (ht:eval (.Call (.Attribute o m apos) [] [] pos) X.env=(do
   let ov <- eval o X.env
   iX apos.atName
   let (f,first) <- holding [ov] (getMethod ov m pl)
   gD pos f first (b9 pos (aO [] X.env)) (fF pos (dU [] X.env))):=by rfl) :
  PE X (.Call (.Attribute o m apos) [] [] pos) (Zu C m sp dvs E ta Vu):=by
 intro pins s σ H Q I h
 refine eS (pl:=pl) (thn (he pins s σ H _ I h) fun u s1 ⟨x,H1,I1,rx,a,dx,fs,ex,ea,l,q⟩=>?_) ht
 subst ex
 obtain rfl:u=aj.ref a:=rx
 refine kT I1 ea c hm l ?_
 exact PySem.W.callWith_K0 (first:=[.ref a]) I1.kIn hm.kp (JX (us:=[.ref a]) (vs:=[.ref a]) F hr hb hd hx I1 (.cons rfl .nil) q)
structure Mk (K:aA)(C f:ay):Prop where
 makes:li K C=true
 init:aT K (.ref C) "__init__"=some (some (.ref f))
 fn:cQ K (.ref f)=true
 kp:de K (.ref C)=true
theorem A8 {pins:List (ay × Obj)}{σ:St}{H:Hp}{s:az}{Q:VK}{us:List aj}{vs:List V}(M:Mk X.K C f)(F:jK X.prog X.w X.K X.mg X.base CX k f fd ps sp)(hr:qu (k+1) X.A)(hb:jH X.K fd ps ds)(hd:zJ dvs ds)
  (hx:xl CX X E) (I:Inv X pins σ H s) (r:zJ vs us)
  (h:∀ x dx,H x=none->H dx=none->dx ≠ x->sp (.ref x :: (vs ++ dvs)) (upd (upd H dx (.own x)) x (.ins C dx [])) (fun v H2=>v=.non/\Q (.ref x) H2) E) :
  aS (aR X.prog X.w) X.A (call (.ref C) us) (EP X pins σ Q) X.xe s:=by
 have hq:=h (s.heap.objs.size+1) s.heap.objs.size (I.hok.fresh (nj _)) (I.hok.fresh (aM _)) (bq (mU _))
 have I2:=Inv.made (C:=C) I
 have r2:zJ (V.ref (s.heap.objs.size+1) :: (vs ++ dvs)) (aj.ref (s.heap.objs.size+1) :: (us ++ ds)):=.cons rfl (r.append hd)
 have hl:(aj.ref (s.heap.objs.size+1) :: us ++ ds).length=ps.length:=by
  have e:=r2.length
  rw [F.len _ _ _ _ hq] at e
  exact e.symm
 refine hJ (Wk (f:=f) I.kIn M.makes M.init (beq_iff_eq.mp M.fn) (fj (F.run _ X.stack _ _ ⟨aj.ref (s.heap.objs.size+1) :: us,[]⟩ (aj.ref (s.heap.objs.size+1) :: (us ++ ds)) _ _ E (hr.make C us [])
  (I2.env0.make C us []) (hb _ (aj.ref (s.heap.objs.size+1) :: us) I2.kIn hl) r2 hq) fun r s' hq'=>?_))
 cases r with
 | error e=>exact hx pins σ _ _ e s' I2 hq'
 | ok fl=>
  cases fl with
  | ret u=>
   obtain ⟨v,H',I3,rv,ev,q3⟩:=I2.after hq'
   subst ev
   exact ⟨rv,⟨V.ref (s.heap.objs.size+1),H',I3,rfl,q3⟩⟩
  | next=>exact bM hq'
  | brk=>exact bM hq'
  | cont=>exact bM hq'
theorem Fl (M:Mk X.K C f)(F:jK X.prog X.w X.K X.mg X.base CX k f fd ps sp)(hr:qu (k+1) X.A)(hg:Gl X x)(hm:X.mg x=some (.ref C))(hb:jH X.K fd ps ds)(hd:zJ dvs ds)(hx:xl CX X E)
  (ha:PA X (e :: es) t) (hdb:(x == ("__debug__":Str))=false:=by decide) (he:aO (e :: es) X.env=(false,eval e X.env) :: aO es X.env:=by rfl) (hpl:(b9 pos (aO es X.env)).any (·.1)=false:=by rfl) :
  PE X (.Call (.Name x p) (e :: es) [] pos) (XZ C sp dvs E t):=by
 intro pins s σ H Q I h
 refine dZ (jY I hg hm ?_ hdb)
 refine eK (h₀:=X.base) I.ok.mod.kin M.kp (thn (ha pos pins s σ H _ I h) fun us s1 ⟨vs,H1,I1,r,q⟩=>⟨I1.kIn,?_⟩) he hpl
 exact A8 M F hr hb hd hx I1 r q
end
section
variable {X:Cx}{CX:CXT}{k:Nat}{f C:ay}{fd:df}{ps ks:List Str}{sp:Sp}{E:XK}{x m:Str}{p pos apos kpos:Pos}{e o:Expr}{es:List Expr}{kws:List ik}{te ta:TE}{t tk:TA}{nm:Option Str}
structure M9 (K:aA)(fd:df)(ps ks:List Str)(g:List aj->List aj->List aj)(gV:List V->List V->List V):Prop where
 to:∀ (s:az) (us ws:List aj),K.In s.heap->(g us ws).length=ps.length->i3 s fd ⟨us,ks.zip ws⟩ (ps.zip (g us ws))
 rel:∀ {vs:List V} {us:List aj} {zs:List V} {ws:List aj},zJ vs us->zJ zs ws->zJ (gV vs zs) (g us ws)
variable {g:List aj->List aj->List aj}{gV:List V->List V->List V}
end
structure zr (N P:List Str)(sc:Scope):Prop where
 kind:sc.kind=.function
 co:sc.isCoroutine=false
 gen:sc.isGenerator=false
 nd:N.Nodup
 pre:N.take P.length=P
 par:∀ x ∈ P,sc.names.lookup x=some .local \/ sc.names.lookup x=some .cell
 nofree:∀ y ∈ sc.names,y.2 ≠ .free
theorem Zl {kindOf:Str->Option bZ}{x:Str}:∀ {binds:List (Str × aj)} {m:Str->Option aj},(∀ v,(x,v) ∉ binds)->nv kindOf binds m x=m x
 | [],_,_=>rfl
 | (n,v) :: r,m,h=>by
  unfold nv
  rw [Zl fun w hw=>h w (bj _ hw)]
  split
  ·have:x ≠ n:=by rintro rfl;exact h v bD
   simp [this]
  ·rfl
theorem Zi {kindOf:Str->Option bZ}{x:Str}:∀ {binds:List (Str × aj)} {m:Str->Option aj},(∀ v,(x,v) ∉ binds)->nw kindOf binds m x=m x
 | [],_,_=>rfl
 | (n,v) :: r,m,h=>by
  unfold nw
  rw [Zi fun w hw=>h w (bj _ hw)]
  split
  ·rfl
  ·have:x ≠ n:=by rintro rfl;exact h v bD
   simp [this]
theorem Zz {kindOf:Str->Option bZ}{x:Str}{v:aj}:∀ {P:List Str} {vs:List aj} {i:Nat} {m:Str->Option aj},P.Nodup->P[i]?=some x->vs[i]?=some v->kindOf x=some .local ->
  nv kindOf (P.zip vs) m x=some v
 | [],_,_,_,_,h,_,_=>by simp at h
 | _ :: _,[],_,_,_,_,h,_=>by simp at h
 | p :: P,w :: vs,0,m,nd,h1,h2,hk=>by
  simp at h1 h2;subst h1;subst h2
  show nv kindOf ((p,w) :: P.zip vs) m p=_
  unfold nv
  rw [Zl fun v hv=>(cr.mp nd).1 (gI hv).1,if_pos hk]
  simp
 | p :: P,w :: vs,i+1,m,nd,h1,h2,hk=>by
  show nv kindOf ((p,w) :: P.zip vs) m x=_
  unfold nv
  exact Zz (i:=i) (cr.mp nd).2 (by simpa using h1) (by simpa using h2) hk
theorem ZM {kindOf:Str->Option bZ}{x:Str}{v:aj}:∀ {P:List Str} {vs:List aj} {i:Nat} {m:Str->Option aj},P.Nodup->P[i]?=some x->vs[i]?=some v->kindOf x ≠ some .local ->
  nw kindOf (P.zip vs) m x=some v
 | [],_,_,_,_,h,_,_=>by simp at h
 | _ :: _,[],_,_,_,_,h,_=>by simp at h
 | p :: P,w :: vs,0,m,nd,h1,h2,hk=>by
  simp at h1 h2;subst h1;subst h2
  show nw kindOf ((p,w) :: P.zip vs) m p=_
  unfold nw
  rw [Zi fun v hv=>(cr.mp nd).1 (gI hv).1,if_neg hk]
  simp
 | p :: P,w :: vs,i+1,m,nd,h1,h2,hk=>by
  show nw kindOf ((p,w) :: P.zip vs) m x=_
  unfold nw
  exact ZM (i:=i) (cr.mp nd).2 (by simpa using h1) (by simpa using h2) hk
noncomputable def start (N:List Str)(vs:List V):St:=vs.map some ++ aH (N.length - vs.length) none
noncomputable def jS (CX:CXT)(P:aX)(w:bu)(K:aA)(mg:Str->Option aj)(base:Heap)(N:List Str)(qual:Str)(scope:Scope)(f:ay)(cd:aj)(A:bg)(outer:List Env)(s:az)(H:Hp)(E:XK):Cx where
 prog:=P
 w:=w
 K:=K
 mg:=mg
 base:=base
 A:=A.deeper (e8 qual scope s.heap.objs.size f cd)
 N:=N
 s₀:=s
 H₀:=H
 env:=e8 qual scope s.heap.objs.size f cd
 outer:=outer
 stack:=e8 qual scope s.heap.objs.size f cd :: outer
 ex:=[]
 calm:=true
 fn:=fun _=>true
 pn:=[]
 xe:=fun e s'=>aS (aR P w) (A.deeper (e8 qual scope s.heap.objs.size f cd)) (leaving (e8 qual scope s.heap.objs.size f cd) e) (fun _ s''=>CX outer H s E e s'') (fun e' s''=>CX outer H s E e' s'') s'
theorem JB {sc:Scope}{n:Nat}{x:Str}(h:sc.names.lookup x=some .cell):∃ c,(mX n sc.names []).lookup x=some c:=by
 have q:=f7 sc.names n [] (.inl h)
 exact iz.mp q
theorem Zp {CX : CXT}{P : aX}{w : bu}{K : aA}{mg : Str -> Option aj}{base : Heap}{N ps : List Str}{qual : Str}{scope : Scope}{f : ay}{cd : aj}{A : bg}{outer : List Env}{s s1 : az}{H : Hp}{E : XK}{us : List aj}{vs : List V}
    (S:zr N ps scope) (hd:A.handled=none) (e0:Qq P w K mg base A outer s H) (hl:vs.length=ps.length) (r:zJ vs us)
    (x:InCallC s s.heap.objs.size (nv (e8 qual scope s.heap.objs.size f cd).kindOf (ps.zip us) fun _=>none) (mX (s.heap.objs.size+1) scope.names []) (nw (e8 qual scope s.heap.objs.size f cd).kindOf (ps.zip us) fun _=>none) s1) :
    Inv (jS CX P w K mg base N qual scope f cd A outer s H E) [] (start N vs) H s1:=by
  have hpl:ps.length<=N.length:=by have:=congrArg nk S.pre;rw [bI] at this;omega
  obtain ⟨h1,tk,rfl,hk⟩:=x.done
  have noA:∀ b:ay,b ∉ (jS CX P w K mg base N qual scope f cd A outer s H E).ex:=fun b z=>absurd (show b ∈ ([]:List ay) from z) (by simp)
  refine ⟨⟨e0.mod,S.kind,rfl,rfl,aM _,fun y z c h1 h2=>?_,fun y hy=>?_,fun y c _ h=>?_,fun _=>hd,bg.frames_deeper e0.frames,.inr ⟨rfl,rfl⟩,fun b z=>absurd z (noA b),e0.bs,e0.bsz,fun b _ _=>noA b,fun b z=>absurd z (noA b),e0.funs,e0.frf⟩,
    rfl,e0.bare,Un.kept hk,⟨_,x.toInCall.ns,fun i y v h1 h2 h3=>?_⟩,fun y c h=>⟨_,x.cell y c h⟩,e0.hok.fresh (aM _),fun y c h=>?_,fun p hp=>absurd (show p ∈ ([]:List (ay × Obj)) from hp) (by simp),e0.hok.kept hk,?_⟩
  · exact name_of_addr x.apart (eB h1) (eB h2)
  · have hy:scope.names.lookup y=some .cell \/ scope.names.lookup y=some .free:=hy
    rcases hy with hy | hy
    · exact JB hy
    · exact absurd rfl (S.nofree _ (eB hy))
  · exact mw (x.above y c (eB h))
  · have hi : i < vs.length := by
      unfold start at h2
      by_cases hi:i<vs.length
      · exact hi
      · rw [dg (by simpa using hi)] at h2
        rw [iJ] at h2
        split at h2 <;> cases h2
    have ha:vs[i]?=some v:=by
      unfold start at h2
      rw [cz (by simpa using hi),aK] at h2
      cases e:vs[i]? with
      | none=>rw [e] at h2;cases h2
      | some a=>rw [e] at h2;cases h2;rfl
    obtain ⟨u,hu,rv⟩:=r.get ha
    have hp:ps[i]?=some y:=by
      rw [<- S.pre,List.getElem?_take_of_lt (by omega)];exact h1
    have ndP:ps.Nodup:=by rw [<- S.pre];exact S.nd.sublist (List.take_sublist _ _)
    refine ⟨u,rv,?_⟩
    rcases S.par y (bf hp) with k | k
    · exact .inl ⟨k,Zz ndP hp hu k⟩
    · obtain ⟨c,e⟩:=JB (n:=s.heap.objs.size+1) k
      refine .inr ⟨.inl k,c,e,?_⟩
      have q:=x.cell y c e
      rw [ZM ndP hp hu (by show scope.names.lookup y ≠ _;rw [k];decide)] at q
      exact q
  · exact e0.hok.fresh (mw (x.above y c (eB h)))
  · unfold start
    show _=N.length
    rw [bA,aw,bU]
    omega
theorem DK {CX:CXT}{P:aX}{w:bu}{K:aA}{mg:Str->Option aj}{base:Heap}{k:Nat}{f:ay}{name qual:Str}{params:Arguments}{body:List cg}{scope:Scope}{dV kV doc pm cdv ct oc:aj}{an od:Option ay}
  {osl:Array (Option aj)} {N ps:List Str} {sp:Sp} (lk:K.lookup f=some ⟨oc,od,.func (bJ name qual params body scope dV kV doc pm an cdv ct),osl⟩) (hcd:e9 K cdv qual=true) (S:zr N ps scope)
  (len:∀ vs H Q E,sp vs H Q E->vs.length=ps.length)
  (hbody:∀ (A:bg) (outer:List Env) (s:az) (H:Hp) (vs:List V) (Q:VK) (E:XK),qu k (A.deeper (e8 qual scope s.heap.objs.size f cdv))->sp vs H Q E ->
   ∃ t,PSs (jS CX P w K mg base N qual scope f cdv A outer s H E) body t/\t { nx:=fun _ H'=>Q .non H',rt:=Q } (start N vs) H) :
  jK P w K mg base CX (k+1) f (bJ name qual params body scope dV kV doc pm an cdv ct) ps sp:=by
 refine ⟨len,fun A outer s H args us vs Q E hr e0 hb r hsp=>?_⟩
 have hl:=len _ _ _ _ hsp
 have KX:K.In s.heap:=e0.mod.kin.keeps fun b o e=>(e0.bs b o e).1
 have lim:s.heap.NoLimit:=e0.mod.nolimit.keeps fun b o e=>(e0.bs b o e).1
 have hkind:∀ y ∈ ps.zip us,scope.names.lookup y.1=some .local \/ (scope.names.lookup y.1=some .cell/\((mX (s.heap.objs.size+1) scope.names []).lookup y.1).isSome=true):=fun ⟨n,v⟩ hy=>by
  rcases S.par n (gI hy).1 with q | q
  ·exact .inl q
  ·exact .inr ⟨q,f7 _ _ _ (.inl q)⟩
 refine codeAny_call_function hr.depth (KX _ _ lk) rfl S.co S.gen rfl (lZ KX hcd) (hb _ _ _ _ ?_)
 refine wpAny_newFunctionEnv_cells S.kind hkind fun env he s1 x=>?_
 subst he
 refine ⟨lim.keeps x.toInCall.keep,codeAny_func ?_⟩
 obtain ⟨t,ht,hq⟩:=hbody A outer s H vs Q E (hr.deeper _) hsp
 have I:Inv (jS CX P w K mg base N qual scope f cdv A outer s H E) [] (start N vs) H s1:=Zp S hr.hd e0 hl r x
 refine bn (ht [] s1 (start N vs) H _ I hq) (fun fl s' hs=>?_) fun e s' hs=>hs
 have fin:∀ {σ':St} {H':Hp} {v:V} {u:aj},Inv (jS CX P w K mg base N qual scope f cdv A outer s H E) [] σ' H' s'->zG v u->Q v H'->CE outer P w H s Q u s':=
  fun {σ' H' v u} J rv q=>⟨v,H',J.os,J.bare,J.base,J.hok,rv,q⟩
 cases fl with
 | ret u=>
  obtain ⟨v,σ',H',J,rv,q⟩:=hs
  exact fin J rv q
 | next=>
  obtain ⟨σ',H',J,q⟩:=hs
  exact fin (v:=V.non) (u:=aj.none) J rfl q
 | brk=>
  obtain ⟨_,_,_,q⟩:=hs
  exact bM q
 | cont=>
  obtain ⟨_,_,_,q⟩:=hs
  exact bM q
section
variable {X:Cx}{x:Str}{p pos:Pos}{e:Expr}{es:List Expr}{t:TA}{id T:String}{r:List V->Hp->VK->Prop}
noncomputable def tCB (r:List V->Hp->VK->Prop)(t:TA):TE:=fun σ H Q=>t σ H fun vs H1=>r vs H1 Q
theorem zn (hc:jM X (.builtin id) r)(hg:Gl X x)(hm:X.mg x=none)(hv:bH x=some (.builtin id))(ha:PA X (e :: es) t)(hn:x ≠ "__name__":=by decide)(hdb:(x == ("__debug__":Str))=false:=by decide)
  (he:aO (e :: es) X.env=(false,eval e X.env) :: aO es X.env:=by rfl) (hpl:(b9 pos (aO es X.env)).any (·.1)=false:=by rfl):PE X (.Call (.Name x p) (e :: es) [] pos) (tCB r t):=by
 intro pins s σ H Q I h
 refine dZ (xa I hg hm hv ?_ hn hdb)
 exact gn (thn (ha pos pins s σ H _ I h) fun us s1 ⟨vs,H1,I1,r1,q1⟩=>hc pins s1 σ H1 vs us Q I1 r1 q1) he hpl
theorem zH (hc:jM X (.type T) r)(hg:Gl X x)(hm:X.mg x=none)(hv:bH x=some (.type T))(ha:PA X (e :: es) t)(hn:x ≠ "__name__":=by decide)(hdb:(x == ("__debug__":Str))=false:=by decide)
  (he:aO (e :: es) X.env=(false,eval e X.env) :: aO es X.env:=by rfl) (hpl:(b9 pos (aO es X.env)).any (·.1)=false:=by rfl):PE X (.Call (.Name x p) (e :: es) [] pos) (tCB r t):=by
 intro pins s σ H Q I h
 refine dZ (xa I hg hm hv ?_ hn hdb)
 exact cY (thn (ha pos pins s σ H _ I h) fun us s1 ⟨vs,H1,I1,r1,q1⟩=>hc pins s1 σ H1 vs us Q I1 r1 q1) he hpl
end
end L2
namespace HT
open PySem PyProof.Rows
section
open PySem.SeqAt
open PySem.AutoSeq1 (wpAny_loadPart')
open PySem.MeetsSeq PySem.MeetsSeq2 PySem.MeetsSeq3
end
section
variable {prog:aX}{w:bu}{A:bg}{E:aj->az->Prop}{s:az}
noncomputable def sIx (n d:Nat):Option Int->Nat
 | none=>d
 | some v=>if v<0 then (v+(n:Int)).toNat else min v.toNat n
theorem sIx_none (n d:Nat):sIx n d none=d:=rfl
theorem sIx_nat (n d k:Nat):sIx n d (some (k:Int))=min k n:=by
 show (if (k:Int)<0 then ((k:Int)+(n:Int)).toNat else min (k:Int).toNat n)=min k n
 rw [if_neg (by omega),bp]
theorem Lz (n d:Nat)(hd:d<=n)(o:Option Int):sIx n d o<=n:=by
 cases o with
 | none=>exact hd
 | some v=>
  show (if v<0 then (v+(n:Int)).toNat else min v.toNat n)<=n
  by_cases hv:v<0
  ·rw [if_pos hv];omega
  ·rw [if_neg hv];exact Nat.min_le_right _ _
theorem Xx (v:Int)(n d:Nat):(if v<0 then max (v+(n:Int)) 0 else min v (n:Int))=((sIx n d (some v):Nat):Int):=by
 show (if v<0 then max (v+(n:Int)) 0 else min v (n:Int))=(((if v<0 then (v+(n:Int)).toNat else min v.toNat n):Nat):Int)
 by_cases hv:v<0
 ·simp only [if_pos hv];omega
 ·simp only [if_neg hv];omega
theorem K7 (lo hi:Option Int)(n:Nat):fq lo hi 1 (n:Int)=(((sIx n 0 lo:Nat):Int),((sIx n n hi:Nat):Int)):=by
 have h1:¬ ((1:Int)<0):=by omega
 unfold fq
 simp only [h1,if_false]
 refine Prod.ext ?_ ?_
 ·cases lo with
  | none=>rfl
  | some v=>exact Xx v n 0
 ·cases hi with
  | none=>rfl
  | some v=>exact Xx v n n
theorem KC (i j:Nat):ef (i:Int) (j:Int) 1=j - i:=by
 unfold ef
 have h1:(1:Int) > 0:=by omega
 simp only [h1,if_true,Int.ediv_one]
 split <;> omega
theorem we {v:aj}{o:Option Int}{Q:Option Int->az->Prop}(p:ma v o)(h:Q o s):aS (aR prog w) A (Builtin.Slice.slicePartIndex v) Q E s:=by
 cases p with
 | none=>exact slicePart_none h
 | int i t=>exact slicePart_int h
variable {sl:ay} {vl vu:aj} {lo hi:Option Int}
theorem yP {n:Nat}{Q:Int × Int × Nat->az->Prop}(hs:s.heap.IsSliceOf sl vl vu .none)(pl:ma vl lo)(pu:ma vu hi)
  (h:Q (((sIx n 0 lo:Nat):Int),1,sIx n n hi - sIx n 0 lo) s):aS (aR prog w) A (hR (.ref sl) (pure (n:Int))) Q E s:=by
 obtain ⟨os,hos,hcs,hds⟩:=id hs
 unfold hR Builtin.Slice.sliceFields
 refine aq (aq (bY hos hds (x:=vl) rfl (aq (bY hos hds (x:=vu) rfl (aq (bY hos hds (x:=.none) rfl (aL ?_)))))))
 refine aq (slicePart_none ?_)
 show aS _ _ (if ((1:Int) == 0)=true then _ else _) _ _ s
 rw [if_neg (by decide)]
 refine aq (we pl (aq (we pu (aq (aL ?_)))))
 show aS _ _ (match fq lo hi 1 (n:Int) with | (lo,hi)=>pure (lo,(1:Int),ef lo hi 1)) _ _ s
 rw [K7 lo hi n]
 show aS _ _ (pure (((sIx n 0 lo:Nat):Int),(1:Int),ef ((sIx n 0 lo:Nat):Int) ((sIx n n hi:Nat):Int) 1)) _ _ s
 rw [KC]
 exact aL h
theorem A0 (xs:Array aj)(i k:Nat):((b8 k).filterMap fun (m:Nat)=>xs[((i:Int)+(m:Int) * 1).toNat]?).toArray=((xs.toList.drop i).take k).toArray:=by
 have e:(fun (m:Nat)=>xs[((i:Int)+(m:Int) * 1).toNat]?)=fun m=>xs[i+m]?:=by
  funext m
  have:((i:Int)+(m:Int) * 1).toNat=i+m:=by omega
  rw [this]
 rw [e]
 have:=pick_run xs i k
 rw [List.filterMap_map] at this
 have e2:((fun x=>xs[x]?) ∘ fun x=>i+x)=fun m=>xs[i+m]?:=rfl
 rw [e2] at this
 rw [this]
theorem getItem_tuple_cut {t sl:ay}{items:Array aj} {Q:aj->az->Prop}(ht:IsTup s.heap t items)(hs:s.heap.IsSliceOf sl vl vu .none)(pl:ma vl lo)(pu:ma vu hi)
  (hw:¬ (sIx items.size 0 lo=0/\sIx items.size items.size hi=items.size))
  (h:Q (.ref s.heap.objs.size) { s with heap:=s.heap.push { cls:=.type "tuple",data:=.seq ((items.toList.drop (sIx items.size 0 lo)).take (sIx items.size items.size hi - sIx items.size 0 lo)).toArray } })
  (hsz:items.size<=aQ):aS (aR prog w) A (my (.ref t) (.ref sl)) Q E s:=by
 have htake:sizeOk (.seq ((items.toList.drop (sIx items.size 0 lo)).take (sIx items.size items.size hi - sIx items.size 0 lo)).toArray):=by
  show ((items.toList.drop (sIx items.size 0 lo)).take (sIx items.size items.size hi - sIx items.size 0 lo)).toArray.size<=aQ
  rw [aJ,bI,cw,gL]
  omega
 have hj:sIx items.size items.size hi<=items.size:=Lz _ _ (aM _) hi
 obtain ⟨os,hos,hcs,hds⟩:=id hs
 have hTs:s.TypeIs (.ref sl) "slice":=⟨os,hos,hcs⟩
 unfold my
 try with_reducible refine dq ?_
 first | refine aq (aL ?_) | skip
 refine aq (wpAny_sequenceKey ht.typeIs (by decide) ?_)
 refine aq (cX (name:=af "__getitem__") ht.typeIs eA
  (eD eA ht.typeIs entry_tuple_getitem ?_ (args_tuple_getitem _ _)))
 show aS _ _ (Builtin.Tuple.tupleItemsOf (.ref t) >>= _) _ _ s
 refine aq (tupleItemsOf_ ht ?_)
 refine aq (wpAny_typeOf hTs ?_)
 rw [if_pos (by decide)]
 refine aq (yP hs pl pu ?_)
 have hno:¬ ((((sIx items.size 0 lo:Nat):Int) == 0 && (1:Int) == 1 && (sIx items.size items.size hi - sIx items.size 0 lo) == items.size)=true):=by
  intro q
  rw [dj,dj] at q
  have q1:((sIx items.size 0 lo:Nat):Int)=0:=eq_of_beq q.1.1
  have q2:sIx items.size items.size hi - sIx items.size 0 lo=items.size:=eq_of_beq q.2
  exact hw ⟨by omega,by omega⟩
 show aS _ _ (if (((sIx items.size 0 lo:Nat):Int) == 0 && (1:Int) == 1 && (sIx items.size items.size hi - sIx items.size 0 lo) == items.size)=true then _ else _) _ _ s
 rw [if_neg hno,A0]
 first
  | exact aq (m:=et _) (cG (aL ⟨_,rfl,aL h⟩) htake)
  | exact aq (m:=et _) (cG (aq (aL (aL ⟨_,rfl,aL h⟩))) htake)
  | exact aq (aq (m:=et _) (cG (aL (aL ⟨_,rfl,aL h⟩)) htake))
  | exact aq (aq (m:=et _) (cG (aL ⟨_,rfl,aL h⟩) htake))
end
end HT
namespace L2
open PySem PySem.Spec PyProof.Rows
abbrev TO:=St->Hp->(Option Int->Hp->Prop)->Prop
def PO (X:Cx)(e:Option Expr)(t:TO):Prop:=
 ∀ (pins:List (ay × Obj)) (s:az) (σ:St) (H:Hp) (Q:Option Int->Hp->Prop),Inv X pins σ H s->t σ H Q ->
  aS (aR X.prog X.w) X.A (evalPart e X.env) (fun u s'=>∃ o H',Inv X pins σ H' s'/\ma u o/\Q o H') X.xe s
noncomputable def Z9:TO:=fun _ H Q=>Q none H
noncomputable def B6 (t:TE):TO:=fun σ H Q=>t σ H fun x H1=>∃ i,x=.int i/\Q (some i) H1
section
variable {X:Cx}{e:Expr}{te:TE}{lo hi:Option Expr}{tl th:TO}{pos p2:Pos}
theorem xG:PO X none Z9:=by
 intro pins s σ H Q I h
 rw [evalPart_none]
 exact aL ⟨none,H,I,.none,h⟩
theorem kj (h:PE X e te):PO X (some e) (B6 te):=by
 intro pins s σ H Q I hw
 rw [evalPart_some]
 refine thn (h pins s σ H _ I hw) fun u s1 ⟨x,H1,I1,r1,q1⟩=>?_
 obtain ⟨i,rfl,q⟩:=q1
 obtain ⟨t,rfl⟩:=r1
 exact ⟨some i,H1,I1,.int i t,q⟩
def SlR (X:Cx)(r:V->Option Int->Option Int->Hp->VK->Prop):Prop:=
 ∀ (pins:List (ay × Obj)) (s:az) (σ:St) (H:Hp) (x:V) (v vl vu:aj) (lo hi:Option Int) (sl:ay) (Q:VK),Inv X pins σ H s->zG x v->s.heap.IsSliceOf sl vl vu .none->ma vl lo->ma vu hi->r x lo hi H Q ->
  ∃ T id,typeLookup (.type T) "__getitem__"=pure (some (.builtin id))/\s.TypeIs v T/\aS (aR X.prog X.w) X.A (my v (.ref sl)) (EP X pins σ Q) X.xe s
noncomputable def tSl (r:V->Option Int->Option Int->Hp->VK->Prop)(te:TE)(tl th:TO):TE:=fun σ H Q=>te σ H fun x H1=>tl σ H1 fun l H2=>th σ H2 fun u H3=>r x l u H3 Q
theorem j9 {r:V->Option Int->Option Int->Hp->VK->Prop}(hr:SlR X r)(he:PE X e te)(hl:PO X lo tl)(hu:PO X hi th):PE X (.Subscript e (.Slice lo hi none p2) pos) (tSl r te tl th):=by
 intro pins s σ H Q I h
 refine Subscript_ (thn (he pins s σ H _ I h) fun v s1 ⟨x,H1,I1,r1,q1⟩=>?_)
 refine wpAny_Slice (thn (hl pins s1 σ H1 _ I1 q1) fun vl s2 ⟨l,H2,I2,pl,q2⟩=>thn (hu pins s2 σ H2 _ I2 q2) fun vu s3 ⟨u,H3,I3,pu,q3⟩=>?_)
 rw [evalPart_none]
 refine aL ?_
 have I4:Inv X pins σ H3 { s3 with heap:=s3.heap.push { cls:=.type "slice",data:=.fields #[vl,vu,.none] } }:=I3.kept (t':=s3.toks) fun b ob q=>aE _ q
 obtain ⟨T,id,hT,ht,hg⟩:=hr pins { s3 with heap:=s3.heap.push { cls:=.type "slice",data:=.fields #[vl,vu,.none] } } σ H3 x v vl vu l u s3.heap.objs.size Q I4 r1 (Heap.IsSliceOf.new ..) pl pu q3
 show aS (aR X.prog X.w) X.A (subscriptTail e (.Slice lo hi none p2) v (.ref s3.heap.objs.size)) (EP X pins σ Q) X.xe { s3 with heap:=s3.heap.push { cls:=.type "slice",data:=.fields #[vl,vu,.none] } }
 exact tail_any (ops:=[.ref s3.heap.objs.size,v]) ht hT hg (by with_unfolding_all rfl)
noncomputable def Zc (xs:List V)(lo hi:Option Int):List V:=(xs.drop (HT.sIx xs.length 0 lo)).take (HT.sIx xs.length xs.length hi - HT.sIx xs.length 0 lo)
theorem vn (xs:List V)(lo hi:Option Int):(Zc xs lo hi).length<=xs.length:=by
 unfold Zc
 rw [bI,cw]
 omega
noncomputable def MJ (K:aA):V->Option Int->Option Int->Hp->VK->Prop:=fun x lo hi H Q=>∃ a xs,x=.ref a/\SqT K H a xs /\
 ¬ (HT.sIx xs.length 0 lo=0/\HT.sIx xs.length xs.length hi=xs.length)/\∀ p,H p=none->Q (.ref p) (upd H p (.tup (Zc xs lo hi)))
theorem BP:SlR X (MJ X.K):=by
 intro pins s σ H x v vl vu lo hi sl Q I rx hs pl pu h
 obtain ⟨a,xs,rfl,hx,hw,q⟩:=h
 cases rx
 obtain ⟨its,r,ht,hz⟩:=I.tuple hx
 have hlen:its.toArray.size=xs.length:=by rw [aJ];exact r.length.symm
 refine ⟨"tuple",_,eA.lookup,ht.typeIs,?_⟩
 refine HT.getItem_tuple_cut ht hs pl pu (by rw [hlen];exact hw) ?_ (by rw [hlen];exact hz)
 rw [hlen]
 refine ⟨.ref s.heap.objs.size,_,I.laid (t':=s.toks) (o:=.tup (Zc xs lo hi)) (fun b ob q=>aE _ q) (aM _) ?_,rfl,q _ (I.hok.fresh (aM _))⟩
 exact ⟨bz (vn xs lo hi) hz,_,(r.drop (HT.sIx xs.length 0 lo)).take (HT.sIx xs.length xs.length hi - HT.sIx xs.length 0 lo),Qb.new _ _⟩
end
noncomputable def ixN (n:Nat)(i:Int):Option Nat:=if 0<=i then (if i<n then some i.toNat else none) else if -(n:Int)<=i then some (i+n).toNat else none
noncomputable def atI {α:Type}(xs:List α)(i:Int):Option α:=(ixN xs.length i).bind fun j=>xs[j]?
variable {n j:Nat}
theorem YJ {i:Int} (h:ixN n i=some j):seqIndex? i n=some j/\j<n/\-(n:Int)<=i/\i<n:=by
 unfold ixN at h
 by_cases h0:0<=i
 ·rw [if_pos h0] at h
  by_cases h1:i<n
  ·rw [if_pos h1] at h
   have e:i.toNat=j:=bR h
   exact ⟨by rw [lw h0 h1,e],by omega,by omega,h1⟩
  ·rw [if_neg h1] at h;cases h
 ·rw [if_neg h0] at h
  by_cases h1:-(n:Int)<=i
  ·rw [if_pos h1] at h
   have e:(i+n).toNat=j:=bR h
   exact ⟨by rw [i4 (by omega) h1,e],by omega,h1,by omega⟩
  ·rw [if_neg h1] at h;cases h
theorem QA {α:Type}{xs:List α}{i:Int}{v:α}(h:atI xs i=some v):∃ j,seqIndex? i xs.length=some j/\xs[j]?=some v/\j<xs.length/\-(xs.length:Int)<=i/\i<xs.length:=by
 unfold atI at h
 cases e:ixN xs.length i with
 | none=>rw [e] at h;cases h
 | some j=>
  rw [e] at h
  obtain ⟨h1,h2,h3,h4⟩:=YJ e
  exact ⟨j,h1,h,h2,h3,h4⟩
theorem Fz {α:Type}{xs:List α} {v:α}(h:xs[j]?=some v):atI xs (j:Int)=some v:=by
 have hj:j<xs.length:=(aG.mp h).1
 have e:ixN xs.length (j:Int)=some j:=by
  unfold ixN
  rw [if_pos (by omega),if_pos (by omega)];simp
 unfold atI;rw [e];exact h
def F5 (b:Expr):Prop:=∀ o i,subscripted b false o i=operate [o,i] (my o i)
def IxR (X:Cx)(r:R2):Prop:=
 ∀ (value slice:Expr) (pins:List (ay × Obj)) (s:az) (σ:St) (H:Hp) (x y:V) (v u:aj) (Q:VK),Inv X pins σ H s->zG x v->zG y u->r x y H Q ->
  subscripted slice false v u=operate [v,u] (my v u)->aS (aR X.prog X.w) X.A (subscriptTail value slice v u) (EP X pins σ Q) X.xe s
def MtR (X:Cx)(id:String)(r:V->List V->Hp->VK->Prop):Prop:=
 ∀ (pins:List (ay × Obj)) (s:az) (σ:St) (H:Hp) (x:V) (xs:List V) (v:aj) (us:List aj) (Q:VK),Inv X pins σ H s->zG x v->zJ xs us->r x xs H Q ->
  aS (aR X.prog X.w) X.A (call (.builtin id) (v :: us)) (EP X pins σ Q) X.xe s
section
variable {X:Cx}{a b:Expr}{ta tb:TE}{pos:Pos}
theorem zu {r:R2}(hr:IxR X r)(ha:PE X a ta)(hb:PE X b tb)(hs:F5 b):PE X (.Subscript a b pos) (tOp r ta tb):=by
 intro pins s σ H Q I h
 exact Subscript_ (LD ha hb I h fun v u s2 x y H2 I2 rx ry q=>hr a b pins s2 σ H2 x y v u Q I2 rx ry q (hs _ _))
noncomputable def Gf (K:aA):R2:=fun x y H Q=>∃ p xs i v,x=.ref p/\y=.int i/\SqL K H p xs/\atI xs i=some v/\Q v H
noncomputable def MT (K:aA):R2:=fun x y H Q=>∃ p xs i v,x=.ref p/\y=.int i/\SqT K H p xs/\atI xs i=some v/\Q v H
theorem qO:IxR X (Gf X.K):=by
  intro value slice pins s σ H x y v u Q I rx ry h hs
  obtain ⟨p,xs,i,z,rfl,rfl,hq,he,q⟩:=h
  cases rx
  obtain ⟨t,rfl⟩:=ry
  obtain ⟨its,r,pl,hz⟩:=I.list hq
  obtain ⟨j,h1,h2,h3,h4,h5⟩:=QA he
  obtain ⟨w,ew,rw'⟩:=r.get h2
  have hl:=r.length
  have hn:=wr
  have fin:EP X pins σ Q w s:=⟨z,H,I,rw',q⟩
  by_cases h0:0<=i
  · have hj : i.toNat = j := by
      rw [lw h0 h5] at h1
      exact bR h1
    exact item_listR pl.isList h0 (by omega) (by rw [hj];simpa using ew) fin hs
  · have hj : (i + (its.toArray.size : Int)).toNat = j := by
      rw [i4 (by omega) h4] at h1
      rw [aJ,<- hl]
      exact bR h1
    exact subscriptTail_builtinR (x:=w) pl.isList.typeIs slot_list_getitem.lookup
      (i5 (Q:=fun r s'=>r=w/\EP X pins σ Q r s') pl.isList (by omega) (by rw [aJ] <;> omega) (by omega) (by rw [hj];simpa using ew) ⟨rfl,fin⟩) hs
theorem HM:IxR X (MT X.K):=by
 intro value slice pins s σ H x y v u Q I rx ry h hs
 obtain ⟨p,xs,i,z,rfl,rfl,hq,he,q⟩:=h
 cases rx
 obtain ⟨t,rfl⟩:=ry
 obtain ⟨its,r,pl,hz⟩:=I.tuple hq
 obtain ⟨j,h1,h2,h3,h4,h5⟩:=QA he
 obtain ⟨w,ew,rw'⟩:=r.get h2
 have hl:=r.length
 have hn:=wr
 have fin:EP X pins σ Q w s:=⟨z,H,I,rw',q⟩
 exact subscriptTail_builtinR (x:=w) pl.typeIs slot_tuple_getitem.lookup
  (getItem_tuple (j:=j) (Q:=fun r s'=>r=w/\EP X pins σ Q r s') pl (by omega) (by omega) (by rw [aJ,<- hl];exact h1) (by simpa using ew) ⟨rfl,fin⟩) hs
theorem Kh (its:List aj)(n j:Nat)(u:aj):i6 (·.setIfInBounds j u) { cls:=.type "list",data:=.seq its.toArray n }={ cls:=.type "list",data:=.seq (its.set j u).toArray n }:=by
 simp [i6]
variable {pins:List (ay × Obj)} {σ:St} {H:Hp} {s:az} {p:ay} {xs:List V}
theorem Inv.lst (I:Inv X pins σ H s)(h:H p=some (.lst xs)) :
  ∃ (its:List aj) (n:Nat),zJ xs its/\s.heap.get? p=some { cls:=.type "list",data:=.seq its.toArray n }/\xs.length<=aQ:=by
 obtain ⟨z,its,n,r,e⟩:=I.hok p _ h
 exact ⟨its,n,r,e,z⟩
theorem Inv.lstUpd {xs ys:List V}{its its':List aj}{n n':Nat}{f:Obj->Obj}(I:Inv X pins σ H s)(h:H p=some (.lst xs))
  (ho:s.heap.get? p=some { cls:=.type "list",data:=.seq its.toArray n }) (hf:f { cls:=.type "list",data:=.seq its.toArray n }={ cls:=.type "list",data:=.seq its'.toArray n' }) (r:zJ ys its') (hz:ys.length<=aQ) (t:Nat) :
  Inv X pins σ (upd H p (.lst ys)) { s with heap:=s.heap.update p f,toks:=t }:=by
 have e:(s.heap.update p f).get? p=some { cls:=.type "list",data:=.seq its'.toArray n' }:=by
  rw [bK f ho (by rw [hf] <;> rfl),hf]
 refine I.write (x:=p) (e:=p) (by rw [h];trivial) (.inl rfl) (fun b u hb q=>(dP _ _ (Ne.symm hb)).trans q) ⟨_,e⟩ ?_
 exact ⟨hz,its',n',r,e⟩
noncomputable def GM:V->V->V->Hp->(Hp->Prop)->Prop:=fun o i v H Q=>∃ p xs k j,o=.ref p/\i=.int k/\H p=some (.lst xs)/\ixN xs.length k=some j/\Q (upd H p (.lst (xs.set j v)))
theorem Bz:E6 X GM:=by
  intro pins s σ H o i v ov iv u Q I ro ri rv h
  obtain ⟨p,xs,k,j,rfl,rfl,hp,hj,q⟩:=h
  cases ro
  obtain ⟨t,rfl⟩:=ri
  obtain ⟨its,n,r,ho,hz⟩:=I.lst hp
  obtain ⟨h1,h2,h3,h4⟩:=YJ hj
  have hl:=r.length
  have hn:=wr
  have I':Inv X pins σ (upd H p (.lst (xs.set j v))) { s with heap:=s.heap.update p (i6 (·.setIfInBounds j u)) }:=
    I.lstUpd hp ho (Kh its n j u) (r.set rv j) (by rw [bN];exact hz) s.toks
  by_cases h0:0<=k
  · have hk : k.toNat = j := by
      rw [lw h0 h4] at h1
      exact bR h1
    exact PySem.W.ki_setAt ho h0 (by omega) (by rw [aJ,<- hl];exact h4) (by rw [hk];exact ⟨_,I',q⟩)
  · have hk : (k + (its.toArray.size : Int)).toNat = j := by
      rw [i4 (by omega) h3] at h1
      rw [aJ,<- hl]
      exact bR h1
    exact PySem.W.ki_setBack ho (by omega) (by rw [aJ,<- hl];exact h3) (by omega) (by rw [hk];exact ⟨_,I',q⟩)
theorem ZX (lo hi:Option Int)(n:Nat):(fR lo hi none n).1=((HT.sIx n 0 lo:Nat):Int)/\(fR lo hi none n).2.1=((HT.sIx n n hi:Nat):Int)/\(fR lo hi none n).2.2=1:=by
 refine ⟨?_,?_,rfl⟩
 ·cases lo with
  | none=>simp [fR,HT.sIx]
  | some i=>
   simp only [fR,HT.sIx,mY,show (1:Int) > 0 by decide,if_true]
   by_cases h:i<0
   ·simp only [h,if_true] <;> omega
   ·simp only [h,if_false] <;> omega
 ·cases hi with
  | none=>simp [fR,HT.sIx]
  | some i=>
   simp only [fR,HT.sIx,mY,show (1:Int) > 0 by decide,if_true]
   by_cases h:i<0
   ·simp only [h,if_true] <;> omega
   ·simp only [h,if_false] <;> omega
theorem Zd (its:List aj)(lo hi:Option Int):slicePick its.toArray lo hi none=((its.drop (HT.sIx its.length 0 lo)).take (HT.sIx its.length its.length hi - HT.sIx its.length 0 lo)).toArray:=by
 obtain ⟨h1,h2,h3⟩:=ZX lo hi its.toArray.size
 unfold slicePick
 rw [h1,h2,h3]
 simp only [sliceRange_one,pick_run,aJ] <;> rfl
noncomputable def Lp (K:aA):V->Option Int->Option Int->Hp->VK->Prop:=fun x lo hi H Q=>∃ a xs,x=.ref a/\SqL K H a xs/\∀ p,H p=none->Q (.ref p) (upd H p (.lst (Zc xs lo hi)))
theorem yt:SlR X (Lp X.K):=by
 intro pins s σ H x v vl vu lo hi sl Q I rx hs pl pu h
 obtain ⟨a,xs,rfl,hx,q⟩:=h
 cases rx
 obtain ⟨its,r,ht,hz⟩:=I.list hx
 have hlen:=r.length
 refine ⟨"list",_,slot_list_getitem.lookup,ht.isList.typeIs,?_⟩
 refine wpAny_getItem_list_slice ht.isList hs pl pu .none (by simp) ?_ (by rw [aJ] <;> omega)
 rw [Zd,<- hlen]
 refine ⟨.ref s.heap.objs.size,_,I.laid (t':=s.toks) (o:=.lst (Zc xs lo hi)) (fun b ob q=>aE _ q) (aM _) ?_,rfl,q _ (I.hok.fresh (aM _))⟩
 exact ⟨bz (vn xs lo hi) hz,_,0,(r.drop (HT.sIx xs.length 0 lo)).take (HT.sIx xs.length xs.length hi - HT.sIx xs.length 0 lo),bc _ rfl⟩
noncomputable def jW:V->Bool
 | .non=>true
 | .bl _=>true
 | .int _=>true
 | .str _=>true
 | _=>false
noncomputable def eqV:V->V->Bool
 | .non,.non=>true
 | .bl a,.bl b=>a == b
 | .bl a,.int b=>(if a then 1 else 0) == b
 | .int a,.bl b=>a == (if b then 1 else 0)
 | .int a,.int b=>a == b
 | .str a,.str b=>a == b
 | _,_=>false
theorem Lq {A:bg}{s:az}{y x:V}{u v:aj}(ry:zG y u)(rx:zG x v)(fy:jW y=true)(fx:jW x=true):bF A s u v (eqV y x):=by
 cases y with
 | non=>
  cases ry
  cases x with
  | non=>cases rx;exact bF.same _
  | bl b=>cases rx;exact bF.none_bool b
  | int b=>obtain ⟨t,rfl⟩:=rx;exact bF.none_int b t
  | str b=>obtain ⟨t,rfl⟩:=rx;exact bF.none_str b t
  | _=>exact absurd (show false=true from fx) bo
 | bl a=>
  cases ry
  cases x with
  | non=>cases rx;exact bF.bool_none a
  | bl b=>cases rx;exact bF.bool_bool a b
  | int b=>obtain ⟨t,rfl⟩:=rx;exact bF.bool_int a b t
  | str b=>obtain ⟨t,rfl⟩:=rx;exact bF.bool_str a b t
  | _=>exact absurd (show false=true from fx) bo
 | int a=>
  obtain ⟨t',rfl⟩:=ry
  cases x with
  | non=>cases rx;exact bF.int_none a t'
  | bl b=>cases rx;exact bF.int_bool a t' b
  | int b=>obtain ⟨t,rfl⟩:=rx;exact bF.int_int a t' b t
  | str b=>obtain ⟨t,rfl⟩:=rx;exact bF.int_str a t' b t
  | _=>exact absurd (show false=true from fx) bo
 | str a=>
  obtain ⟨t',rfl⟩:=ry
  cases x with
  | non=>cases rx;exact bF.str_none a t'
  | bl b=>cases rx;exact bF.str_bool a t' b
  | int b=>obtain ⟨t,rfl⟩:=rx;exact bF.str_int a t' b t
  | str b=>obtain ⟨t,rfl⟩:=rx;exact bF.str_str a t' b t
  | _=>exact absurd (show false=true from fx) bo
 | _=>exact absurd (show false=true from fy) bo
noncomputable def eqU (x:V)(u:aj):Bool:=match u with
 | .none=>eqV .non x
 | .bool b=>eqV (.bl b) x
 | .int i _=>eqV (.int i) x
 | .str z _=>eqV (.str z) x
 | _=>false
theorem Qi {x y:V}{u:aj}(r:zG y u)(f:jW y=true):eqU x u=eqV y x:=by
 cases y with
 | non=>cases r;rfl
 | bl b=>cases r;rfl
 | int i=>obtain ⟨t,rfl⟩:=r;rfl
 | str z=>obtain ⟨t,rfl⟩:=r;rfl
 | _=>exact absurd (show false=true from f) bo
theorem Z4 {x:V}:∀ {xs:List V} {us:List aj},zJ xs us->xs.all jW=true->us.any (eqU x)=xs.any fun y=>eqV y x
 | _,_,.nil,_=>rfl
 | y :: xs,u :: us,.cons r t,f=>by
  rw [dW,dj] at f
  rw [iA,iA,Qi r f.1,Z4 t f.2]
theorem kH {A:bg}{s:az}{x:V}{v:aj}(rx:zG x v)(fx:jW x=true):∀ {xs:List V} {us:List aj},zJ xs us->xs.all jW=true->∀ u ∈ us,bF A s u v (eqU x u)
 | _,_,.nil,_=>fun u hu=>by cases hu
 | y :: xs,u :: us,.cons r t,f=>fun u' hu=>by
  rw [dW,dj] at f
  rcases aF.mp hu with rfl | hu
  ·rw [Qi r f.1];exact Lq r rx f.1 fx
  ·exact kH rx fx t f.2 u' hu
noncomputable def inV (x:V)(xs:List V):Bool:=xs.any fun y=>eqV y x
noncomputable def rIn (K:aA)(neg:Bool):R2:=fun x y H Q=>∃ p xs,y=.ref p/\(SqL K H p xs \/ SqT K H p xs)/\jW x=true/\xs.all jW=true/\Q (.bl (if neg then !inV x xs else inV x xs)) H
theorem YT:OpR X (dC .In) (rIn X.K false):=by
 intro pins s σ H x y v u Q I rx ry h
 obtain ⟨p,xs,rfl,hq,fx,fs,q⟩:=h
 cases ry
 rcases hq with hq | hq
 ·obtain ⟨its,r,pl,hz⟩:=I.list hq
  refine SeqAt.in_listAt (eqU x) pl.isList (fun w hw=>kH rx fx r fs w (by simpa using hw)) ⟨.bl _,H,I,rfl,?_⟩
  rw [show its.toArray.any (eqU x)=its.any (eqU x) by simp,Z4 r fs]
  exact q
 ·obtain ⟨its,r,pl,hz⟩:=I.tuple hq
  refine SeqAt.in_tupleAt (eqU x) pl (fun w hw=>kH rx fx r fs w (by simpa using hw)) ⟨.bl _,H,I,rfl,?_⟩
  rw [show its.toArray.any (eqU x)=its.any (eqU x) by simp,Z4 r fs]
  exact q
theorem zv:jM X (.builtin "len") (fun xs H Q=>∃ p ys,xs=[.ref p]/\(SqL X.K H p ys \/ SqT X.K H p ys)/\Q (.int ys.length) H):=by
 intro pins s σ H xs us Q I r h
 obtain ⟨p,ys,rfl,hq,q⟩:=h
 obtain ⟨u,rfl,rx⟩:=xF r
 cases rx
 have hn:=wr
 rcases hq with hq | hq
 ·obtain ⟨its,r',pl,hz⟩:=I.list hq
  have hlen:=r'.length
  exact Calls.call_len_list pl.isList (by simp only [aJ] <;> omega) ⟨.int ys.length,H,I.tok _,⟨s.toks+1,by rw [aJ,hlen]⟩,q⟩
 ·obtain ⟨its,r',pl,hz⟩:=I.tuple hq
  have hlen:=r'.length
  exact len_tuple pl (by simp only [aJ] <;> omega) ⟨.int ys.length,H,I.tok _,⟨s.toks+1,by rw [aJ,hlen]⟩,q⟩
theorem qZ:jM X (.type "list") (fun xs H Q=>∃ p ys,xs=[.ref p]/\(SqL X.K H p ys \/ SqT X.K H p ys)/\∀ l,H l=none->Q (.ref l) (upd H l (.lst ys))):=by
 intro pins s σ H xs us Q I r h
 obtain ⟨p,ys,rfl,hq,q⟩:=h
 obtain ⟨u,rfl,rx⟩:=xF r
 cases rx
 have fin:∀ (its:List aj),zJ ys its->ys.length<=aQ->∀ (h':Heap) (c':Nat),(∀ b o',s.heap.get? b=some o'->h'.get? b=some o') ->
   h'.get? s.heap.objs.size=some { cls:=.type "list",dict:=none,data:=.seq its.toArray c',slots:=#[] }->EP X pins σ Q (.ref s.heap.objs.size) { s with heap:=h' }:=fun its r' hz h' c' kp e=>
  ⟨.ref s.heap.objs.size,_,I.laid (t':=s.toks) kp (aM _) (show zS X.prog X.w _ h' _ (.lst ys) from ⟨hz,its,c',r',e⟩),rfl,q _ (I.hok.fresh (aM _))⟩
 rcases hq with hq | hq
 ·obtain ⟨its,r',pl,hz⟩:=I.list hq
  have hlen:=r'.length
  obtain ⟨o,ho,hc,n,hd⟩:=pl.isList
  exact call_list_seq p (.inl rfl) ho hc hd (fun h' c' kp e=>fin its r' hz h' c' kp e) (by simp only [aJ] <;> omega)
 ·obtain ⟨its,r',pl,hz⟩:=I.tuple hq
  have hlen:=r'.length
  obtain ⟨o,ho,hc,n,hd⟩:=pl
  exact call_list_seq p (.inr rfl) ho hc hd (fun h' c' kp e=>fin its r' hz h' c' kp e) (by simp only [aJ] <;> omega)
theorem ql:jM X (.type "tuple") (fun xs H Q=>∃ p ys,xs=[.ref p]/\((SqL X.K H p ys/\∀ l,H l=none->Q (.ref l) (upd H l (.tup ys))) \/ (SqT X.K H p ys/\Q (.ref p) H))):=by
 intro pins s σ H xs us Q I r h
 obtain ⟨p,ys,rfl,h⟩:=h
 obtain ⟨u,rfl,rx⟩:=xF r
 cases rx
 rcases h with ⟨hq,q⟩ | ⟨hq,q⟩
 ·obtain ⟨its,r',pl,hz⟩:=I.list hq
  have hlen:=r'.length
  refine call_tuple_list pl.isList (fun h' kp=>?_) (by simp only [aJ] <;> omega)
  have I1:Inv X pins σ H { s with heap:=h' }:=I.kept (t':=s.toks) kp
  have I2:Inv X pins σ (upd H h'.objs.size (.tup ys)) { s with heap:=h'.push { cls:=.type "tuple",data:=.seq its.toArray } }:=
   I1.laid (t':=s.toks) (fun b o e=>aE _ e) (aM _) (show zS X.prog X.w _ _ _ (.tup ys) from ⟨hz,its,r',Qb.new _ _⟩)
  exact ⟨.ref h'.objs.size,_,I2,rfl,q _ (I1.hok.fresh (aM _))⟩
 ·obtain ⟨its,r',pl,hz⟩:=I.tuple hq
  exact call_tuple_same pl ⟨.ref p,H,I,rfl,q⟩
def tyV (K:aA)(T:String)(x:V)(H:Hp):Prop:=match x with
  | .str _=>T="str"
  | .int _=>T="int"
  | .ref p => (T = "list" /\ ∃ xs, SqL K H p xs) \/ (T = "tuple" /\ ((∃ xs, Rd H p (.tup xs)) \/ ∃ o, K.lookup p = some o /\ o.cls = .type "tuple" /\ o.dict = none)) \/
      (T="dict"/\((∃ kvs,H p=some (.dK kvs)) \/ ∃ kvs,H p=some (.dT kvs))) \/ (T="set"/\∃ S n,H p=some (.set S n))
  | _=>False
theorem Hg {pins : List (ay × Obj)}{σ : St}{H : Hp}{s : az}{T : String}{x : V}{v : aj}(I : Inv X pins σ H s)(r : zG x v)(ty : tyV X.K T x H) :
    s.TypeIs v T/\∀ a,v=.ref a->∃ ob,s.heap.get? a=some ob/\ob.dict=none:=by
  cases x with
  | str z=>
    obtain ⟨t,rfl⟩:=r
    cases (show T="str" from ty)
    exact ⟨typeIs_str s z t,fun _ e=>nomatch e⟩
  | int i=>
    obtain ⟨t,rfl⟩:=r
    cases (show T="int" from ty)
    exact ⟨typeIs_int s i t,fun _ e=>nomatch e⟩
  | ref p=>
    cases r
    rcases ty with ⟨rfl,xs,hq⟩ | ⟨rfl,⟨xs,hx⟩ | ⟨o,hk,hc,hd⟩⟩ | ⟨rfl,hk⟩ | ⟨rfl,S,n,hk⟩
    · obtain ⟨its,_,pl,_⟩:=I.list hq
      refine ⟨pl.isList.typeIs,fun a e=>?_⟩
      cases e
      obtain ⟨o,n,e,c,hd,_⟩:=pl
      exact ⟨o,e,hd⟩
    · obtain ⟨_,its,_,o,e,c,_,hd⟩:=hx.ok I.hok
      refine ⟨⟨o,e,c⟩,fun a e2=>?_⟩
      cases e2
      exact ⟨o,e,hd⟩
    · refine ⟨⟨o,I.kIn p o hk,hc⟩,fun a e=>?_⟩
      cases e
      exact ⟨o,I.kIn _ o hk,hd⟩
    · have z : ∃ o, s.heap.get? p = some o /\ o.ExactDict := by
        rcases hk with ⟨kvs,hk⟩ | ⟨kvs,hk⟩
        · obtain ⟨_,_,_,_,o,_,_,e,ex,_⟩:=I.hok p _ hk
          exact ⟨o,e,ex⟩
        · obtain ⟨_,_,_,_,o,_,_,e,ex,_⟩:=I.hok p _ hk
          exact ⟨o,e,ex⟩
      obtain ⟨o,e,ex⟩:=z
      refine ⟨⟨o,e,ex.1⟩,fun a e2=>?_⟩
      cases e2
      exact ⟨o,e,ex.2.1⟩
    · obtain ⟨o,_,_,_,e,ex,_⟩:=I.hok p _ hk
      refine ⟨⟨o,e,ex.1⟩,fun a e2=>?_⟩
      cases e2
      exact ⟨o,e,ex.2.1⟩
  | _=>exact bM ty
noncomputable def tBM (K:aA)(T:String)(r:V->List V->Hp->VK->Prop)(to:TE)(t:TA):TE:=fun σ H Q=>to σ H fun x H1=>tyV K T x H1/\t σ H1 fun xs H2=>r x xs H2 Q
variable {o e:Expr}{es:List Expr}{to:TE}{t:TA}{name:Str}{apos cpos:Pos}{T id:String}{r:V->List V->Hp->VK->Prop}
theorem ym (pa:PlainAttrs T)(slot:Slot T name id)(hty:typeOf (.builtin id)=pure (.type "method_descriptor"))(hm:MtR X id r)(ho:PE X o to)(ha:PA X (e :: es) t)
  (hbase:dS o name X.env (eval o X.env)=eval o X.env:=by rfl)
  (hfew:((b9 cpos (aO (e :: es) X.env)).all (fun x=>!x.1) && (fF cpos (dU [] X.env)).all (fun x=>x.1.isSome)
   && decide ((e :: es).length+([]:List ik).length+(if ([]:List ik).isEmpty then 0 else 1)<30))=true:=by rfl)
  (hline:(apos.endLine == cpos.line)=true:=by rfl) (hs:aO (e :: es) X.env=(false,eval e X.env) :: aO es X.env:=by rfl) (hplain:(b9 cpos (aO es X.env)).any (·.1)=false:=by rfl) :
  PE X (.Call (.Attribute o name apos) (e :: es) [] cpos) (tBM X.K T r to t):=by
 intro pins s σ H Q I h
 refine wpAny_Call_method_late hbase hfew hline rfl (thn (ho pins s σ H _ I h) fun v s1 ⟨x,H1,I1,r1,ty,q1⟩=>?_)
 obtain ⟨h1,h2⟩:=Hg I1 r1 ty
 refine ⟨T,id,pa,slot,hty,h1,h2,?_⟩
 have hA:=ha cpos pins s1 σ H1 _ I1 q1
 rw [hs] at hA ⊢
 refine f9 (by show (false || (b9 cpos (aO es X.env)).any (·.1))=false;rw [hplain] <;> rfl) (ei ?_)
 exact thn hA fun us s2 ⟨vs,H2,I2,r2,q2⟩=>hm pins s2 σ H2 x vs v us Q I2 r1 r2 q2
end
def MtM (X:Cx)(id:String)(r:V->List V->Hp->VK->Prop):Prop:=
 ∀ (pins:List (ay × Obj)) (s:az) (σ:St) (H:Hp) (x:V) (xs:List V) (v:aj) (us:List aj) (Q:VK),Inv X pins σ H s->zG x v->zJ xs us->r x xs H Q ->
  aS (aR X.prog X.w) X.A (call (.builtin id) (v :: us)) (EP X pins σ Q) X.xe s
theorem zJ.one:∀ {x:V} {us:List aj},zJ [x] us->∃ u,us=[u]/\zG x u
 | _,_,.cons r .nil=>⟨_,rfl,r⟩
theorem zJ.dropLast {xs:List V}{us:List aj}(h:zJ xs us):zJ xs.dropLast us.dropLast:=by
 induction h with
 | nil=>exact .nil
 | cons r t ih=>
  cases t with
  | nil=>exact .nil
  | cons q t'=>exact .cons r ih
theorem zJ.rep {xs:List V}{us:List aj}(h:zJ xs us):∀ k:Nat,zJ (aH k xs).flatten (aH k us).flatten
 | 0=>.nil
 | k+1=>by
  rw [dh,dh,ej,ej]
  exact zJ.append h (zJ.rep h k)
theorem Zn (its:List aj):∀ (k:Nat) (acc:List aj),
  ny (fun x1 x2=>x1 ++ x2) acc.toArray (aH k its.toArray)=(acc ++ (aH k its).flatten).toArray
 | 0,acc=>by simp
 | k+1,acc=>by
  have e:acc.toArray ++ its.toArray=(acc ++ its).toArray:=by simp
  have e2:(acc ++ its) ++ (aH k its).flatten=acc ++ (aH (k+1) its).flatten:=by
   rw [dh,ej,mF]
  rw [<- e2,<- Zn its k (acc ++ its),<- e,dh,lj]
section
variable {X:Cx}{pins:List (ay × Obj)}{σ:St}{H:Hp}{s:az}{l b:ay}{xs ys zs:List V}
variable {t':Nat}
theorem Inv.lset {its its':List aj} {f:Array aj->Array aj} (I:Inv X pins σ H s)(hH:H l=some (.lst xs))
  (e:s.heap.get? l=some { cls:=.type "list",data:=.seq its.toArray n }) (hf:f its.toArray=its'.toArray) (hv:zJ ys its') (hz:ys.length<=aQ) :
  Inv X pins σ (upd H l (.lst ys)) { s with heap:=s.heap.update l (i6 f),toks:=t' }:=by
 have q:=PySem.IsL.update e f
 rw [hf] at q
 refine I.write (x:=l) (e:=l) (by rw [hH];exact trivial) (.inl rfl) (fun b' u hb hu=>(dP s.heap (i6 f) (Ne.symm hb)).trans hu) ⟨_,q⟩ ?_
 exact ⟨hz,its',_,hv,q⟩
theorem Inv.lnew {its:List aj} (I:Inv X pins σ H s)(hv:zJ ys its)(hz:ys.length<=aQ) :
  Inv X pins σ (upd H s.heap.objs.size (.lst ys)) { s with heap:=s.heap.push { cls:=.type "list",data:=.seq its.toArray },toks:=t' }:=
 I.laid (fun _ _ q=>aE _ q) (aM _) ⟨hz,its,0,hv,bc _ rfl⟩
theorem Inv.fresh (I:Inv X pins σ H s):H s.heap.objs.size=none:=I.hok.fresh (aM _)
theorem Inv.lstM (I:Inv X pins σ H s)(hH:H l=some (.lst xs)):xs.length<=aQ/\∃ (its:List aj) (n:Nat),zJ xs its/\xs.length=its.length/\s.heap.get? l=some { cls:=.type "list",data:=.seq its.toArray n }:=by
 obtain ⟨z,its,n,r,e⟩:=I.hok l _ hH
 exact ⟨z,its,n,r,r.length,e⟩
theorem JR (h:n<=aQ):ez n=false:=by
 unfold ez
 exact decide_eq_false (by omega)
end
section
variable {X:Cx}
noncomputable def vJ:V->List V->Hp->VK->Prop:=fun x vs H Q=>∃ l xs y,x=.ref l/\vs=[y]/\H l=some (.lst xs)/\xs.length<aQ/\Q .non (upd H l (.lst (xs ++ [y])))
theorem Zr:MtM X "list.append" vJ:=by
 intro pins s σ H x vs v us Q I rx rv h
 obtain ⟨l,xs,y,rfl,rfl,hH,hz,q⟩:=h
 cases rx
 obtain ⟨u,rfl,ru⟩:=rv.one
 obtain ⟨z,its,n,r,hl,e⟩:=I.lstM hH
 refine gq F.slot_list_append ⟨_,e,rfl⟩ F.entry_list_append (F.args_list_append_2 _ _) (PySem.list_append l its.toArray n u (by rw [aJ];omega)) ⟨e,?_⟩
 refine ⟨.non,_,I.lset (its':=its ++ [u]) hH e (by simp) (r.append (.cons ru .nil)) ?_,rfl,q⟩
 rw [bA,eT]
 omega
noncomputable def X6:V->List V->Hp->VK->Prop:=fun x vs H Q=>∃ l b xs zs,x=.ref l/\vs=[.ref b]/\H l=some (.lst xs)/\H b=some (.lst zs)/\xs.length+zs.length<=aQ/\Q .non (upd H l (.lst (xs ++ zs)))
theorem LR:MtM X "list.extend" X6:=by
 intro pins s σ H x vs v us Q I rx rv h
 obtain ⟨l,b,xs,zs,rfl,rfl,hH,hB,hz,q⟩:=h
 cases rx
 obtain ⟨u,rfl,ru⟩:=rv.one
 cases ru
 obtain ⟨z,its,n,r,hl,e⟩:=I.lstM hH
 obtain ⟨z2,its2,n2,r2,hl2,e2⟩:=I.lstM hB
 have hsz:its.toArray.size+its2.toArray.size<=aQ:=by rw [aJ,aJ];omega
 have hlong:¬ (!its.toArray.isEmpty && ez (its.toArray.size+its2.toArray.size))=true:=by
  rw [JR hsz,gb]
  exact bo
 refine gq F.slot_list_extend ⟨_,e,rfl⟩ F.entry_list_extend (F.args_list_extend_2 _ _)
  (AutoSeq1.list_extend_list_list_0 l its.toArray n b its2.toArray n2 hlong (by rw [aJ];omega) (by omega)) ⟨e,e2,?_⟩
 refine ⟨.non,_,I.lset (its':=its ++ its2) hH e (by simp) (r.append r2) ?_,rfl,q⟩
 rw [bA]
 omega
noncomputable def EM:R2:=fun x y H Q=>∃ l b xs zs,x=.ref l/\y=.ref b/\H l=some (.lst xs)/\H b=some (.lst zs)/\xs.length+zs.length<=aQ/\∀ p,H p=none->Q (.ref p) (upd H p (.lst (xs ++ zs)))
theorem kQ:OpR X (gC .Add) EM:=by
 intro pins s σ H x y v u Q I rx ry h
 obtain ⟨l,b,xs,zs,rfl,rfl,hH,hB,hz,q⟩:=h
 cases rx
 cases ry
 obtain ⟨z,its,n,r,hl,e⟩:=I.lstM hH
 obtain ⟨z2,its2,n2,r2,hl2,e2⟩:=I.lstM hB
 refine PySem.P.add_list e e2 ?_ (by rw [aJ,aJ];omega)
 have ea:its.toArray ++ its2.toArray=(its ++ its2).toArray:=by simp
 rw [ea]
 exact ⟨.ref _,_,I.lnew (t':=s.toks) (r.append r2) (by rw [bA];omega),rfl,q _ I.fresh⟩
noncomputable def Fw:R2:=fun x y H Q=>∃ l k xs,x=.ref l/\y=.int k/\H l=some (.lst xs)/\-(2 ^ 63)<=k/\k<2 ^ 63/\xs.length * k.toNat<=aQ /\
 ∀ p,H p=none->Q (.ref p) (upd H p (.lst (aH k.toNat xs).flatten))
theorem FL {α:Type}(xs:List α)(k:Nat):(aH k xs).flatten.length=k * xs.length:=by
 induction k with
 | zero=>simp
 | succ k ih=>rw [dh,ej,bA,ih,Nat.succ_mul,Nat.add_comm]
theorem yM:OpR X (gC .Mult) Fw:=by
 intro pins s σ H x y v u Q I rx ry h
 obtain ⟨l,k,xs,rfl,rfl,hH,h1,h2,hz,q⟩:=h
 cases rx
 obtain ⟨t,rfl⟩:=ry
 obtain ⟨z,its,n,r,hl,e⟩:=I.lstM hH
 have hlen:its.toArray.size * k.toNat<=aQ:=by rw [aJ,<- hl];exact hz
 have hcap:¬ its.toArray.size * k.toNat > (2 ^ 63 - 1) / 8:=by
  have:(aQ:Nat)<=(2 ^ 63 - 1) / 8:=by decide
  omega
 have hfit:¬ (!Builtin.List.listFitsIndex k)=true:=by
  rw [fitsIndex_both h1 h2]
  exact bo
 have hlong:¬ ez (its.toArray.size * k.toNat)=true:=by
  rw [JR hlen]
  exact bo
 have hnew:ny (fun x1 x2=>x1 ++ x2) #[] (aH (if its.toArray.isEmpty=true then 0 else k.toNat) its.toArray)=(aH k.toNat its).flatten.toArray:=by
  have f0:∀ m:Nat,ny (fun x1 x2=>x1 ++ x2) #[] (aH m its.toArray)=(aH m its).flatten.toArray:=fun m=>by
   have:=Zn its m []
   rw [List.nil_append] at this
   exact this
  rw [f0]
  cases its with
  | nil=>simp
  | cons a r'=>rw [if_neg (by simp)]
 refine wpAny_binaryOp_repeat_ref (T:="list") (U:="int") (by decide) ⟨_,e,rfl⟩ (fun s'=>typeIs_int s' k t) noFill_list_mul F.fills_int_mul F.slot_int_rmul repeat_list F.slot_int_index.lookup
  (gq F.slot_int_rmul (typeIs_int s k t) F.entry_int_rmul (F.args_int_rmul_2 _ _) (int___rmul___int_list k t l its.toArray n)
   ⟨e,rfl,⟨_,e,rfl⟩,gq F.slot_list_mul ⟨_,e,rfl⟩ F.entry_list_mul (F.args_list_mul_2 _ _) (AutoListH.list___mul___list_int_3 l its.toArray n k t hfit hcap hlong) ⟨e,?_⟩⟩)
 rw [hnew]
 exact ⟨.ref _,_,I.lnew (t':=s.toks) (r.rep k.toNat) (by rw [FL,Nat.mul_comm];exact hz),rfl,q _ I.fresh⟩
end
section
variable {prog:aX}{w:bu}{A:bg}{E:aj->az->Prop}{s:az}
end
section
variable {X:Cx}
end
end L2
namespace Att
open PySem PySem.W PySem.Calls PyProof.Rows
theorem vD {P:Params}{h:Heap}:∀ (ns:List Int) (vs:List aj),WellAll P h vs (ns.map WData.int)->IntsAre vs ns:=by
 intro ns
 induction ns with
 | nil=>
  intro vs w
  rw [mG] at w
  cases w
  exact .nil
 | cons n ns ih=>
  intro vs w
  rw [bQ] at w
  cases w with
  | cons a b=>
   cases a
   exact .cons _ _ (ih _ b)
theorem Vh {l:OpenLaw}{n:Nat}(hn:l.most=some n){P:Params}{h:Heap}{args:List WData}{vals:List aj}
  (hpre:l.row.toRowW.claim.pre args=true) (hwl:WellAll P h vals args) :
  ∃ a vs ns,vals=[aj.ref a]/\args=[WData.list (ns.map WData.int)]/\h.get? a=some { cls:=.type "list",data:=.seq vs.toArray }/\IntsAre vs ns/\ns.length<=n:=by
 have hsh:WShape.hasAll [] args [.list .int]=true:=(pre_splitW hpre).1
 have hc:l.pre.holds [] { args:=args }=true:=(pre_splitW hpre).2
 obtain ⟨d,r,rfl,h1,h2⟩:=hasAllW_cons hsh
 obtain rfl:=hasAllW_nil h2
 obtain ⟨xs,rfl,h3⟩:=hasW_list h1
 obtain ⟨ns,rfl⟩:=items_int h3
 have hlen:ns.length<=n:=by
  unfold OpenLaw.pre at hc
  have h4:(WTm.not (.lt (.lit (.int (n:Int))) (.len (.arg 0)))).holds [] { args:=[.list (ns.map .int)] }=true:=by
   have h4:=(holds_andW hc).1
   rw [hn] at h4
   exact h4
  have h5:=condW_of h4 (w_not (w_lt w_lit (w_len_list (w_arg rfl))))
  rw [aw] at h5
  refine Nat.le_of_not_lt fun q=>?_
  have q':(n:Int)<((ns.length:Nat):Int):=by omega
  first
   | (rw [decide_eq_true q'] at h5;exact absurd h5 (by decide))
   | (simp at h5;omega)
 cases hwl with
 | cons w1 w2=>
  cases w2
  cases w1 with
  | list ho hall=>exact ⟨_,_,ns,rfl,rfl,ho,vD ns _ hall,hlen⟩
theorem VY (l:OpenLaw)(args:List WData):l.row.toRowW.claim.post args (.bool true) args=true:=
 postW_of (r:=l.row.toRowW) (X:=(true == true))
  (show WShape.has [] (.bool true) .bool=true by first | rfl | decide | simp [WShape.has,WShape.arms,WShape.armsAll])
  (show (WTm.eq .res (.lit (.bool true))).value [] { args:=args,res:=some (.bool true),after:=args }=some (.bool (true == true)) from w_eq_bool (w_res rfl) w_lit) rfl
theorem attach_call {l:OpenLaw}{n:Nat}{q:aX}{loose:List Str}{XP:(Str->Option aj)->Heap->Prop}{YP:bu->Heap->Prop}{d:DefRec}
  (hn:l.most=some n) (hdf:d.params.defaults=[])
  (call:∀ (w:bu) (s₀ s₁:az) (mg mb:Str->Option aj) (fa:ay) (o:Obj) (pm cd doc:aj) (a:ay) (vs:List aj) (ns:List Int),
   Ground q loose [] XP w s₀ mg mb s₁.heap->YP w s₁.heap ->
   s₁.heap.get? fa=some o->o.data=.func (docDef d.name d.params d.body d.scope pm cd doc)->s₁.heap.CodeRec cd d.name->mg d.name=some (.ref fa) ->
   s₁.heap.get? a=some { cls:=.type "list",data:=.seq vs.toArray }->IntsAre vs ns->ns.length<=n->s₁.gens=#[] ->
   fL (aR l.prog w) lJ (.call (.ref fa) ⟨[.ref a],[]⟩) (fun r s'=>r=.ok (.ret (.bool true))/\OldK s₁.heap s'.heap/\s'.os=s₁.os/\gQ s'.gens) s₁) :
  WalkO q loose XP YP l.row.toRowW d [] (fun f vs=>nz f vs):=by
 intro w s₀ s₁ mg mb G Y fa o pm cd doc dV kV ho hd hcd hD hmg hg args vals as hpre hlay hrd hwl hlo
 obtain rfl:dV=.none:=Dflts.none hD hdf
 obtain rfl:kV=.none:=Dflts.noKw hD
 obtain ⟨a,vs,ns,rfl,rfl,hobj,hints,hlen⟩:=Vh hn hpre hwl
 refine enter_call (fj (call w s₀ s₁ mg mb fa o pm cd doc a vs ns G Y ho (fd_plain hd) hcd hmg hobj hints hlen hg) fun r s' hq=>?_)
 obtain ⟨rfl,h2,h3,h4⟩:=hq
 exact ⟨.inl ⟨.bool true,.bool true,[],rfl,fun _=>rfl,.bool true,VY l _,fun _=>⟨lQ.nil,fun _ hm=>(nomatch hm)⟩⟩,h2,h3,h4⟩
section
variable {prog:aX}{w:bu}{A:bg}{E:aj->az->Prop}{s:az}{K:Frag}
noncomputable def Ng (h:Heap)(L d:ay):List (ay × Obj):=(b8 h.objs.size).filterMap fun a=>if a=L \/ a=d then none else (h.get? a).map fun o=>(a,o)
end
end Att
namespace L2
open PySem PySem.Spec PyProof.Rows
theorem ZH:∀ {vs:List aj} {ns:List Int},IntsAre vs ns->zJ (ns.map V.int) vs
 | _,_,.nil=>.nil
 | _,_,.cons n t h=>.cons ⟨t,rfl⟩ (ZH h)
def G6 (H:Hp):Prop:=∀ b,H b=none \/ ∃ o xs,H b=some (.frz o (.lst xs))
theorem Dt {P:aX}{w:bu}{K:aA}{mg mb:Str->Option aj}{CX:CXT}{k:Nat}{fa a:ay}{fd:df}{x:Str}{sp:Sp}{s₁:az}{vs:List aj}{ns:List Int}
  (KX:K.In s₁.heap) (hns:s₁.heap.Ns bh mg) (hb:s₁.heap.Ns builtinsNs mb) (hbb:∀ x:Str,x ≠ "__name__"->mb x=bH x) (hlim:s₁.heap.NoLimit) (hg:s₁.gens=#[])
  (ha:s₁.heap.get? a=some { cls:=.type "list",data:=.seq vs.toArray }) (hi:IntsAre vs ns) (hl:ns.length<=aQ) (hr:qu k lJ)
  (F:∀ base:Heap,K.In base->base.Ns bh mg->jK P w K mg base CX k fa fd [x] sp) (hbind:∀ (s:az) (u:aj),i3 s fd ⟨[u],[]⟩ [(x,u)])
  (hsp:∀ H:Hp,G6 H->SqL K H a (ns.map V.int)->sp [.ref a] H (fun v _=>v=.bl true) fun _ _ _=>False)
  (hCX:∀ H e s',CX [] H s₁ (fun _ _ _=>False) e s'->False) :
  fL (aR P w) lJ (.call (.ref fa) ⟨[.ref a],[]⟩) (fun r s'=>r=.ok (.ret (.bool true))/\OldK s₁.heap s'.heap/\s'.os=s₁.os/\gQ s'.gens) s₁:=by
 have rv:=ZH hi
 have lenV:=hi.length
 have core:∀ H:Hp,G6 H->SqL K H a (ns.map V.int)->HOk P w H s₁.heap->(∀ b,H b ≠ none->b=a)->(H a ≠ none->K.lookup a=none) ->
   fL (aR P w) lJ (.call (.ref fa) ⟨[.ref a],[]⟩) (fun r s'=>r=.ok (.ret (.bool true))/\OldK s₁.heap s'.heap/\s'.os=s₁.os/\gQ s'.gens) s₁:=by
  intro H hO hS hok hA hK
  have base_of:∀ {b:ay} {o:Obj},s₁.heap.get? b=some o->H b=none->(ZU s₁.heap H).get? b=some o:=fun e n=>Ad e n
  have noA:∀ {b:ay} {o:Obj} {es:Array DictEntry} {ep:Nat},s₁.heap.get? b=some o->o.data=.dict es ep->H b=none:=fun {b o es ep} e d=>by
   cases q:H b with
   | none=>rfl
   | some u=>
    have e':b=a:=hA b (by rw [q];simp)
    subst e'
    rw [ha] at e;cases e
    have d':fb vs.toArray _=Data.dict es ep:=d
    cases d'
  have nsK:∀ {b:ay} {m:Str->Option aj},s₁.heap.Ns b m->(ZU s₁.heap H).Ns b m:=fun {b m} ⟨o,es,ep,e,d,r⟩=>⟨o,es,ep,base_of e (noA e d),d,r⟩
  have hKb:K.In (ZU s₁.heap H):=fun b o e=>base_of (KX b o e) (by
   cases q:H b with
   | none=>rfl
   | some u=>
    have e':b=a:=hA b (by rw [q];simp)
    subst e'
    rw [hK (by rw [q];simp)] at e;cases e)
  have hM:Mod K mg (ZU s₁.heap H):=⟨hKb,nsK hns,⟨mb,nsK hb,hbb⟩,let ⟨mc,h1,h2⟩:=hlim;⟨mc,nsK h1,h2⟩⟩
  have e0:Qq P w K mg (ZU s₁.heap H) lJ [] s₁ H:=⟨rfl,hM,fun b o e=>Eb e,mB (V1 _ _),trivial,fun b hb=>absurd (show b ∈ ([]:List ay) from hb) (by simp),hok,.of_eq hg⟩
  refine fj ((F _ hKb (nsK hns)).run lJ [] s₁ H ⟨[.ref a],[]⟩ [.ref a] [.ref a] _ _ hr e0 (hbind s₁ (.ref a)) (.cons rfl .nil) (hsp H hO hS)) fun r s' h=>?_
  cases r with
  | error e=>exact (hCX H e s' h).elim
  | ok fl=>
   cases fl with
   | next=>exact bM h
   | brk=>exact bM h
   | cont=>exact bM h
   | ret u=>
    obtain ⟨v,H',os,bare,un,hok',r',q⟩:=h
    have q':v=.bl true:=q
    subst q'
    obtain rfl:u=aj.bool true:=r'
    refine ⟨rfl,OldK.of_keep fun b o e=>?_,os,bare⟩
    cases q:H b with
    | none=>exact un.keep b o e q (by intro z;exact absurd (show b ∈ ([]:List ay) from z) (by simp)) (by simp)
    | some u=>
     rcases hO b with z | ⟨ob,xs,z⟩
     ·rw [q] at z;cases z
     ·have z2:=un.frzs b ob _ z
      obtain ⟨e1,_⟩:=hok b _ z
      obtain ⟨e2,_⟩:=hok' b _ z2
      rw [e] at e1;cases e1
      exact e2
 cases hk:K.lookup a with
 | some o=>
  have e:=KX a o hk
  rw [ha] at e
  cases e
  refine core (fun _=>none) (fun _=>.inl rfl) (.inr ⟨_,vs.toArray,_,hk,rfl,rfl,rfl,by rw [aJ,lenV];exact hl,by simpa using rv⟩) (fun b u z=>by have z':(none:Option HO)=some u:=z;cases z') (fun b z=>absurd rfl z) fun z=>absurd rfl z
 | none=>
  refine core (fun b=>if b=a then some (.frz { cls:=.type "list",data:=.seq vs.toArray } (.lst (ns.map V.int))) else none) (fun b=>?_) (.inl (.inr ⟨{ cls:=.type "list",data:=.seq vs.toArray },if_pos rfl⟩)) (fun b u z=>?_) (fun b z=>?_) fun _=>hk
  ·by_cases hb:b=a
   ·exact .inr ⟨_,_,if_pos hb⟩
   ·exact .inl (if_neg hb)
  ·by_cases hb:b=a
   ·have z':=(if_pos hb).symm.trans z
    cases z'
    subst hb
    exact ⟨ha,by rw [aw];exact hl,vs,_,rv,ha⟩
   ·have z':=(if_neg hb).symm.trans z
    cases z'
  ·by_cases hb:b=a
   ·exact hb
   ·exact absurd (if_neg hb) z
noncomputable abbrev KOf {K:aA}{h:Heap}(_:K.In h):aA:=K
theorem walk_of {l:PySem.W.OpenLaw}{n k:Nat}{q:aX}{loose:List Str}{XP:(Str->Option aj)->Heap->Prop}{YP:bu->Heap->Prop}{d:DefRec}{K:Params->aA}{CX:bu->CXT}{sp:bu->Sp}{x:Str}
  (hn:l.most=some n) (hn2:n<=aQ) (hdf:d.params.defaults=[]) (hr:qu k lJ)
  (hY:∀ (w:bu) (h:Heap),YP w h->(K w.params).In h)
  (F:∀ (w:bu) (mg:Str->Option aj) (fa:ay) (h:Heap),(K w.params).In h->h.Ns bh mg->mg d.name=some (.ref fa) ->
   ∃ fd:df,(∀ (s:az) (u:aj),i3 s fd ⟨[u],[]⟩ [(x,u)]) /\
    ∀ base:Heap,(K w.params).In base->base.Ns bh mg->jK l.prog w (K w.params) mg base (CX w) k fa fd [x] (sp w))
  (hsp:∀ (w:bu) (H:Hp) (a:ay) (ns:List Int),ns.length<=n->G6 H->SqL (K w.params) H a (ns.map V.int)->sp w [.ref a] H (fun v _=>v=.bl true) fun _ _ _=>False)
  (hCX:∀ (w:bu) (H:Hp) (s:az) (e:aj) (s':az),CX w [] H s (fun _ _ _=>False) e s'->False) :
  PySem.W.WalkO q loose XP YP l.row.toRowW d [] (fun f vs=>nz f vs):=by
 refine Att.attach_call hn hdf fun w s₀ s₁ mg mb fa o pm cd doc a vs ns G Y ho hd hcd hmg hobj hints hlen hg=>?_
 have KX:=hY w _ Y
 obtain ⟨fd,hb,hF⟩:=F w mg fa _ KX G.T.g hmg
 exact Dt KX G.T.g G.T.b G.T.builtins G.T.nolimit hg hobj hints (bz hlen hn2) hr hF hb (fun H hO hS=>hsp w H a ns hlen hO hS) fun H e s'=>hCX w H s₁ e s'
end L2
namespace L2
open PySem PySem.Spec PyProof.Rows
noncomputable def qM (s:cg)(j:Nat):cg:=match s with
 | .ClassDef _ _ _ body _ _ _ _ _ _ _=>body.getD j (.Pass ⟨0,0,0,0⟩)
 | _=>.Pass ⟨0,0,0,0⟩
noncomputable def qx (s:cg):Arguments:=match s with
 | .FunctionDef _ a _ _ _ _ _ _ _ _=>a
 | _=>{ posonlyargs:=[],args:=[],vararg:=none,kwonlyargs:=[],kw_defaults:=[],kwarg:=none,defaults:=[] }
noncomputable def zQ (s:cg):List cg:=match s with
 | .FunctionDef _ _ b _ _ _ _ _ _ _=>b
 | _=>[]
noncomputable def zg (s:cg):Scope:=match s with
 | .FunctionDef _ _ _ _ _ _ sc _ _ _=>sc
 | _=>{ kind:=.function,names:=[],isGenerator:=false,isCoroutine:=false }
noncomputable abbrev CX0:CXT:=fun _ _ _ _ _ _=>False
noncomputable abbrev E0:XK:=fun _ _ _=>False
variable {X:Cx}
theorem XA:xl CX0 X E0:=fun _ _ _ _ _ _ _ h=>h.elim
structure Fun (K:aA)(x qual:Str)(st:cg)(f:ay)(fd:df):Prop where
 ex:∃ (oc:aj) (od:Option ay) (kV doc pm:aj) (an:Option ay) (cdv ct:aj) (osl:Array (Option aj)),
  fd=bJ x qual (qx st) (zQ st) (zg st) .none kV doc pm an cdv ct/\K.lookup f=some ⟨oc,od,.func fd,osl⟩/\e9 K cdv qual=true
 kp:de K (.ref f)=true
section
variable {P:aX}{w:bu}{K:aA}{mg:Str->Option aj}{base:Heap}
variable {st:cg} {f:ay} {fd:df}
theorem Fun.ok {x qual:Str} {N ps:List Str}{k:Nat}{sp:Sp}(F:Fun K x qual st f fd)(S:zr N ps (zg st))(len:∀ vs H Q E,sp vs H Q E->vs.length=ps.length)
  (hbody:∀ (cdv:aj) (A:bg) (outer:List Env) (s:az) (H:Hp) (vs:List V) (Q:VK) (E:XK),qu k (A.deeper (e8 qual (zg st) s.heap.objs.size f cdv))->sp vs H Q E ->
   ∃ t,PSs (jS CX0 P w K mg base N qual (zg st) f cdv A outer s H E).nox (zQ st) t/\t { nx:=fun _ H'=>Q .non H',rt:=Q } (start N vs) H):jK P w K mg base CX0 (k+1) f fd ps sp:=by
 obtain ⟨oc,od,kV,doc,pm,an,cdv,ct,osl,rfl,lk,hcd⟩:=F.ex
 refine DK lk hcd S len fun A outer s H vs Q E hr hsp=>?_
 obtain ⟨t,h,q⟩:=hbody cdv A outer s H vs Q E hr hsp
 exact ⟨t,h.nox,q⟩
theorem Fun.binds {x qual:Str} {ps:List Str}(F:Fun K x qual st f fd)
  (h:∀ (kV doc pm:aj) (an:Option ay) (cdv ct:aj) (us:List aj),us.length=ps.length->eM (bJ x qual (qx st) (zQ st) (zg st) .none kV doc pm an cdv ct) ⟨us,[]⟩=pure (ps.zip us)):jH K fd ps []:=by
 obtain ⟨oc,od,kV,doc,pm,an,cdv,ct,osl,rfl,lk,hcd⟩:=F.ex
 exact .all (h kV doc pm an cdv ct)
theorem fun_mk {x qual:Str} {oc:aj}{od an:Option ay}{osl:Array (Option aj)}{kV doc pm cdv ct:aj}(l:K.lookup f=some ⟨oc,od,.func (bJ x qual (qx st) (zQ st) (zg st) .none kV doc pm an cdv ct),osl⟩)
  (c:e9 K cdv qual=true) (k:de K (.ref f)=true):Fun K x qual st f (bJ x qual (qx st) (zQ st) (zg st) .none kV doc pm an cdv ct):=⟨⟨oc,od,kV,doc,pm,an,cdv,ct,osl,rfl,l,c⟩,k⟩
end
theorem Mq {A:bg}{k:Nat}(hr:qu k A):A.units+1<g0:=Nat.lt_of_le_of_lt (Nat.add_le_add_left (by decide:1<=64) _) hr.units
section
variable {X:Cx}
theorem pv (i:Nat){x:Str}{pos:Pos}(hN:X.N[i]?=some x:=by rfl)(hv:Vis X.env.scope x:=by first | exact aV rfl | exact aW (aV rfl) | exact aW (aW rfl))(hd:(x == ("__debug__":Str))=false:=by decide)
  (hcd:(x == ("__classdict__":Str))=false:=by decide):PE X (.Name x pos) (wZ i):=LN hN hv hd hcd
end
theorem MU {c A B:Prop}[Decidable c](h1:c->A)(h2:¬ c->B):if c then A else B:=by
 by_cases h:c
 ·rw [if_pos h]
  exact h1 h
 ·rw [if_neg h]
  exact h2 h
section
variable {κ:Type}[DecidableEq κ]
noncomputable def xw (kvs:List (κ × V))(k:κ):Option V:=(kvs.find? fun kv=>decide (kv.1=k)).map (·.2)
noncomputable def wX (kvs:List (κ × V))(k:κ)(v:V):List (κ × V):=
 if (kvs.any fun kv=>decide (kv.1=k))=true then kvs.map (fun kv=>if kv.1=k then (kv.1,v) else kv) else kvs ++ [(k,v)]
variable {p:κ × V} {r:List (κ × V)}
theorem wv {k:κ}(e:p.1=k):xw (p :: r) k=some p.2:=by simp [xw,bS,e]
theorem yI {k:κ}(e:¬ p.1=k):xw (p :: r) k=xw r k:=by simp [xw,bS,e]
theorem Jz (kvs:List (κ × V))(k:κ)(v:V):(wX kvs k v).length<=kvs.length+1:=by
 unfold wX
 split
 ·rw [aw];omega
 ·rw [bA,ba,fK];omega
theorem xU.getD {o:Option V}{u:Option aj}{d:V}{d':aj}(r:xU o u)(rd:zG d d'):zG (o.getD d) (u.getD d'):=by
 cases o with
 | none=>cases u with
  | none=>exact rd
  | some _=>exact (show False from r).elim
 | some _=>cases u with
  | none=>exact (show False from r).elim
  | some _=>exact r
theorem KV.val {kvs:List (κ × V)}{vs:List (κ × aj)}(r:KV kvs vs)(k:κ):xU (xw kvs k) (mH vs k):=by
 unfold KV at r
 induction r with
 | nil=>exact True.intro
 | @cons p q ps qs h t ih=>
  obtain ⟨h1,h2⟩:=h
  by_cases e:p.1=k
  ·have e':q.1=k:=h1.symm.trans e
   have b:mH (q :: qs) k=some q.2:=by simp [mH,bS,e']
   rw [wv e,b];exact h2
  ·have e':¬ q.1=k:=fun z=>e (h1.trans z)
   have b:mH (q :: qs) k=mH qs k:=by simp [mH,bS,e']
   rw [yI e,b];exact ih
theorem KV.any {kvs:List (κ × V)}{vs:List (κ × aj)}(r:KV kvs vs)(k:κ):(kvs.any fun kv=>decide (kv.1=k))=vs.any fun kv=>decide (kv.1=k):=by
 unfold KV at r
 induction r with
 | nil=>rfl
 | cons h t ih=>rw [iA,iA,ih,h.1]
theorem KV.repl {kvs:List (κ × V)}{vs:List (κ × aj)}(r:KV kvs vs)(k:κ){y:V}{u:aj}(ry:zG y u) :
  KV (kvs.map fun kv=>if kv.1=k then (kv.1,y) else kv) (vs.map fun kv=>if kv.1=k then (kv.1,u) else kv):=by
 unfold KV at r ⊢
 induction r with
 | nil=>exact .nil
 | @cons p q ps qs h t ih=>
  rw [bQ,bQ]
  refine .cons ?_ ih
  obtain ⟨h1,h2⟩:=h
  by_cases e:p.1=k
  ·rw [if_pos e,if_pos (h1.symm.trans e)];exact ⟨h1,ry⟩
  ·rw [if_neg e,if_neg (fun z=>e (h1.trans z))];exact ⟨h1,h2⟩
theorem KV.put {kvs:List (κ × V)}{vs:List (κ × aj)}(r:KV kvs vs)(k:κ){y:V}{u:aj}(ry:zG y u):KV (wX kvs k y) (stored vs k u):=by
 unfold wX stored
 rw [r.any k]
 by_cases e:(vs.any fun kv=>decide (kv.1=k))=true
 ·rw [if_pos e,if_pos e];exact r.repl k ry
 ·rw [if_neg e,if_neg e];exact gF.snoc r ⟨rfl,ry⟩
end
theorem Yj {P:aX}{w:bu}{k:Key}{u:aj}(r:zG (kV k) u):(qh P w).is k u=true:=by
 cases k with
 | inl i=>obtain ⟨t,e⟩:=(show ∃ t,u=aj.int i t from r);subst e;exact JM P w i t
 | inr x=>obtain ⟨t,e⟩:=(show ∃ t,u=aj.str x t from r);subst e;exact Jm P w x t
theorem ZF {P:aX}{w:bu}:∀ {ks:List Key} {us:List aj},zJ (ks.map kV) us->ItemsAre (qh P w) ks us
 | [],_,r=>by rw [mG] at r;cases r;exact .nil
 | k :: ks,_,r=>by
  rw [bQ] at r
  cases r with
  | cons h t=>exact .cons (Yj h) (ZF t)
noncomputable abbrev KT (H:Hp):List (List Key × V)->List (List Key × ay × aj)->Prop:=gF fun p q=>p.1=q.1/\H q.2.1=some (.tup (p.1.map kV))/\zG p.2 q.2.2
theorem KT.val {H:Hp}{kvs:List (List Key × V)}{xs:List (List Key × ay × aj)}(r:KT H kvs xs)(k:List Key):xU (xw kvs k) ((atKey xs k).map (·.2)):=by
 induction r with
 | nil=>exact True.intro
 | @cons p q ps qs h t ih=>
  obtain ⟨h1,_,h2⟩:=h
  by_cases e:p.1=k
  ·have e':q.1=k:=h1.symm.trans e
   have b:atKey (q :: qs) k=some q.2:=by simp [atKey,bS,e']
   rw [wv e,b];exact h2
  ·have e':¬ q.1=k:=fun z=>e (h1.trans z)
   have b:atKey (q :: qs) k=atKey qs k:=by simp [atKey,bS,e']
   rw [yI e,b];exact ih
section
variable {P:aX}{w:bu}{H:Hp}{h:Heap}{a:ay}
theorem GH {u:HO}(ok:HOk P w H h)(e:Rd H a u):zS P w H h a u:=e.ok ok
variable {kvs:List (Key × V)}
theorem B8 (ok:HOk P w H h)(e:Rd H a (.dK kvs)):kvs.length<=aQ/\(a == dJ)=false/\∃ vs,KV kvs vs/\h.DictOf (qh P w) a vs:=
 show zS P w H h a (.dK kvs) from GH ok e
theorem MF (ok:HOk P w H h)(e:H a=some (.dK kvs)):kvs.length<=aQ/\(a == dJ)=false/\∃ vs,KV kvs vs/\h.DictOf (qh P w) a vs:=B8 ok (.inl e)
theorem Dk {ks:List Key}(ok:HOk P w H h)(e:H a=some (.tup (ks.map kV))):(lH (qh P w)).is h ks a:=by
 obtain ⟨_,its,r,o,h1,h2,⟨n,h3⟩,_⟩:=(show zS P w H h a (.tup (ks.map kV)) from ok a _ e)
 exact ⟨o,its.toArray,n,h1,h2,h3,by simpa using ZF r⟩
theorem GD {kvs:List (List Key × V)}(ok:HOk P w H h)(e:Rd H a (.dT kvs)):kvs.length<=aQ/\(a == dJ)=false /\
  ∃ xs,KT H kvs xs/\h.DictOfH (lH (qh P w)) a xs:=by
 obtain ⟨z,y,xs,r,o,es,ep,h1,h2,h3,h4,h5⟩:=(show zS P w H h a (.dT kvs) from GH ok e)
 refine ⟨z,y,xs,r,o,es,ep,h1,h2,h3,h4,fun x hx=>?_,h5⟩
 have all:∀ {l:List (List Key × V)} {m:List (List Key × ay × aj)},KT H l m->∀ x ∈ m,(lH (qh P w)).is h x.1 x.2.1:=by
  intro l m q
  induction q with
  | nil=>intro x hx;exact nomatch hx
  | @cons p q ps qs hq t ih=>
   intro x hx
   rcases aF.mp hx with e | hx
   ·subst e
    exact Dk ok (by rw [<- hq.1];exact hq.2.1)
   ·exact ih x hx
 exact all r x hx
end
def Bf (H:Hp)(a:ay)(y:V)(r:Option V):Prop:=
 (∃ kvs k,Rd H a (.dK kvs)/\y=kV k/\r=xw kvs k) \/ ∃ kvs k b,Rd H a (.dT kvs)/\y=.ref b/\H b=some (.tup (k.map kV))/\r=xw kvs k
theorem Bf.k {H:Hp}{a:ay}{kvs:List (Key × V)}{k:Key}(e:H a=some (.dK kvs)):Bf H a (kV k) (xw kvs k):=.inl ⟨kvs,k,.inl e,rfl,rfl⟩
section
variable {X:Cx}{pins:List (ay × Obj)}{σ:St}{H:Hp}{s:az}{a:ay}{y v:V}{u r:aj}{o:Option V}{A:bg}{E:aj->az->Prop}
theorem Inv.big (I:Inv X pins σ H s):dJ<s.heap.objs.size:=by
 have h:bh<s.heap.objs.size:=(I.mod.glob.keeps I.bk).lt
 exact Nat.lt_trans (by decide) h
variable {h':Heap}
theorem Fs {t':Nat}{ob:HO}(I:Inv X pins σ H s)(mu:Mut (H a))(hs:bX a s.heap h')(he:∃ q,h'.get? a=some q)(new:zS X.prog X.w (upd H a ob) h' a ob) :
  Inv X pins σ (upd H a ob) { s with heap:=h',toks:=t' }:=
 I.write (x:=a) (e:=a) mu (.inl rfl) (fun b q hb z=>(hs.2 b hb).trans z) he new
theorem Lb {P:aX}{w:bu}{H':Hp} {kvs:List (Key × V)}{vs:List (Key × aj)}(z:kvs.length<=aQ)(hd:(a == dJ)=false)(rel:KV kvs vs)(dd:h'.DictOf (qh P w) a vs) :
  zS P w H' h' a (.dK kvs):=⟨z,hd,vs,rel,dd⟩
end
section
variable {X:Cx}{pins:List (ay × Obj)}{σ:St}{H:Hp}{s:az}{a:ay}{kvs:List (Key × V)}{k:Key}{u:aj}{A:bg}{E:aj->az->Prop}
end
section
variable {X:Cx}{o i e value:Expr}{pos pos' tpos:Pos}{td ty tv:TE}
end
variable {H:Hp}
theorem WC {P:aX}{w:bu} (h:Heap)(hb:dJ<h.objs.size):zS P w H (h.push { cls:=.type "dict",data:=.dict #[] }) h.objs.size (.dK []):=
 ⟨cV _,beq_eq_false_iff_ne.mpr (Ne.symm (bq hb)),[],.nil,Heap.DictOf.new h⟩
section
variable {X:Cx}{pos:Pos}
end
noncomputable def wo:List (TE × TE)->St->Hp->(List (V × V)->Hp->Prop)->Prop
 | [],_,H,Q=>Q [] H
 | (tk,tv) :: r,σ,H,Q=>tk σ H fun x H1=>tv σ H1 fun y H2=>wo r σ H2 fun ps H3=>Q ((x,y) :: ps) H3
noncomputable abbrev VV:List (V × V)->List (aj × aj)->Prop:=gF fun p q=>zG p.1 q.1/\zG p.2 q.2
def PPs (X:Cx)(pos:Pos)(keys:List (Option Expr))(values:List Expr)(trs:List (TE × TE)):Prop:=
 ∀ (pins:List (ay × Obj)) (s:az) (σ:St) (H:Hp) (Q:List (V × V)->Hp->Prop),Inv X pins σ H s->wo trs σ H Q ->
  aS (aR X.prog X.w) X.A (evalPairs (pairTrees keys values X.env pos)) (fun vs s'=>∃ ps H',Inv X pins σ H' s'/\VV ps vs/\Q ps H') X.xe s
variable {pos:Pos}
theorem Fm:PPs X pos [] [] []:=fun pins s σ H Q I h=>pairTrees_nil_walk ⟨[],H,I,.nil,h⟩
variable {trs:List (TE × TE)}
theorem yu {k v:Expr}{ks:List (Option Expr)}{vs:List Expr}{tk tv:TE} (hk:PE X k tk)(hv:PE X v tv)(hr:PPs X pos ks vs trs) :
  PPs X pos (some k :: ks) (v :: vs) ((tk,tv) :: trs):=fun pins s σ H Q I h=>
 pairTrees_cons_walk (thn (hk pins s σ H _ I h) fun u s1 ⟨x,H1,I1,rx,q1⟩=>thn (hv pins s1 σ H1 _ I1 q1) fun w2 s2 ⟨y,H2,I2,ry,q2⟩=>
  thn (hr pins s2 σ H2 _ I2 q2) fun ws s3 ⟨ps,H3,I3,rel,q3⟩=>⟨(x,y) :: ps,H3,I3,.cons ⟨rx,ry⟩ rel,q3⟩)
noncomputable def ya (kvs more:List (Key × V)):List (Key × V):=more.foldl (fun acc kv=>wX acc kv.1 kv.2) kvs
theorem KV.merge:∀ {more:List (Key × V)} {rs:List (Key × aj)} {kvs:List (Key × V)} {vs:List (Key × aj)},KV more rs->KV kvs vs->KV (ya kvs more) (merged vs rs):=by
 intro more rs kvs vs r
 unfold KV at r
 induction r generalizing kvs vs with
 | nil=>intro q;exact q
 | @cons p q ps qs h t ih=>
  intro r0
  have e:KV (wX kvs p.1 p.2) (stored vs q.1 q.2):=by
   have:=r0.put p.1 h.2
   rw [<- h.1];exact this
  exact ih e
theorem xX:∀ (more kvs:List (Key × V)),(ya kvs more).length<=kvs.length+more.length
 | [],kvs=>by show kvs.length<=kvs.length+0;omega
 | p :: r,kvs=>by
  have h1:=xX r (wX kvs p.1 p.2)
  have h2:=Jz kvs p.1 p.2
  show (ya (wX kvs p.1 p.2) r).length<=_
  rw [ba];omega
theorem wC {P:aX}{w:bu}:∀ {kvs:List (Key × V)} {ws:List (aj × aj)},VV (kvs.map fun kv=>(kV kv.1,kv.2)) ws->∃ rs,Carries (qh P w) ws rs/\KV kvs rs
 | [],_,r=>by rw [mG] at r;cases r;exact ⟨[],True.intro,.nil⟩
 | p :: kvs,_,r=>by
  rw [bQ] at r
  cases r with
  | @cons a b as bs h t=>
   obtain ⟨rs,c,q⟩:=wC (P:=P) (w:=w) t
   obtain ⟨b1,b2⟩:=b
   exact ⟨(p.1,b2) :: rs,⟨Yj h.1,rfl,c⟩,.cons ⟨rfl,h.2⟩ q⟩
noncomputable def Af (trs:List (TE × TE)):TE:=fun σ H Q=>∀ p,H p=none->wo trs σ (upd H p (.dK [])) fun ps H2=>H2 p=some (.dK [])/\∃ kvs:List (Key × V),ps=kvs.map (fun kv=>(kV kv.1,kv.2))/\kvs.length<=15/\Q (.ref p) (upd H2 p (.dK (ya [] kvs)))
theorem Ek {keys:List (Option Expr)}{values:List Expr} (h:PPs X pos keys values trs)(hall:keys.all (·.isSome)=true)(hl:keys.length=values.length)(h0:keys ≠ [])
  (h15:keys.length<=15):PE X (.Dict keys values pos) (Af trs):=by
 intro pins s σ H Q I q
 have hn:=I.hok.fresh (aM s.heap.objs.size)
 have I1:=I.laid (a:=s.heap.objs.size) (o:=.dK []) (h':=s.heap.push { cls:=.type "dict",data:=.dict #[] }) (t':=s.toks) (fun _ _ q=>aE _ q) (aM _) (WC s.heap I.big)
 refine wpAny_Dict_walk (knd:=qh X.prog X.w) hall hl h0 h15 (thn (h pins _ σ _ _ I1 (q _ hn)) fun ws s2 ⟨ps,H2,I2,rel,e,kvs,ep,lk,q2⟩=>?_)
 subst ep
 obtain ⟨rs,c,rk⟩:=wC (P:=X.prog) (w:=X.w) rel
 obtain ⟨z,hd,vs0,r0,dd⟩:=MF I2.hok e
 cases r0
 refine ⟨rs,c,dd,fun h' dd' hs=>⟨.ref s.heap.objs.size,_,?_,rfl,q2⟩⟩
 have hz:(ya [] kvs).length<=aQ:=by
  have h1:=xX kvs []
  rw [fK] at h1
  rw [cH];omega
 have he:∃ q,h'.get? s.heap.objs.size=some q:=let ⟨q,_,_,hq,_⟩:=dd';⟨q,hq⟩
 exact Fs I2 (by rw [e];exact True.intro) hs he (Lb hz hd (rk.merge .nil) dd')
structure M1 (X:Cx)(o:Expr)(m:Str)(apos:Pos)(e:Expr)(cpos:Pos):Prop where
 base:dS o m X.env (eval o X.env)=eval o X.env
 few:((b9 cpos (aO [e] X.env)).all (fun x=>!x.1) && (fF cpos (dU [] X.env)).all (fun x=>x.1.isSome)
  && decide (([e]:List Expr).length+([]:List ik).length+(if ([]:List ik).isEmpty then 0 else 1)<30))=true
 line:(apos.endLine == cpos.line)=true
 trees:b9 cpos (aO [e] X.env)=[(false,eval e X.env)]
structure M2 (X:Cx)(o:Expr)(m:Str)(apos:Pos)(e f:Expr)(cpos:Pos):Prop where
 base:dS o m X.env (eval o X.env)=eval o X.env
 few:((b9 cpos (aO [e,f] X.env)).all (fun x=>!x.1) && (fF cpos (dU [] X.env)).all (fun x=>x.1.isSome)
  && decide (([e,f]:List Expr).length+([]:List ik).length+(if ([]:List ik).isEmpty then 0 else 1)<30))=true
 line:(apos.endLine == cpos.line)=true
 trees:b9 cpos (aO [e,f] X.env)=[(false,eval e X.env),(false,eval f X.env)]
def IsD (H:Hp)(a:ay):Prop:=(∃ kvs,Rd H a (.dK kvs)) \/ ∃ kvs,Rd H a (.dT kvs)
theorem LM {pins:List (ay × Obj)}{σ:St} {s:az}{a:ay}(I:Inv X pins σ H s)(d:IsD H a) :
  s.TypeIs (.ref a) "dict"/\(∀ b,aj.ref a=.ref b->∃ ob,s.heap.get? b=some ob/\ob.dict=none)/\(a == dJ)=false:=by
 rcases d with ⟨kvs,e⟩ | ⟨kvs,e⟩
 ·obtain ⟨_,hd,vs,_,dd⟩:=B8 I.hok e
  refine ⟨dd.typeIs,fun b q=>?_,hd⟩
  cases q
  obtain ⟨ob,_,_,h1,h2,_⟩:=dd
  exact ⟨ob,h1,h2.2.1⟩
 ·obtain ⟨_,hd,xs,_,dd⟩:=GD I.hok e
  refine ⟨dd.typeIs,fun b q=>?_,hd⟩
  cases q
  obtain ⟨ob,_,_,h1,h2,_⟩:=dd
  exact ⟨ob,h1,h2.2.1⟩
section
variable {X:Cx}{pins:List (ay × Obj)}{σ:St}{H:Hp}{s:az}{a:ay}{y d:V}{u r:aj}{o:Option V}{A:bg}{E:aj->az->Prop}
theorem Lu {Q:aj->az->Prop}(hu:A.units+1<g0)(I:Inv X pins σ H s)(g:Bf H a y o)(ry:zG y u)(rd:zG d r)(h:∀ w' s',Inv X pins σ H s'->zG (o.getD d) w'->Q w' s') :
  aS (aR X.prog X.w) A (call (.builtin "dict.get") [.ref a,u,r]) Q E s:=by
 rcases g with ⟨kvs,k,e,ey,l⟩ | ⟨kvs,k,b,e,ey,eb,l⟩
 ·subst ey
  obtain ⟨z,hd,vs,rel,dd⟩:=B8 I.hok e
  refine mI d8 dd.typeIs gc (iK _ _ _) (meets_dict_get_default (qh X.prog X.w) a (Yj ry) hd r) ⟨_,dd.mapOf,h _ _ (I.tok _) ?_⟩
  rw [l]
  exact (rel.val k).getD rd
 ·subst ey
  cases (show u=aj.ref b from ry)
  obtain ⟨z,hd,xs,rel,dd⟩:=GD I.hok e
  refine mI d8 dd.typeIs gc (iK _ _ _) (meetsH_dict_get_default (lH (qh X.prog X.w)) a b hd r) ⟨tupleKind_room_in1 hu,k,xs,Dk I.hok eb,dd,h _ _ (I.tok _) ?_⟩
  rw [l]
  exact (rel.val k).getD rd
end
noncomputable def D5 (td ty tx:TE):TE:=fun σ H Q=>td σ H fun x H1=>∃ a,x=.ref a/\IsD H1 a/\ty σ H1 fun y H2=>tx σ H2 fun z H3=>∃ o,Bf H3 a y o/\Q (o.getD z) H3
section
variable {X:Cx}{o e f:Expr}{apos cpos:Pos}{td ty tx:TE}
theorem Bu (hu:X.A.units+1<g0)(ho:PE X o td)(he:PE X e ty)(hf:PE X f tx)(m:M2 X o "get" apos e f cpos):PE X (.Call (.Attribute o "get" apos) [e,f] [] cpos) (D5 td ty tx):=by
 intro pins s σ H Q I h
 refine wpAny_Call_method m.base m.few m.line iL d8 lq (thn (ho pins s σ H _ I h) fun u s1 ⟨x,H1,I1,rx,a,ex,d,q1⟩=>?_)
 subst ex
 obtain rfl:u=aj.ref a:=rx
 obtain ⟨t1,t2,_⟩:=LM I1 d
 refine ⟨t1,t2,?_⟩
 rw [m.trees]
 refine f9 rfl (ei (dY (thn (he pins s1 σ H1 _ I1 q1) fun iv s2 ⟨y,H2,I2,ry,q2⟩=>
  dY (thn (hf pins s2 σ H2 _ I2 q2) fun fv s3 ⟨z,H3,I3,rz,ov,g,q3⟩=>eX ?_))))
 exact Lu hu I3 g ry rz fun w' s4 I4 rw'=>⟨_,H3,I4,rw',q3⟩
end
section
variable {X:Cx}{pins:List (ay × Obj)}{σ:St}{H:Hp}{s:az}{a:ay}{kvs:List (Key × V)}{A:bg}{E:aj->az->Prop}
end
section
variable {X:Cx}{pins:List (ay × Obj)}{σ:St}{H:Hp}{s:az}{a:ay}{y:V}{u:aj}{A:bg}{E:aj->az->Prop}
end
section
variable {κ:Type}[DecidableEq κ]
end
end L2
set_option Elab.async false
set_option linter.all false
set_option maxRecDepth 100000
set_option maxHeartbeats 4000000
namespace L2
open PySem PySem.Spec PyProof.Rows
noncomputable def Ws (N:List Str)(ts:List Nat)(sc:Scope)(kind:Str->Option bZ):Bool:=
 sc.kind == .function && sc.names.all (fun y=>y.2 != .cell && (y.2 != .local || sc.names.lookup y.1 == some .local) && (y.2 != .free || kind y.1 == some .cell || kind y.1 == some .free)) &&
  N.zipIdx.all (fun p=>sc.names.lookup p.1 != some .local || ts.contains p.2)
noncomputable def jz (cells:List (Str × ay)):List (Str × bZ)->List (Str × ay)->List (Str × ay)
 | [],acc=>acc
 | (n,k) :: r,acc=>jz cells r (if k=.free then (n,(cells.lookup n).getD 0) :: acc else acc)
theorem Qu {env:Env}:∀ (names:List (Str × bZ)) (acc:List (Str × ay)),(∀ y ∈ names,y.2=.free->∃ c,env.cells.lookup y.1=some c) ->
  (forIn names acc fun (x:Str × bZ) (cs:List (Str × ay))=>(match x with | (name,kind)=>if (kind == bZ.free)=true then (do let c <- cellOf env name;pure (eN ((name,c) :: cs))) else pure (eN cs):Sem (ForInStep (List (Str × ay)))))=pure (jz env.cells names acc)
 | [],acc,_=>rfl
 | (n,k) :: r,acc,h=>by
  rw [gJ]
  by_cases hk:k=.free
  ·subst hk
   obtain ⟨c,hc⟩:=h (n,.free) bD rfl
   have e1:cellOf env n=pure c:=by unfold cellOf;rw [hc]
   simp only [beq_self_eq_true,if_true,e1,pure_bind]
   rw [Qu r _ fun y hy=>h y (bj _ hy)]
   show _=pure (jz env.cells r (if bZ.free=.free then _ else _))
   rw [if_pos rfl,hc];rfl
  ·have hb:(k == bZ.free)=false:=by simpa using hk
   simp only [hb,me,if_false,pure_bind]
   rw [Qu r _ fun y hy=>h y (bj _ hy)]
   show _=pure (jz env.cells r (if k=.free then _ else _))
   rw [if_neg hk]
theorem y9 {cells : List (Str × ay)} : ∀ (names : List (Str × bZ)) (acc : List (Str × ay)), (∀ y ∈ names, y.2 = .free -> ∃ c, cells.lookup y.1 = some c) -> (∀ x c, acc.lookup x = some c -> cells.lookup x = some c) ->
    (∀ x c,(jz cells names acc).lookup x=some c->cells.lookup x=some c)/\(∀ x c,acc.lookup x=some c->∃ c',(jz cells names acc).lookup x=some c')/\∀ y ∈ names,y.2=.free->∃ c,(jz cells names acc).lookup y.1=some c
  | [],acc,_,h2=>⟨h2,fun x c e=>⟨c,e⟩,fun y hy=>nomatch hy⟩
  | (n,k) :: r,acc,h1,h2=>by
    by_cases hk:k=.free
    · subst hk
      obtain ⟨c,hc⟩:=h1 (n,.free) bD rfl
      have hc:cells.lookup n=some c:=hc
      have e:jz cells ((n,.free) :: r) acc=jz cells r ((n,c) :: acc):=by
        show jz cells r (if bZ.free=.free then _ else _)=_
        rw [if_pos rfl,hc];rfl
      rw [e]
      obtain ⟨q1,q2,q3⟩:=y9 (cells:=cells) r ((n,c) :: acc) (fun y hy=>h1 y (bj _ hy)) (fun x c' e'=>by
        rw [cy] at e'
        cases hx:x == n with
        | true => rw [hx] at e'; have : x = n := by simpa using hx
                  subst this;cases e';exact hc
        | false=>rw [hx] at e';exact h2 x c' e')
      refine ⟨q1,fun x c' e'=>?_,fun y hy hf=>?_⟩
      · cases hx:x == n with
        | true=>exact q2 x c (by rw [cy,hx])
        | false=>exact q2 x c' (by rw [cy,hx];exact e')
      · rcases aF.mp hy with rfl | hy
        · exact q2 n c (by rw [cy,beq_self_eq_true])
        · exact q3 y hy hf
    · have e : jz cells ((n, k) :: r) acc = jz cells r acc := by
        show jz cells r (if k=.free then _ else _)=_
        rw [if_neg hk]
      rw [e]
      obtain ⟨q1,q2,q3⟩:=y9 (cells:=cells) r acc (fun y hy=>h1 y (bj _ hy)) h2
      refine ⟨q1,q2,fun y hy hf=>?_⟩
      rcases aF.mp hy with rfl | hy
      · exact absurd hf hk
      · exact q3 y hy hf
variable {scope:Scope}
theorem Ka {env:Env}(h:∀ y ∈ scope.names,y.2=.free->∃ c,env.cells.lookup y.1=some c) :
  ∃ cl,closureFor scope env=pure cl/\(∀ x c,cl.lookup x=some c->env.cells.lookup x=some c)/\∀ y ∈ scope.names,y.2=.free->∃ c,cl.lookup y.1=some c:=by
 obtain ⟨q1,_,q3⟩:=y9 (cells:=env.cells) scope.names [] h (fun x c e=>nomatch e)
 refine ⟨jz env.cells scope.names [],?_,q1,q3⟩
 unfold closureFor
 have:=Qu (env:=env) scope.names [] h
 first
  | exact this
  | (simp only [bind_pure];exact this)
  | (refine Eq.trans ?_ this;simp)
theorem yo {env:Env}:∀ {names:List (Str × bZ)} {x:Str},(names.map fun (n,k)=>if (k == bZ.free && env.scope.kind == .function && env.kindOf n == some .cell) then (n,bZ.cell) else (n,k)).lookup x =
  (names.lookup x).map fun k=>if (k == bZ.free && env.scope.kind == .function && env.kindOf x == some .cell) then bZ.cell else k
 | [],_=>rfl
 | (n,k) :: r,x=>by
  have ih:=@yo env r x
  rw [bQ]
  cases hx:x == n with
  | true=>
   have e:x=n:=by simpa using hx
   subst e
   rw [cy (as:=r),beq_self_eq_true]
   show bP x ((if (k == bZ.free && env.scope.kind == .function && env.kindOf x == some .cell)=true then (x,bZ.cell) else (x,k)) :: _)=some _
   by_cases hc:(k == bZ.free && env.scope.kind == .function && env.kindOf x == some .cell)=true
   ·rw [if_pos hc,cy,beq_self_eq_true];dsimp only;rw [if_pos hc]
   ·rw [if_neg hc,cy,beq_self_eq_true];dsimp only;rw [if_neg hc]
  | false=>
   rw [cy (as:=r),hx]
   show bP x ((if (k == bZ.free && env.scope.kind == .function && env.kindOf n == some .cell)=true then (n,bZ.cell) else (n,k)) :: _)=_
   by_cases hc:(k == bZ.free && env.scope.kind == .function && env.kindOf n == some .cell)=true
   ·rw [if_pos hc,cy,hx];exact ih
   ·rw [if_neg hc,cy,hx];exact ih
noncomputable abbrev cxC (X:Cx)(scope:Scope)(cl:List (Str × ay))(s:az)(H:Hp)(fp:List ay):Cx:=
 { X with s₀:=s,H₀:=H,env:=compEnvC scope cl s.heap.objs.size X.env,outer:=X.stack,ex:=fp,fn:=fun _=>false,pn:=[],xe:=fun _ _=>False }
noncomputable def clr:List Nat->St->St
 | [],σ=>σ
 | j :: r,σ=>clr r (σ.set j none)
theorem YD:∀ (ts:List Nat) (σ:St),(clr ts σ).length=σ.length
 | [],_=>rfl
 | j :: r,σ=>by show (clr r (σ.set j none)).length=_;rw [YD r];simp
theorem Q3:∀ (ts:List Nat) (σ:St) (i:Nat) (v:V),(clr ts σ)[i]?=some (some v)->i ∉ ts/\σ[i]?=some (some v)
 | [],_,_,_,h=>⟨by simp,h⟩
 | j :: r,σ,i,v,h=>by
  obtain ⟨h1,h2⟩:=Q3 r (σ.set j none) i v h
  by_cases e:j=i
  ·subst e
   rw [dG] at h2
   simp at h2
  ·rw [cU e] at h2
   exact ⟨by simp [h1,Ne.symm e],h2⟩
structure ScF (X:Cx)(ts:List Nat)(scope:Scope):Prop where
 kind:scope.kind=.function
 cell:∀ y ∈ scope.names,y.2 ≠ .cell
 loc:∀ y ∈ scope.names,y.2=.local->scope.names.lookup y.1=some .local
 free:∀ y ∈ scope.names,y.2=.free->X.env.kindOf y.1=some .cell \/ X.env.kindOf y.1=some .free
 ts:∀ (i:Nat) x,X.N[i]?=some x->scope.names.lookup x=some .local->i ∈ ts
variable {X:Cx} {ts:List Nat}
theorem LH (h:Ws X.N ts scope X.env.kindOf=true):ScF X ts scope:=by
  unfold Ws at h
  simp only [dj,eE,bne_iff_ne,ne_eq,Bool.or_eq_true,beq_iff_eq] at h
  obtain ⟨⟨h1,h2⟩,h3⟩:=h
  refine ⟨h1,fun y hy=>(h2 y hy).1.1,fun y hy e=>?_,fun y hy e=>?_,fun i x e1 e2=>?_⟩
  · rcases (h2 y hy).1.2 with z | z
    · exact absurd e z
    · exact z
  · rcases (h2 y hy).2 with (z | z) | z
    · exact absurd e z
    · exact .inl z
    · exact .inr z
  · have hm : (x, i) ∈ X.N.zipIdx := by
      rw [List.mem_zipIdx_iff_getElem?];exact e1
    rcases h3 _ hm with z | z
    · exact absurd e2 z
    · simpa using z
section
variable {X:Cx}{ts:List Nat}{scope:Scope}{pins:List (ay × Obj)}{σ:St}{H:Hp}{s:az}{fp:List ay}
theorem Kf (I:Inv X pins σ H s)(S:ScF X ts scope)(hf:∀ b ∈ fp,vH X pins H b)(hfl:∀ b ∈ fp,b<s.heap.objs.size){cl:List (Str × ay)}(c1:∀ x c,cl.lookup x=some c->X.env.cells.lookup x=some c)
  (c2:∀ y ∈ scope.names,y.2=.free->∃ c,cl.lookup y.1=some c) {h1:Heap} {t1:Nat} (hns:h1.Ns s.heap.objs.size (fun x=>([]:List (Str × aj)).reverse.lookup x))
  (hk:∀ b o,s.heap.get? b=some o->h1.get? b=some o):Inv (cxC X scope cl s H fp) [] (clr ts σ) H { s with heap:=h1,toks:=t1 }:=by
 have hlk:∀ x,(mJ scope X.env).names.lookup x=(scope.names.lookup x).map fun k=>if (k == bZ.free && X.env.scope.kind == .function && X.env.kindOf x == some .cell) then bZ.cell else k:=fun x=>yo
 have cfree:∀ x,((mJ scope X.env).names.lookup x=some .cell \/ (mJ scope X.env).names.lookup x=some .free)->(x,bZ.free) ∈ scope.names:=fun x hx=>by
  rw [hlk] at hx
  cases e:scope.names.lookup x with
  | none=>rw [e] at hx;rcases hx with hx | hx <;> cases hx
  | some k=>
   have hm:=mem_of_lookup_some e
   cases k with
   | free=>exact hm
   | cell=>exact absurd rfl (S.cell _ hm)
   | «local»=>rw [e] at hx;rcases hx with hx | hx <;> cases hx
   | globalExplicit=>rw [e] at hx;rcases hx with hx | hx <;> cases hx
   | globalImplicit=>rw [e] at hx;rcases hx with hx | hx <;> cases hx
 have ccell:∀ x c,cl.lookup x=some c->∃ v,s.heap.IsCell c v:=fun x c e=>I.cell x c (c1 x c e)
 have fpne:∀ b ∈ fp,b ∉ frs X.stack:=fun b hb z=>by
  obtain ⟨_,f1,f2,_⟩:=hf b hb
  rcases aF.mp (I.stkSub b z) with e | e
  ·exact f1 e
  ·exact f2 e
 refine ⟨⟨I.ok.mod,S.kind,I.ok.glob,I.ok.blt,aM _,fun x y c e1 e2=>I.ok.inj x y c (c1 x c e1) (c1 y c e2),fun x hx=>c2 (x,.free) (cfree x hx) rfl,(fun x c hx=>nomatch hx),I.ok.hd,I.ok.frames,.inl rfl,fun b hb=>⟨bq (hfl b hb),fun x c e=>(hf b hb).2.2.2.2.1 x c (c1 x c e)⟩,
  I.bs,bz I.ok.bsz I.sz,fun b o e hb=>?_,fpne,I.stack,I.stkFree⟩,rfl,I.bare,Un.kept hk,⟨_,hns,fun i x v e1 e2 e3=>?_⟩,fun x c e=>?_,I.hok.fresh (aM _),fun x c e=>I.freeC x c (c1 x c e),fun p hp=>absurd hp (by simp),I.hok.kept hk,by rw [YD];exact I.len⟩
 ·rcases (hf b hb).2.2.2.1 with z | z
  ·exact I.ok.noex b o e z
  ·exact absurd (bw (aI e) (bz I.ok.bsz z)) (dk _)
 ·obtain ⟨nt,e2⟩:=Q3 ts σ i v e2
  have e3':(mJ scope X.env).names.lookup x=some .local \/ (mJ scope X.env).names.lookup x=some .cell \/ (mJ scope X.env).names.lookup x=some .free:=e3
  rcases e3' with z | z
  ·rw [hlk] at z
   cases e:scope.names.lookup x with
   | none=>rw [e] at z;cases z
   | some k=>
    rw [e] at z
    have z':(if (k == bZ.free && X.env.scope.kind == .function && X.env.kindOf x == some .cell)=true then bZ.cell else k)=.local:=bR z
    split at z'
    ·cases z'
    ·subst z'
     exact absurd (S.ts i x e1 e) nt
  ·have hm:=cfree x z
   obtain ⟨c,hc⟩:=c2 _ hm rfl
   obtain ⟨m,hn,hl⟩:=I.loc
   have vis:Vis X.env.scope x:=by
    rcases S.free _ hm rfl with q | q
    ·exact .inr (.inl q)
    ·exact .inr (.inr q)
   obtain ⟨u,r,l⟩:=hl i x v e1 e2 vis
   refine ⟨u,r,.inr ⟨z,c,hc,?_⟩⟩
   rcases l with ⟨q,_⟩ | ⟨_,c',hc',hcell⟩
   ·rcases S.free _ hm rfl with q' | q'
    ·rw [q'] at q;cases q
    ·rw [q'] at q;cases q
   ·rw [c1 x c hc] at hc'
    cases hc'
    obtain ⟨o,ho,hd⟩:=hcell
    exact ⟨o,hk _ _ ho,hd⟩
 ·obtain ⟨v,o,ho,hd⟩:=ccell x c e
  exact ⟨v,o,hk _ _ ho,hd⟩
end
section
variable {prog:aX}{w:bu}{A:bg}{R:mT->az->Prop}{s:az}
theorem xT {elt target iter : Expr}{ifs : List Expr}{scope : Scope}{pos : Pos}{it acc : aj}{env : Env}(I : Nat -> az -> Prop)
    (turn:∀ n s,I n s->aS (aR prog w) A (lu it) (fun r s₁=>match r with
      | none=>R (.ok .next) s₁
      | some v => aS (aR prog w) A (gG target it v) (fun _ s₀ => aS (aR prog w) A (lV target env v) (fun _ s₂ =>
          aS (aR prog w) A (forIn ifs true fun c r=>if r=true then do let ok <- isTrue c env (eval c env);pure (eN ok) else pure (eN r)) (fun ok s₃=>
            if ok=true then aS (aR prog w) A (eval elt env) (fun x s₄=>
              aS (aR prog w) A (call (.builtin "list.append") [acc,x]) (fun _ s₅=>∃ m,m<n/\I m s₅) (fun _ _=>False) s₄) (fun _ _=>False) s₃
            else ∃ m,m<n/\I m s₃) (fun _ _=>False) s₂) (fun _ _=>False) s₀) (fun _ _=>False) s₁) (fun _ _=>False) s)
    (n:Nat) (h:I n s) :
    fL (aR prog w) A (.compLoop (.ListComp elt [⟨target,iter,ifs,0⟩] scope pos) 0 it acc env) R s:=by
  refine codeAny_loop rfl I (fun n s hI=>?_) n h
  show aS _ A ((compTurn (.ListComp elt [⟨target,iter,ifs,0⟩] scope pos) 0 it acc env).onRaise (fun x=>do iM x env;theTreesLotGoes x)) _ _ s
  refine wpAny_noted ?_
  rw [compTurn_list]
  refine aq (cZ (aq (bn (turn n s hI) (fun r s₁ h₁=>?_) fun _ _ h'=>h'.elim)))
  cases r with
  | none=>exact aL h₁
  | some v=>
    refine aq (bn h₁ (fun _ s₀ h₀=>?_) fun _ _ h'=>h'.elim)
    refine aq (bn h₀ (fun _ s₂ h₂=>aq (bn h₂ (fun ok s₃ h₃=>?_) fun _ _ h'=>h'.elim)) fun _ _ h'=>h'.elim)
    cases ok with
    | false=>exact aL ⟨rfl,h₃⟩
    | true=>
      exact aq (aq (bn h₃ (fun x s₄ h₄=>aq (bn h₄ (fun _ s₅ h₅=>aL (aL ⟨rfl,h₅⟩)) fun _ _ h'=>h'.elim)) fun _ _ h'=>h'.elim))
end
noncomputable def Wp:TT:=fun _ H Q=>Q true H
def PIf (X:Cx)(ifs:List Expr)(t:TT):Prop:=
 ∀ (pins:List (ay × Obj)) (s:az) (σ:St) (H:Hp) (Q:Bool->Hp->Prop),Inv X pins σ H s->t σ H Q ->
  aS (aR X.prog X.w) X.A (forIn ifs true fun c r=>if r=true then do let ok <- isTrue c X.env (eval c X.env);pure (eN ok) else pure (eN r)) (TP X pins σ Q) X.xe s
theorem yp:PIf X [] Wp:=fun _ _ _ H _ I h=>wpAny_tests_nil ⟨H,I,h⟩
variable {c:Expr} {t:TT}
theorem vQ (h:PT X c t):PIf X [c] t:=fun pins s σ H Q I hq=>wpAny_tests_one (h pins s σ H Q I hq)
noncomputable def JU (ts:List Nat)(wi:TI)(g:TG)(tt:TT)(te:TE):TE:=fun σ H Q=>wi σ H fun J H1=>∀ D,H1 D=none->∃ W:Nat->Nat->St->Hp->Prop,(∃ m,W 0 m (clr ts σ) (upd H1 D (.lst [])))/\∀ i m τ H2,W i m τ H2 ->
 (J.stop i H2/\Q (.ref D) H2) \/ (J.go i H2/\∃ N:St->Hp->Prop,(∀ τ' H',N τ' H'->∃ m',m'<m/\W (i+1) m' τ' H')/\∀ x H',J.yld i H2 x H'->g x τ H' fun τ2 H3=>tt τ2 H3 fun b H4=>
  if b=true then te τ2 H4 fun v H5=>∃ ys,H5 D=some (.lst ys)/\ys.length<aQ/\N τ2 (upd H5 D (.lst (ys ++ [v]))) else N τ2 H4)
section
variable {X:Cx}{ts:List Nat}{scope:Scope}{tg iter elt:Expr}{ifs:List Expr}{wi:TI}{g:TG}{tt:TT}{te:TE}{pos:Pos}
theorem Jh (hc:X.calm=true)(hsc:Ws X.N ts scope X.env.kindOf=true)(hi:PI X tg iter wi)(hg:∀ cl s H fp,PG (cxC X scope cl s H fp) tg g)(ht:∀ cl s H fp,PIf (cxC X scope cl s H fp) ifs tt)(he:∀ cl s H fp,PE (cxC X scope cl s H fp) elt te)
  {pins:List (ay × Obj)} {s:az} {σ:St} {H:Hp} {Q:VK} (I:Inv X pins σ H s) (h:JU ts wi g tt te σ H Q) {use:Option (aj->Sem Unit)} {Q':aj->az->Prop}
  (fin:∀ (D C:ay) (H':Hp) (s':az),Inv X pins σ H' s'->(∃ m,s'.heap.Ns C m)->H' C=none->C ≠ X.env.locals->(∀ x c,X.env.cells.lookup x=some c->c ≠ C)->X.s₀.heap.objs.size<=C->(∀ p ∈ X.pn ++ pins,p.1 ≠ C)->C ∉ X.fs->Q (.ref D) H' ->
   compPost (aR X.prog X.w) X.A X.xe use Q' (.ref D) C (.ok .next) s')
  (hs:∀ x,fV iter X.env x=pure x) :
  aS (aR X.prog X.w) X.A (comprehension (.ListComp elt [⟨tg,iter,ifs,0⟩] scope pos) scope X.env (firstIterPos [⟨tg,iter,ifs,0⟩] pos) (newList []) false (eval iter X.env) use) Q' X.xe s:=by
 have S:=LH hsc
 obtain ⟨cl,hcl,c1,c2⟩:=Ka (scope:=scope) (env:=X.env) fun y hy e=>I.ok.has y.1 (S.free y hy e)
 refine wpAny_comprehension_free (use:=use) rfl hs hcl S.kind S.loc ?_
 refine bn (hi pins s σ H _ I h) (fun v s1 h1=>bn h1 (fun itv s2 h2=>?_) fun _ _ e=>e) fun _ _ e=>e
 obtain ⟨it,fp,tn,J,H2,e,I2,T,st2,f2,q2⟩:=h2
 subst e
 have hD:H2 s2.heap.objs.size=none:=I2.hok.fresh (aM _)
 obtain ⟨W,⟨m0,w0⟩,turn⟩:=q2 _ hD
 refine cG (wpAny_newFunctionEnv S.cell (by intro y hy;simp at hy) (fun h₁ hns₁ hsb₁=>?_) S.kind)
 dsimp only at hns₁ hsb₁ ⊢
 generalize hh3:s2.heap.push { cls:=.type "list",dict:=none,data:=.seq ([]:List aj).toArray }=g3 at hns₁ hsb₁ ⊢
 have I3:Inv X pins σ (upd H2 s2.heap.objs.size (.lst [])) { s2 with heap:=g3 }:=by
  rw [<- hh3]
  exact I2.laid (t':=s2.toks) (fun b u e=>aE _ e) (aM _) ⟨cV _,[],_,.nil,bc _ rfl⟩
 have st3:tn 0 g3:=T.keep _ _ _ st2 fun b _ o e=>by rw [<- hh3];exact aE _ e
 have lt2:∀ b ∈ fp,b<s2.heap.objs.size:=fun b hb=>by obtain ⟨o,e,_⟩:=T.obj _ _ st2 b hb;exact aI e
 have hsz3:g3.objs.size=s2.heap.objs.size+1:=by rw [<- hh3,dz]
 have f3:∀ b ∈ fp,vH X pins (upd H2 s2.heap.objs.size (.lst [])) b:=fun b hb=>⟨by rw [zj (bq (lt2 b hb))];exact (f2 b hb).1,(f2 b hb).2⟩
 have lt3:∀ b ∈ fp,b<g3.objs.size:=fun b hb=>by rw [hsz3];exact mK (lt2 b hb)
 have old:∀ b o,g3.get? b=some o->h₁.get? b=some o:=fun b o e=>hsb₁.extBut b o (bq (aI e)) (aE _ e)
 have hns:h₁.Ns g3.objs.size (fun x=>([]:List (Str × aj)).reverse.lookup x):=hns₁
 have I4:∀ t,Inv (cxC X scope cl { s2 with heap:=g3 } (upd H2 s2.heap.objs.size (.lst [])) fp) [] (clr ts σ) (upd H2 s2.heap.objs.size (.lst [])) { s2 with heap:=h₁,toks:=t }:=fun t=>Kf I3 S f3 lt3 c1 c2 hns old
 have fpne:∀ b ∈ fp,b ∉ frs X.stack:=fun b hb z=>by
  obtain ⟨_,f1,f2,_⟩:=f3 b hb
  rcases aF.mp (I3.stkSub b z) with e | e
  ·exact f1 e
  ·exact f2 e
 have stat:∀ {H':Hp},(∀ b ∈ fp,H' b=none)->∀ b ∈ fp,vH (cxC X scope cl { s2 with heap:=g3 } (upd H2 s2.heap.objs.size (.lst [])) fp) [] H' b:=fun hn b hb=>
  ⟨hn b hb,bq (lt3 b hb),fpne b hb,.inl hb,fun x c e=>(f2 b hb).2.2.2.2.1 x c (c1 x c e),fun p hp=>absurd hp (by simp)⟩
 have loop:∀ t,fL (aR X.prog X.w) X.A (.compLoop (.ListComp elt [⟨tg,iter,ifs,0⟩] scope pos) 0 (.ref it) (.ref s2.heap.objs.size) (compEnvC scope cl g3.objs.size X.env))
   (compPost (aR X.prog X.w) X.A X.xe use Q' (.ref s2.heap.objs.size) g3.objs.size) { s2 with heap:=h₁,toks:=t }:=by
  intro t
  refine xT (fun n s'=>∃ i τ H',Inv (cxC X scope cl { s2 with heap:=g3 } (upd H2 s2.heap.objs.size (.lst [])) fp) [] τ H' s'/\tn i s'.heap/\(∀ b ∈ fp,H' b=none)/\W i n τ H') ?_ m0
   ⟨0,clr ts σ,_,I4 t,T.keep _ _ _ st3 fun b _ o e=>old b o e,fun b hb=>(f3 b hb).1,w0⟩
  rintro n s5 ⟨i,τ,H5,I5,st5,fr5,w5⟩
  rcases turn i n τ H5 w5 with ⟨stop,qn⟩ | ⟨go,N,hN,step⟩
  ·refine thn (T.done (cxC X scope cl { s2 with heap:=g3 } (upd H2 s2.heap.objs.size (.lst [])) fp) rfl rfl rfl hc i [] s5 τ H5 _ I5 (stat fr5) st5 stop) fun r s6 ⟨hr,I6⟩=>?_
   subst hr
   have base:Un (frs X.stack) fp (upd H2 s2.heap.objs.size (.lst [])) H5 g3 s6.heap:=I6.base
   have J6:Inv X pins σ H5 s6:=I3.call' (ch:=fp) I6.os base I6.hok I6.bare fun b hb=>⟨(f3 b hb).2.2.2.1,(f3 b hb).2.1,(f3 b hb).2.2.2.2.1,(f3 b hb).2.2.2.2.2⟩
   obtain ⟨m6,n6,_⟩:=I6.loc
   have hC:g3.get? g3.objs.size=none:=e6 (aM _)
   refine fin _ g3.objs.size H5 s6 J6 ⟨m6,n6⟩ I6.free (eh I3.lt) (fun x c e z=>?_) I3.sz (fun p hp z=>?_) (I3.nofs (aM _)) qn
   ·obtain ⟨v,q⟩:=I3.cell x c e
    exact absurd q.lt (by rw [z];exact dk _)
   ·exact absurd (aI (I3.pin p hp).1) (by rw [z];exact dk _)
  ·refine thn (T.item (cxC X scope cl { s2 with heap:=g3 } (upd H2 s2.heap.objs.size (.lst [])) fp) rfl rfl rfl hc i [] s5 τ H5 _ I5 (stat fr5) st5 go) fun r s6 ⟨u,hr,h6⟩=>?_
   subst hr
   refine thn h6 fun _ s7 ⟨x,H7,I7,r7,y7,st7,fr7⟩=>?_
   have I7':=I7.pinned (stat fr7) (T.obj _ _ st7)
   refine thn (hg cl { s2 with heap:=g3 } _ fp _ s7 τ H7 x u _ I7' r7 (step x H7 y7)) fun _ s8 ⟨τ8,H8,I8,q8⟩=>?_
   refine thn (ht cl { s2 with heap:=g3 } _ fp _ s8 τ8 H8 _ I8 q8) fun b s9 ⟨H9,I9,q9⟩=>?_
   have again:∀ {τ9:St} {H9:Hp} {s9:az},Inv (cxC X scope cl { s2 with heap:=g3 } (upd H2 s2.heap.objs.size (.lst [])) fp) ([] ++ wF fp s7.heap) τ9 H9 s9->N τ9 H9 ->
     ∃ m,m<n/\∃ i τ H',Inv (cxC X scope cl { s2 with heap:=g3 } (upd H2 s2.heap.objs.size (.lst [])) fp) [] τ H' s9/\tn i s9.heap/\(∀ b ∈ fp,H' b=none)/\W i m τ H':=fun {τ9 H9 s9} I9 n9=>by
    obtain ⟨m',hm,w9⟩:=hN _ _ n9
    refine ⟨m',hm,i+1,τ9,H9,I9.unpinned,T.keep _ _ _ st7 fun b hb o e=>(I9.pin (b,o) (bT _ (bT _ (kU hb e)))).1,fun b hb=>?_,w9⟩
    obtain ⟨o,e,d⟩:=T.obj _ _ st7 b hb
    exact (I9.pin (b,o) (bT _ (bT _ (kU hb e)))).2.1
   cases b with
   | false=>
    rw [if_neg bo] at q9 ⊢
    exact again I9 q9
   | true=>
    rw [if_pos rfl] at q9 ⊢
    refine thn (he cl { s2 with heap:=g3 } _ fp _ s9 τ8 H9 _ I9 q9) fun y s10 ⟨v,H10,I10,r10,ys,hys,hlen,n10⟩=>?_
    exact thn (Zr (X:=cxC X scope cl { s2 with heap:=g3 } (upd H2 s2.heap.objs.size (.lst [])) fp) _ s10 τ8 H10 (.ref s2.heap.objs.size) [v] (.ref s2.heap.objs.size) [y] (fun _ H11=>N τ8 H11) I10 rfl (.cons r10 .nil) ⟨_,ys,v,rfl,rfl,hys,hlen,n10⟩) fun _ s11 ⟨_,H11,I11,_,n11⟩=>again I11 n11
 have LW:=loop (s2.toks+([]:List (Str × aj)).length)
 exact codeAny_compStart_list LW (T.self _ 0 _ _ _ (T.keep _ _ _ st3 fun b _ o e=>old b o e) LW)
end
section
variable {X:Cx}{ts:List Nat}{scope:Scope}{tg iter elt:Expr}{ifs:List Expr}{wi:TI}{g:TG}{tt:TT}{te:TE}{pos:Pos}
theorem kR (hc:X.calm=true)(hsc:Ws X.N ts scope X.env.kindOf=true)(hi:PI X tg iter wi)(hg:∀ cl s H fp,PG (cxC X scope cl s H fp) tg g)(ht:∀ cl s H fp,PIf (cxC X scope cl s H fp) ifs tt)(he:∀ cl s H fp,PE (cxC X scope cl s H fp) elt te)
  (hs:∀ x,fV iter X.env x=pure x:=by intro _;rfl):PE X (.ListComp elt [⟨tg,iter,ifs,0⟩] scope pos) (JU ts wi g tt te):=by
 intro pins s σ H Q I h
 rw [eval_ListComp]
 refine Jh hc hsc hi hg ht he I h (use:=none) (fun D C H' s' I' ⟨m,hn⟩ hC hL hce hsz hp hfs q=>⟨m,hn,fun h' hs'=>?_⟩) hs
 exact ⟨.ref D,H',I'.turned (t':=s'.toks) (it:=C) (fun b o hb e=>(hs'.2 b hb).trans e) hC hL (.inr hsz) hce hp,rfl,q⟩
theorem Yz {j:Nat}{y:Str}{py spos:Pos}(hc:X.calm=true)(hN:X.N.Nodup)(hj:X.N[j]?=some y)(hy:Loc X.env.scope y)(hsc:Ws X.N ts scope X.env.kindOf=true)(hi:PI X tg iter wi)(hg:∀ cl s H fp,PG (cxC X scope cl s H fp) tg g)(ht:∀ cl s H fp,PIf (cxC X scope cl s H fp) ifs tt)(he:∀ cl s H fp,PE (cxC X scope cl s H fp) elt te)
  (hsw:lI (.ListComp elt [⟨tg,iter,ifs,0⟩] scope pos) (some (.Name y py)) spos.line X.env=pure true:=by rfl)
  (hs:∀ x,fV iter X.env x=pure x:=by intro _;rfl) (hf:X.fn y=true \/ X.env.scope.names.lookup y=some .local:=by first | exact .inl rfl | exact .inr rfl | assumption) :
  PS X (.Assign [.Name y py] (.ListComp elt [⟨tg,iter,ifs,0⟩] scope pos) spos) (Qn (JU ts wi g tt te) (JI j)):=by
 intro pins s σ H D I h
 rw [exec_Assign_Name_used _ _ _ _ hsw]
 refine aq (cZ (aq ?_))
 show aS _ _ (do let _ <- comprehension (.ListComp elt [⟨tg,iter,ifs,0⟩] scope pos) scope X.env _ (newList []) false (eval iter X.env) (some (lV (.Name y py) X.env))) _ _ s
 refine aq (bn (Jh hc hsc hi hg ht he I h (use:=some (lV (.Name y py) X.env)) (Q':=fun _ s'=>SP X pins D .next s') (fun D' C H' s' I' ⟨m,hn⟩ hC hL hce hsz hp hfs q=>?_) hs) (fun _ s' hq=>aL (aL hq)) fun _ _ e=>e)
 show aS _ _ (lV (.Name y py) X.env (.ref D')) _ _ _
 refine wpAny_assign_Name (ZI (v:=.ref D') I' hN hj hy rfl (fun s2 I2 ⟨a,hsb,ha⟩=>?_) hf)
 have hCa:C ≠ a:=by
  rcases ha with rfl | ha
  ·exact hL
  ·exact Ne.symm (hce y a ha)
 refine ⟨m,hn.sameBut hsb hCa,fun h' hs'=>?_⟩
 exact ⟨_,H',I2.turned (t':=s2.toks) (it:=C) (fun b o hb e=>(hs'.2 b hb).trans e) hC hL (.inr hsz) hce hp,q⟩
end
noncomputable def Ite (K:aA)(a:ay):It:=
 ⟨fun i H=>∃ xs x,SqL K H a xs/\xs[i]?=some x,fun i H y H'=>∃ p x,H p=none/\y=.ref p/\(∀ xs,SqL K H a xs->xs[i]?=some x)/\H'=upd H p (.tup [.int i,x]),fun i H=>∃ xs,SqL K H a xs/\xs.length<=i⟩
variable {P:aX} {w:bu} {K:aA} {es:List Expr} {kt:Nat} {tp:Pos}
theorem Zy (a e it:ay)(hei:e ≠ it):Jf P w K (.Tuple es kt tp) (Ite K a) [e,it] e (fun i h=>(∃ old,IsEnum h e it (i:Nat) old)/\h.IsListIter it a i) where
 mem:=by simp
 obj:=fun i h st b hb=>by
  obtain ⟨⟨old,he⟩,⟨o,e1,c,d⟩⟩:=st
  rcases aF.mp hb with rfl | hb
  ·exact ⟨_,he,fun v z=>by have z':dR _=fQ v:=z;cases z'⟩
  ·have e2:b=it:=by simpa using hb
   subst e2
   exact ⟨o,e1,fun v z=>by rw [d] at z;cases z⟩
 keep:=fun i h h' st k=>by
  obtain ⟨⟨old,he⟩,st⟩:=st
  exact ⟨⟨old,k e (by simp) _ he⟩,st.at fun o e=>k it (by simp) o e⟩
 item:=by
  intro X hP hw hK hc i pins s σ H E I hf st hg
  subst hP hw hK
  obtain ⟨⟨old,he⟩,st⟩:=st
  obtain ⟨xs,x,hq,hx⟩:=hg
  obtain ⟨its,rv,p,hz⟩:=I.list hq
  obtain ⟨u,hu,ru⟩:=rv.get hx
  have fe:=hf e (by simp)
  have fi:=hf it (by simp)
  refine wpAny_pyNext_enum_item he st p.isList (x:=u) (by simpa using hu) hei fun h1 heo hit1 ht1 hz1 hk1=>?_
  refine ⟨.ref s.heap.objs.size,rfl,hU heo fun h2 he2 hs2=>?_⟩
  replace hs2:bX e h1 h2:=hs2
  have elt:e<s.heap.objs.size:=aI he
  have hfr:H s.heap.objs.size=none:=I.hok.fresh (aM _)
  have ht2:h2.get? s.heap.objs.size=some { cls:=.type "tuple",data:=.seq #[.int i s.toks,u] }:=(hs2.2 _ (eh elt)).trans ht1
  have kk:∀ b o,b ∉ [e,it]->s.heap.get? b=some o->h2.get? b=some o:=fun b o hc q=>by
   have n1:b ≠ e:=fun z=>hc (by simp [z])
   have n2:b ≠ it:=fun z=>hc (by simp [z])
   exact (hs2.2 b n1).trans (hk1 b o n1 n2 q)
  have nb:∀ c v,H c=some v->c ∉ [e,it]:=fun c v z hm=>by
   rcases aF.mp hm with z' | z'
   ·rw [z',fe.1] at z;cases z
   ·have e2:c=it:=by simpa using z'
    rw [e2,fi.1] at z;cases z
  have I2:Inv X pins σ (upd H s.heap.objs.size (.tup [.int i,x])) { s with heap:=h2,toks:=s.toks+1 }:=by
   refine I.step (g':=s.gens) (d':=s.drawn) (ch:=[e,it]) (fun b hb=>?_) (fun b o _ _ hc q _=>kk b o hc q) (fun b o _ _ hc q _=>⟨o.slots,kk b o hc q⟩) (fun b o _ q n=>by rw [zj (bq (aI q))];exact n) (fun b o hc q=>⟨o,kk b o hc q⟩)
    (fun b xs q=>by rw [zj (zp q hfr)];exact q) (fun b o u q=>by rw [zj (zp q hfr)];exact q) (fun b ps q=>⟨#[],by rw [zj (zp q hfr),q];simp⟩) (fun m hm=>?_) (fun b v q=>?_) I.bare
   ·rcases aF.mp hb with z | hb
    ·rw [z];exact ⟨fe.2.2.2.1,fe.2.1,fe.2.2.2.2.1,fe.2.2.2.2.2⟩
    ·have e2:b=it:=by simpa using hb
     rw [e2];exact ⟨fi.2.2.2.1,fi.2.1,fi.2.2.2.2.1,fi.2.2.2.2.2⟩
   ·obtain ⟨o,es,ep,ho,r⟩:=hm
    exact ⟨o,es,ep,kk _ o (by simp [Ne.symm fe.2.1,Ne.symm fi.2.1]) ho,r⟩
   ·by_cases hb:b=s.heap.objs.size
    ·subst hb
     rw [zl] at q
     cases q
     exact ⟨by show 2<=aQ;decide,[.int i s.toks,u],.cons ⟨_,rfl⟩ (.cons ru .nil),_,ht2,rfl,⟨_,rfl⟩,rfl⟩
    ·rw [zj hb] at q
     refine (I.hok b v q).stay (fun c o hc q'=>kk c o ?_ q') (fun c z=>by rw [zj (zp z hfr)];exact z) fun c xs z=>by rw [zj (zp z hfr)];exact z
     rcases hc with z | z
     ·rw [z];exact nb b v q
     ·exact nb c _ z
  refine ⟨.ref s.heap.objs.size,_,I2,rfl,⟨s.heap.objs.size,x,hfr,rfl,fun ys hy=>by rw [I.list_inj hy hq];exact hx,rfl⟩,⟨⟨_,by simpa using he2⟩,hit1.extBut hs2.extBut (Ne.symm hei)⟩,fun b hb=>?_⟩
  have hlt:b<s.heap.objs.size:=by
   rcases aF.mp hb with rfl | hb
   ·exact elt
   ·have e2:b=it:=by simpa using hb
    subst e2
    obtain ⟨o,e1,_⟩:=st
    exact aI e1
  rw [zj (bq hlt)]
  exact (hf b hb).1
 done:=by
  intro X hP hw hK hc i pins s σ H E I hf st hg
  subst hP hw hK
  obtain ⟨⟨old,he⟩,st⟩:=st
  obtain ⟨xs,hq,hx⟩:=hg
  obtain ⟨its,rv,p,hz⟩:=I.list hq
  obtain ⟨f0,f1,f2,f3,f4,f5⟩:=hf it (by simp)
  have hl:=rv.length
  exact wpAny_pyNext_enum_end (I.ok.hd hc) he st p.isList (by simp;omega) fun h' eb=>⟨rfl,I.turned (t':=s.toks) (fun b o hb e=>eb b o hb e) f0 f1 f3 f4 f5⟩
 self:=fun _ _ _ _ _ st h=>by
  obtain ⟨⟨old,he⟩,_⟩:=st
  exact eY he h
section
variable {X:Cx}{pins:List (ay × Obj)}{σ:St}{H:Hp}{s:az}
variable {ch:List ay} {h2:Heap} {tk:Nat}
theorem Inv.yieldTup {T:ay}{xs:List V}{us:List aj}(I:Inv X pins σ H s)(hf:∀ b ∈ ch,vH X pins H b)(kk:∀ b o,b ∉ ch->s.heap.get? b=some o->h2.get? b=some o)(hT:s.heap.objs.size<=T)
  (ht2:h2.get? T=some { cls:=.type "tuple",data:=.seq us.toArray }) (rv:zJ xs us) (hz:xs.length<=aQ):Inv X pins σ (upd H T (.tup xs)) { s with heap:=h2,toks:=tk }:=by
 have hfr:H T=none:=I.hok.fresh hT
 have nb:∀ c v,H c=some v->c ∉ ch:=fun c v z hm=>by rw [(hf c hm).1] at z;cases z
 refine I.step (g':=s.gens) (d':=s.drawn) (ch:=ch) (fun b hb=>⟨(hf b hb).2.2.2.1,(hf b hb).2.1,(hf b hb).2.2.2.2.1,(hf b hb).2.2.2.2.2⟩) (fun b o _ _ hc q _=>kk b o hc q) (fun b o _ _ hc q _=>⟨o.slots,kk b o hc q⟩)
  (fun b o _ q n=>by rw [zj (bq (bw (aI q) hT))];exact n) (fun b o hc q=>⟨o,kk b o hc q⟩)
  (fun b xs q=>by rw [zj (zp q hfr)];exact q) (fun b o u q=>by rw [zj (zp q hfr)];exact q) (fun b ps q=>⟨#[],by rw [zj (zp q hfr),q];simp⟩) (fun m hm=>?_) (fun b v q=>?_) I.bare
 ·obtain ⟨o,es,ep,ho,r⟩:=hm
  exact ⟨o,es,ep,kk _ o (fun z=>(hf _ z).2.1 rfl) ho,r⟩
 ·by_cases hb:b=T
  ·subst hb
   rw [zl] at q
   cases q
   exact ⟨hz,us,rv,_,ht2,rfl,⟨_,rfl⟩,rfl⟩
  ·rw [zj hb] at q
   refine (I.hok b v q).stay (fun c o hc q'=>kk c o ?_ q') (fun c z=>by rw [zj (zp z hfr)];exact z) fun c xs z=>by rw [zj (zp z hfr)];exact z
   rcases hc with z | z
   ·rw [z];exact nb b v q
   ·exact nb c _ z
theorem Inv.turnedL (I:Inv X pins σ H s)(hf:∀ b ∈ ch,vH X pins H b)(kk:∀ b o,b ∉ ch->s.heap.get? b=some o->h2.get? b=some o):Inv X pins σ H { s with heap:=h2,toks:=tk }:=by
 have nb:∀ c v,H c=some v->c ∉ ch:=fun c v z hm=>by rw [(hf c hm).1] at z;cases z
 refine I.step (g':=s.gens) (d':=s.drawn) (ch:=ch) (fun b hb=>⟨(hf b hb).2.2.2.1,(hf b hb).2.1,(hf b hb).2.2.2.2.1,(hf b hb).2.2.2.2.2⟩) (fun b o _ _ hc q _=>kk b o hc q) (fun b o _ _ hc q _=>⟨o.slots,kk b o hc q⟩)
  (fun b o _ q n=>n) (fun b o hc q=>⟨o,kk b o hc q⟩) (fun b xs q=>q) (fun b o u q=>q) (fun b ps q=>⟨#[],by rw [q];simp⟩) (fun m hm=>?_) (fun b v q=>?_) I.bare
 ·obtain ⟨o,es,ep,ho,r⟩:=hm
  exact ⟨o,es,ep,kk _ o (fun z=>(hf _ z).2.1 rfl) ho,r⟩
 ·refine (I.hok b v q).stay (fun c o hc q'=>kk c o ?_ q') (fun c z=>z) fun c xs z=>z
  rcases hc with z | z
  ·rw [z];exact nb b v q
  ·exact nb c _ z
end
noncomputable def Itz (K:aA)(a b:ay):It:=
 ⟨fun i H=>∃ xs ys x y,SqL K H a xs/\SqL K H b ys/\xs[i]?=some x/\ys[i]?=some y,fun i H z H'=>∃ p x y,H p=none/\z=.ref p/\(∀ xs,SqL K H a xs->xs[i]?=some x)/\(∀ ys,SqL K H b ys->ys[i]?=some y)/\H'=upd H p (.tup [x,y]),
  fun i H=>∃ xs ys,SqL K H a xs/\SqL K H b ys/\(xs.length<=i \/ ys.length<=i)⟩
theorem W6 (l1 l2 z TI TO i1 i2:ay)(D:ZipApart z TI TO i1 i2 l1 l2) :
  Jf P w K (.Tuple es kt tp) (Itz K l1 l2) [z,TI,TO,i1,i2] z (fun i h=>IsZip h z TI TO .none/\gf h TI (.ref i1) (.ref i2)/\(∃ a b,gf h TO a b)/\h.IsListIter i1 l1 i/\h.IsListIter i2 l2 i) where
 mem:=by simp
 obj:=fun i h st b hb=>by
  obtain ⟨hz,hTI,⟨a,c,hTO⟩,⟨o1,e1,c1,d1⟩,⟨o2,e2,c2,d2⟩⟩:=st
  simp only [aF,aN,or_false] at hb
  rcases hb with rfl | rfl | rfl | rfl | rfl
  ·exact ⟨_,hz,fun v q=>by have q':dR _=fQ v:=q;cases q'⟩
  ·exact ⟨_,hTI,fun v q=>by have q':fb _ _=fQ v:=q;cases q'⟩
  ·exact ⟨_,hTO,fun v q=>by have q':fb _ _=fQ v:=q;cases q'⟩
  ·exact ⟨o1,e1,fun v q=>by rw [d1] at q;cases q⟩
  ·exact ⟨o2,e2,fun v q=>by rw [d2] at q;cases q⟩
 keep:=fun i h h' st k=>by
  obtain ⟨hz,hTI,⟨a,c,hTO⟩,h1,h2⟩:=st
  exact ⟨k _ (by simp) _ hz,k _ (by simp) _ hTI,⟨a,c,k _ (by simp) _ hTO⟩,h1.at fun o e=>k _ (by simp) o e,h2.at fun o e=>k _ (by simp) o e⟩
 item:=by
  intro X hP hw hK hc i pins s σ H E I hf st hg
  subst hP hw hK
  obtain ⟨hz,hTI,⟨a,c,hTO⟩,h1,h2⟩:=st
  obtain ⟨xs,ys,x,y,hq1,hq2,hx,hy⟩:=hg
  obtain ⟨its1,rv1,p1,hz1⟩:=I.list hq1
  obtain ⟨its2,rv2,p2,hz2⟩:=I.list hq2
  obtain ⟨u,hu,ru⟩:=rv1.get hx
  obtain ⟨v,hv,rvv⟩:=rv2.get hy
  refine wpAny_pyNext_zip_item D hz hTI hTO h1 h2 p1.isList p2.isList (x:=u) (y:=v) (by simpa using hu) (by simpa using hv) fun g1 b1 b2 b3 b4 b5 b6 hk=>?_
  refine ⟨.ref s.heap.objs.size,rfl,hX b1 fun g2 hz2' hs2=>?_⟩
  replace hs2:bX z g1 g2:=hs2
  have zlt:z<s.heap.objs.size:=aI hz
  have I2:Inv X pins σ (upd H s.heap.objs.size (.tup [x,y])) { s with heap:=g2,toks:=s.toks }:=by
   refine I.yieldTup (us:=[u,v]) hf (fun b o hb e=>?_) (aM _) ((hs2.2 _ (eh zlt)).trans b5) (.cons ru (.cons rvv .nil)) (by show 2<=aQ;decide)
   simp only [aF,aN,or_false,not_or] at hb
   exact (hs2.2 b hb.1).trans (hk b o hb.1 hb.2.2.1 hb.2.2.2.1 hb.2.2.2.2 e)
  refine ⟨.ref s.heap.objs.size,_,I2,rfl,⟨s.heap.objs.size,x,y,I.hok.fresh (aM _),rfl,fun xs' h'=>by rw [I.list_inj h' hq1];exact hx,fun ys' h'=>by rw [I.list_inj h' hq2];exact hy,rfl⟩,
   ⟨hz2',(hs2.2 _ D.TIz).trans (hk _ _ D.TIz D.TITO D.TIi1 D.TIi2 hTI),⟨_,_,(hs2.2 _ D.TOz).trans b2⟩,b3.extBut hs2.extBut D.i1z,b4.extBut hs2.extBut D.i2z⟩,fun b hb=>?_⟩
  have hlt:b<s.heap.objs.size:=by
   simp only [aF,aN,or_false] at hb
   rcases hb with rfl | rfl | rfl | rfl | rfl
   ·exact zlt
   ·exact aI hTI
   ·exact aI hTO
   ·obtain ⟨o,e,_⟩:=h1;exact aI e
   ·obtain ⟨o,e,_⟩:=h2;exact aI e
  rw [zj (bq hlt)]
  exact (hf b hb).1
 done:=by
  intro X hP hw hK hc i pins s σ H E I hf st hg
  subst hP hw hK
  obtain ⟨hz,hTI,⟨a,c,hTO⟩,h1,h2⟩:=st
  obtain ⟨xs,ys,hq1,hq2,hend⟩:=hg
  obtain ⟨its1,rv1,p1,hz1⟩:=I.list hq1
  obtain ⟨its2,rv2,p2,hz2⟩:=I.list hq2
  have l1:=rv1.length
  have l2:=rv2.length
  refine wpAny_pyNext_zip_end (I.ok.hd hc) D hz hTI hTO h1 h2 p1.isList p2.isList (by simp;omega) fun h' hk=>⟨rfl,I.turnedL (tk:=s.toks) hf fun b o hb e=>?_⟩
  simp only [aF,aN,or_false,not_or] at hb
  exact hk b o hb.1 hb.2.2.1 hb.2.2.2.1 hb.2.2.2.2 e
 self:=fun _ _ _ _ _ st h=>gr st.1 h
theorem wa:bH "enumerate"=some (.type "enumerate"):=by decide +kernel
theorem Vx:bH "zip"=some (.type "zip"):=by decide +kernel
section
variable {X:Cx}{es:List Expr}{kt:Nat}{tp:Pos}
noncomputable def GY (K:aA)(ta:TA):TI:=fun σ H R=>ta σ H fun vs H1=>∃ a,vs=[.ref a]/\(∃ xs,SqL K H1 a xs)/\R (Ite K a) H1
theorem Ge {e:Expr}{ta:TA}{p pos:Pos}(hg:Gl X "enumerate")(hm:X.mg "enumerate"=none)(ha:PA X [e] ta)(hs:aO [e] X.env=[(false,eval e X.env)]:=by rfl) :
  PI X (.Tuple es kt tp) (.Call (.Name "enumerate" p) [e] [] pos) (GY X.K ta):=by
 intro pins s σ H R I h
 refine Call_ (xa I hg hm (wa) (cY (thn (ha pos pins s σ H _ I h) fun us s1 ⟨vs,H1,I1,r1,q1⟩=>?_) hs rfl))
 obtain ⟨a,e,⟨xs,hq⟩,q⟩:=q1
 subst e
 obtain ⟨u,rfl,ru⟩:=xF r1
 cases ru
 obtain ⟨its,rv,pl,hz⟩:=I1.list hq
 refine call_enumerate_list pl.isList fun h' he hit hsz hk=>eY he ?_
 have I2:Inv X pins σ H1 { s1 with heap:=h' }:=I1.kept (t':=s1.toks) hk
 refine ⟨s1.heap.objs.size+1,[s1.heap.objs.size+1,s1.heap.objs.size],_,_,H1,rfl,I2,Zy a _ _ (iO _),⟨⟨_,he⟩,hit⟩,fun b hb=>?_,q⟩
 have hb':s1.heap.objs.size<=b:=by
  simp only [aF,aN,or_false] at hb
  rcases hb with rfl | rfl
  ·exact nj _
  ·exact aM _
 exact I1.fpOk hb' (I1.hok.fresh hb')
end
variable {a:ay} {xs:List V} {g:TG} {tb:TS} {D:xf} {σ:St} {H:Hp}
theorem Wi (Pv:Nat->St->Hp->Prop)(h0:Pv 0 σ H)(hl:∀ i σ H,i<=xs.length->Pv i σ H->SqL K H a xs)
  (hs:∀ i x p σ H,xs[i]?=some x->H p=none->Pv i σ H->g (.ref p) σ (upd H p (.tup [.int i,x])) fun σ2 H2=>tb { D with nx:=Pv (i+1),ct:=Pv (i+1),bk:=D.nx } σ2 H2) (hd:∀ σ H,Pv xs.length σ H->D.nx σ H) :
  ∃ W:Nat->Nat->St->Hp->Prop,(∃ m,W 0 m σ H)/\∀ i m σ H,W i m σ H ->
   ((Ite K a).stop i H/\D.nx σ H) \/ ((Ite K a).go i H/\∃ N:St->Hp->Prop,(∀ σ' H',N σ' H'->∃ m',m'<m/\W (i+1) m' σ' H')/\∀ x H',(Ite K a).yld i H x H'->g x σ H' fun σ2 H2=>tb { D with nx:=N,ct:=N,bk:=D.nx } σ2 H2):=by
 refine ⟨fun i m σ H=>m=xs.length - i/\i<=xs.length/\Pv i σ H,⟨xs.length,by simp,cV _,h0⟩,?_⟩
 rintro i m σ H ⟨rfl,hi,p⟩
 have q:=hl i σ H hi p
 by_cases hlt:i<xs.length
 ·refine .inr ⟨⟨xs,xs[i],q,by simp [hlt]⟩,Pv (i+1),fun σ' H' p'=>⟨xs.length - (i+1),by omega,rfl,hlt,p'⟩,fun x H' y=>?_⟩
  obtain ⟨pp,x',hp,rfl,y,rfl⟩:=y
  exact hs i x' pp σ _ (y xs q) hp p
 ·have e:i=xs.length:=by omega
  subst e
  exact .inl ⟨⟨xs,q,aM _⟩,hd σ H p⟩
noncomputable def Q9 (p:ay)(a b c:Int):HO:=.ext fun h=>∃ t u v,h.get? p=some { cls:=.type "range",data:=.fields #[.int a t,.int b u,.int c v] }
variable {p:ay}
theorem Ls {h:Heap} {a b c:Int}{t u v:Tok}(e:h.get? p=some { cls:=.type "range",data:=.fields #[.int a t,.int b u,.int c v] }):zS P w H h p (Q9 p a b c):=
 ⟨⟨t,u,v,e⟩,⟨_,e⟩,fun h1 h2 ⟨t,u,v,q⟩ k=>⟨t,u,v,k _ q⟩⟩
noncomputable def z0 (a c:Int)(n:Nat):List Int:=(b8 n).map fun (i:Nat)=>a+(i:Int) * c
theorem qW (a c:Int)(n:Nat):(z0 a c n).length=n:=by simp [z0]
theorem J0 {a c:Int}:∀ {n:Nat} {acc:Array aj},ItemsOf (fun (i:Nat) (v:aj)=>∃ t,v=aj.int (a+(i:Int) * c) t) acc n->zJ ((z0 a c n).map V.int) acc.toList:=by
 intro n acc ⟨hs,hi⟩
 have key:∀ (k:Nat) (l:List aj),l.length=k->(∀ (j:Nat) v,l[j]?=some v->∃ t,v=aj.int (a+(j:Int) * c) t)->zJ ((z0 a c k).map V.int) l:=by
  intro k
  induction k with
  | zero=>intro l hl _;cases l with
   | nil=>exact .nil
   | cons=>simp at hl
  | succ k ih=>
   intro l hl hv
   obtain ⟨l',x,rfl⟩:∃ l' x,l=l' ++ [x]:=⟨l.dropLast,l.getLast (by intro e;rw [e] at hl;simp at hl),(List.dropLast_concat_getLast _).symm⟩
   have hl':l'.length=k:=by simpa using hl
   have e:(z0 a c (k+1)).map V.int=(z0 a c k).map V.int ++ [.int (a+(k:Int) * c)]:=by simp [z0,List.range_succ]
   rw [e]
   refine (ih l' hl' fun j v hj=>hv j v ?_).append (.cons ?_ .nil)
   ·rw [cz (aG.mp hj).1];exact hj
   ·obtain ⟨t,rfl⟩:=hv k x (by rw [dg (by omega),hl'];simp)
    exact ⟨t,rfl⟩
 exact key n acc.toList (by simpa using hs) fun j v hj=>hi j v (by simpa using hj)
section
variable {X:Cx}
theorem jI:jM X (.type "range") (fun xs H Q=>∃ b:Int,xs=[.int b]/\∀ p,H p=none->Q (.ref p) (upd H p (Q9 p 0 b 1))):=by
 intro pins s σ H xs us Q I r h
 obtain ⟨b,rfl,q⟩:=h
 obtain ⟨u,rfl,t,rfl⟩:=xF r
 refine call_range_1 ⟨.ref s.heap.objs.size,_,I.laid (fun b o e=>aE _ e) (aM _) ?_,rfl,q _ (I.hok.fresh (aM _))⟩
 exact Ls (bc _ rfl)
theorem jh (hc:X.calm=true):jM X (.type "list") (fun xs H Q=>∃ p a b c n,xs=[.ref p]/\H p=some (Q9 p a b c)/\fA a b c=true/\dF a b c=((n:Nat):Int)/\n<=100000/\∀ l,H l=none->Q (.ref l) (upd H l (.lst ((z0 a c n).map V.int)))):=by
 intro pins s σ H xs us Q I r h
 obtain ⟨p,a,b,c,n,rfl,hp,hs,hn,hz,q⟩:=h
 obtain ⟨u,rfl,rx⟩:=xF r
 cases rx
 obtain ⟨⟨t,u,v,e⟩,_⟩:=(show zS X.prog X.w H s.heap p (Q9 p a b c) from I.hok _ _ hp)
 refine call_list_range (I.ok.hd hc) e hs hn (bz hz (by decide)) fun h' tk acc c' hk he hi=>?_
 refine ⟨.ref s.heap.objs.size,_,I.laid hk (aM _) (show zS X.prog X.w _ h' _ (.lst ((z0 a c n).map V.int)) from ⟨?_,acc.toList,c',J0 hi,by simpa using he⟩),rfl,q _ (I.hok.fresh (aM _))⟩
 rw [aw,qW]
 exact bz hz (by decide)
end
section
variable {X:Cx}
noncomputable def isT (t c:String):Option Bool:=if (aj.type t == aj.type c)=true then some true else if PySem.W.kitMeta c=true then (fastBuiltinMro t).map (·.contains (aj.type c)) else none
theorem XS (K:aA)(t c:String):gZ K (.type t) (.type c)=isT t c:=rfl
noncomputable def wN (t:String):List String->Option Bool
 | []=>some false
 | c :: r=>match isT t c with
  | some true=>some true
  | some false=>wN t r
  | none=>none
theorem QN (K:aA)(t:String):∀ cs:List String,aY K (.type t) (cs.map aj.type)=wN t cs
 | []=>rfl
 | c :: r=>by
  show (match gZ K (.type t) (.type c) with | some true=>some true | some false=>aY K (.type t) (r.map aj.type) | none=>none)=_
  rw [XS,QN K t r];rfl
theorem qm:jM X (.builtin "isinstance") (fun xs H Q=>∃ x t c b,xs=[x,.ty c]/\xg X.K H x (.type t)/\isT t c=some b/\Q (.bl b) H):=by
 intro pins s σ H xs us Q I r h
 obtain ⟨x,t,c,b,rfl,ty,e,q⟩:=h
 obtain ⟨u,v,rfl,ru,rv⟩:=Jv r
 cases rv
 exact VQ I ru ty (by rw [XS];exact e) fun tk=>⟨.bl b,H,I.tok _,rfl,q⟩
theorem QR:∀ {cs:List String} {us:List aj},zJ (cs.map V.ty) us->us=cs.map aj.type
 | [],_,.nil=>rfl
 | c :: cs,_,.cons r t=>by rw [QR t];cases r;rfl
theorem xR:jM X (.builtin "isinstance") (fun xs H Q=>∃ x t p cs b,xs=[x,.ref p]/\H p=some (.tup (cC V.ty cs))/\xg X.K H x (.type t)/\wN t cs=some b/\Q (.bl b) H):=by
 intro pins s σ H xs us Q I r h
 obtain ⟨x,t,p,cs,b,rfl,hp,ty,e,q⟩:=h
 obtain ⟨u,v,rfl,rx,rv⟩:=Jv r
 cases rv
 obtain ⟨_,its,rt,o,ho,hc,⟨n,hd⟩,_⟩:=(show zS X.prog X.w H s.heap p (.tup (cC V.ty cs)) from I.hok _ _ hp)
 obtain ⟨oc,od,odt,osl⟩:=o
 simp only at hc hd
 subst hc hd
 have e':aY X.K (.type t) its=some b:=by rw [QR rt,QN];exact e
 have fin:∀ tk,EP X pins σ Q (.bool b) { s with toks:=tk }:=fun tk=>⟨.bl b,H,I.tok _,rfl,q⟩
 cases ty with
 | non=>cases (show u=aj.none from rx);exact cT mC I.kIn True.intro ho e' (fun z=>nomatch z) fin
 | bl y=>cases (show u=aj.bool y from rx);exact cT mD I.kIn True.intro ho e' (fun z=>nomatch z) fin
 | int i=>obtain ⟨t,q⟩:=(show ∃ t,u=aj.int i t from rx);cases q;exact cT mV I.kIn True.intro ho e' (fun z=>nomatch z) fin
 | str y=>obtain ⟨t,q⟩:=(show ∃ t,u=aj.str y t from rx);cases q;exact cT mW I.kIn True.intro ho e' (fun z=>nomatch z) fin
 | flt y=>obtain ⟨t,q⟩:=(show ∃ t,u=aj.float y t from rx);cases q;exact cT lX I.kIn True.intro ho e' (fun z=>nomatch z) fin
 | @lst a xs ea=>
  cases (show u=aj.ref a from rx)
  obtain ⟨_,_,n,_,h1⟩:=(show zS X.prog X.w H s.heap a (.lst xs) from I.hok a _ ea)
  exact cT fX I.kIn ⟨_,h1,rfl⟩ ho e' (fun z=>nomatch z) fin
 | @frz a ob xs ea=>
  cases (show u=aj.ref a from rx)
  obtain ⟨_,_,_,n,_,h1⟩:=(show zS X.prog X.w H s.heap a (.frz ob (.lst xs)) from I.hok a _ ea)
  exact cT fX I.kIn ⟨_,h1,rfl⟩ ho e' (fun z=>nomatch z) fin
 | @tup a xs ea=>
  cases (show u=aj.ref a from rx)
  obtain ⟨_,_,_,p⟩:=(show zS X.prog X.w H s.heap a (.tup xs) from I.hok a _ ea)
  obtain ⟨o,h1,h2,_⟩:=p
  exact cT lY I.kIn ⟨o,h1,h2⟩ ho e' (fun z=>nomatch z) fin
 | @dK a kvs ea=>
  cases (show u=aj.ref a from rx)
  obtain ⟨_,_,vs,_,p⟩:=(show zS X.prog X.w H s.heap a (.dK kvs) from I.hok a _ ea)
  obtain ⟨o,es,ep,h1,h2,_⟩:=p
  exact cT fY I.kIn ⟨o,h1,h2.1⟩ ho e' (fun z=>nomatch z) fin
 | @dT a kvs ea=>
  cases (show u=aj.ref a from rx)
  obtain ⟨_,_,xs,_,o,es,ep,h1,h2,_⟩:=(show zS X.prog X.w H s.heap a (.dT kvs) from I.hok a _ ea)
  exact cT fY I.kIn ⟨o,h1,h2.1⟩ ho e' (fun z=>nomatch z) fin
end
def At (K:aA)(mg:Str->Option aj)(x:Str)(st:cg):Prop:=∃ f fd,Fun K x x st f fd/\mg x=some (.ref f)
def Df (P:aX)(w:bu)(K:aA)(mg:Str->Option aj)(base:Heap)(x:Str)(ps:List Str)(k:Nat)(sp:Sp):Prop:=
 ∃ f fd,jK P w K mg base CX0 k f fd ps sp/\jH K fd ps []/\de K (.ref f)=true/\mg x=some (.ref f)/\∃ oc od osl,K.lookup f=some ⟨oc,od,.func fd,osl⟩
variable {mg:Str->Option aj} {base:Heap} {ps:List Str} {sp:Sp}
theorem Df.mono {x:Str} {j k:Nat} (D:Df P w K mg base x ps j sp)(h:j<=k):Df P w K mg base x ps k sp:=
 let ⟨f,fd,F,r⟩:=D
 ⟨f,fd,F.mono h,r⟩
section
variable {X:Cx}{k:Nat}{x:Str}{ps:List Str}{sp:Sp}{p pos:Pos}{e:Expr}{es:List Expr}{t:TA}
theorem zO (D:Df X.prog X.w X.K X.mg X.base x ps k sp)(hr:qu k X.A)(hg:Gl X x)(ha:PA X (e :: es) t)(hdb:(x == ("__debug__":Str))=false:=by decide)
  (he:aO (e :: es) X.env=(false,eval e X.env) :: aO es X.env:=by rfl) (hpl:(b9 pos (aO es X.env)).any (·.1)=false:=by rfl):PE X (.Call (.Name x p) (e :: es) [] pos) (Jn sp [] E0 t):=by
 obtain ⟨f,fd,F,b,kp,m,_⟩:=D
 exact Ei F hr hg m kp b .nil XA ha hdb he hpl
end
variable {st:cg} {N:List Str}
theorem wj {x:Str} {k:Nat} (a:At K mg x st)(S:zr N ps (zg st))
  (hb:∀ (kV doc pm:aj) (an:Option ay) (cdv ct:aj) (us:List aj),us.length=ps.length->eM (bJ x x (qx st) (zQ st) (zg st) .none kV doc pm an cdv ct) ⟨us,[]⟩=pure (ps.zip us))
  (len:∀ vs H Q E,sp vs H Q E->vs.length=ps.length)
  (hbody:∀ (f:ay) (cdv:aj) (A:bg) (outer:List Env) (s:az) (H:Hp) (vs:List V) (Q:VK) (E:XK),qu k (A.deeper (e8 x (zg st) s.heap.objs.size f cdv))->sp vs H Q E ->
   ∃ t,PSs (jS CX0 P w K mg base N x (zg st) f cdv A outer s H E).nox (zQ st) t/\t { nx:=fun _ H'=>Q .non H',rt:=Q } (start N vs) H):Df P w K mg base x ps (k+1) sp:=by
 obtain ⟨f,fd,F,m⟩:=a
 obtain ⟨oc,od,kV,doc,pm,an,cdv,ct,osl,_,lk,_⟩:=id F.ex
 exact ⟨f,fd,F.ok S len fun cdv A outer s H vs Q E=>hbody f cdv A outer s H vs Q E,F.binds hb,F.kp,m,oc,od,osl,lk⟩
variable {f:ay} {oc:aj} {od an:Option ay} {osl:Array (Option aj)}
theorem at_mk {h:Heap}{x:Str} {kV doc pm cdv ct:aj}(X:K.In h)(G:h.Ns bh mg)(a:br K bh x=some (some (.ref f)))
  (l:K.lookup f=some ⟨oc,od,.func (bJ x x (qx st) (zQ st) (zg st) .none kV doc pm an cdv ct),osl⟩) (c:e9 K cdv x=true) (k:de K (.ref f)=true):At K mg x st:=⟨f,_,fun_mk l c k,dr X G a⟩
theorem Df.fn {x:Str} {k:Nat} {fd:df} (D:Df P w K mg base x ps k sp)(m:mg x=some (.ref f))(l:K.lookup f=some ⟨oc,od,.func fd,osl⟩):jK P w K mg base CX0 k f fd ps sp:=by
 obtain ⟨f',fd',F,_,_,m',oc',od',osl',l'⟩:=D
 rw [m] at m'
 cases m'
 rw [l] at l'
 cases l'
 exact F
structure Blt (mg:Str->Option aj):Prop where
 len:mg "len"=none
 range:mg "range"=none
 list:mg "list"=none
 tuple:mg "tuple"=none
 int:mg "int"=none
 bool:mg "bool"=none
 str:mg "str"=none
 abs:mg "abs"=none
 divmod:mg "divmod"=none
 enumerate:mg "enumerate"=none
 zip:mg "zip"=none
 sorted:mg "sorted"=none
 max:mg "max"=none
 min:mg "min"=none
 isinstance:mg "isinstance"=none
 all:mg "all"=none
theorem blt_mk {h:Heap}(X:K.In h)(G:h.Ns bh mg)(z1:br K bh "len"=some none)(z2:br K bh "range"=some none)(z3:br K bh "list"=some none)(z4:br K bh "tuple"=some none)(z5:br K bh "int"=some none)(z6:br K bh "bool"=some none)(z7:br K bh "str"=some none)(z8:br K bh "abs"=some none)
  (z9:br K bh "divmod"=some none) (z10:br K bh "enumerate"=some none) (z11:br K bh "zip"=some none) (z12:br K bh "sorted"=some none) (z13:br K bh "max"=some none) (z14:br K bh "min"=some none) (z15:br K bh "isinstance"=some none) (z16:br K bh "all"=some none):Blt mg:=
 ⟨bt X G z1,bt X G z2,bt X G z3,bt X G z4,bt X G z5,bt X G z6,bt X G z7,bt X G z8,bt X G z9,bt X G z10,bt X G z11,bt X G z12,bt X G z13,bt X G z14,bt X G z15,bt X G z16⟩
theorem zz:bH "isinstance"=some (.builtin "isinstance"):=by decide +kernel
theorem Aa:bH "abs"=some (.builtin "abs"):=by decide +kernel
theorem Vp:bH "divmod"=some (.builtin "divmod"):=by decide +kernel
theorem BI:bH "max"=some (.builtin "max"):=by decide +kernel
theorem qd:bH "len"=some (.builtin "len"):=by decide +kernel
theorem qy:bH "list"=some (.type "list"):=by decide +kernel
theorem qz:bH "tuple"=some (.type "tuple"):=by decide +kernel
theorem wQ:bH "int"=some (.type "int"):=by decide +kernel
theorem vM:bH "bool"=some (.type "bool"):=by decide +kernel
theorem wO:bH "str"=some (.type "str"):=by decide +kernel
theorem xt:bH "range"=some (.type "range"):=by decide +kernel
def Kp (bs:List ay)(H H':Hp):Prop:=∀ c o,c ∉ bs->H c=some o->H' c=some o
theorem Kp.refl {bs:List ay}:Kp bs H H:=fun _ _ _ h=>h
variable {H1 H2:Hp}
theorem Kp.trans {bs:List ay} (a:Kp bs H H1)(b:Kp bs H1 H2):Kp bs H H2:=fun c o n h=>b c o n (a c o n h)
theorem Kp.new {bs:List ay} (o:HO)(h:H p=none):Kp bs H (upd H p o):=fun c u _ q=>by rw [zj (zp q h)];exact q
theorem Kp.set {bs:List ay} (o:HO)(h:p ∈ bs):Kp bs H (upd H p o):=fun c u n q=>by have hne:c ≠ p:=(fun e=>n (by rw [e];exact h));rw [zj hne];exact q
theorem Kp.free {H H':Hp}(e:Kp [] H H'){l:ay}(h:H' l=Option.none):H l=Option.none:=by
 cases q:H l with
 | none=>rfl
 | some o=>rw [e l o (by simp) q] at h;cases h
def Bx (H:Hp)(b:ay)(N:Nat):Prop:=∃ x y z:Int,H b=some (.lst [.int x,.int y,.int z])/\0<=x/\0<=y/\y<2147483648/\0<=z/\z<=N
noncomputable abbrev il (ns:List Int):HO:=.lst (ns.map V.int)
variable {qual:Str} {A:bg} {outer:List Env} {s:az} {E:XK}
theorem cxK {CX:CXT} {cd:aj}:
  (jS CX P w K mg base N qual scope f cd A outer s H E).K=K:=rfl
def LX (J:It)(g:TG)(tb:TS)(D:xf)(σ:St)(H:Hp):Prop:=∃ W:Nat->Nat->St->Hp->Prop,(∃ m,W 0 m σ H)/\∀ i m σ H,W i m σ H ->
 (J.stop i H/\D.nx σ H) \/ (J.go i H/\∃ N:St->Hp->Prop,(∀ σ' H',N σ' H'->∃ m',m'<m/\W (i+1) m' σ' H')/\∀ x H',J.yld i H x H'->g x σ H' fun σ2 H2=>tb { D with nx:=N,ct:=N,bk:=D.nx } σ2 H2)
variable {wi:TI}
theorem Z3:FI wi g tb D σ H=wi σ H (fun J H1=>LX J g tb D σ H1):=rfl
def Mb (J:It)(g:TG)(tt:TT)(te:TE)(D:ay)(Q:VK)(τ:St)(H:Hp):Prop:=∃ W:Nat->Nat->St->Hp->Prop,(∃ m,W 0 m τ H)/\∀ i m τ H2,W i m τ H2 ->
 (J.stop i H2/\Q (.ref D) H2) \/ (J.go i H2/\∃ N:St->Hp->Prop,(∀ τ' H',N τ' H'->∃ m',m'<m/\W (i+1) m' τ' H')/\∀ x H',J.yld i H2 x H'->g x τ H' fun τ2 H3=>tt τ2 H3 fun b H4=>
  if b=true then te τ2 H4 fun v H5=>∃ ys,H5 D=some (.lst ys)/\ys.length<aQ/\N τ2 (upd H5 D (.lst (ys ++ [v]))) else N τ2 H4)
variable {tt:TT} {te:TE} {Q:VK}
theorem V9:
  JU ts wi g tt te σ H Q=wi σ H (fun J H1=>∀ D,H1 D=none->Mb J g tt te D Q (clr ts σ) (upd H1 D (.lst []))):=rfl
theorem Fu (Pv:Nat->St->Hp->Prop)(h0:Pv 0 σ H)(hl:∀ i σ H,i<=xs.length->Pv i σ H->SqL K H a xs)
  (hs:∀ i x p σ H,xs[i]?=some x->H p=none->Pv i σ H->g (.ref p) σ (upd H p (.tup [.int i,x])) fun σ2 H2=>tb { D with nx:=Pv (i+1),ct:=Pv (i+1),bk:=D.nx } σ2 H2) (hd:∀ σ H,Pv xs.length σ H->D.nx σ H):LX (Ite K a) g tb D σ H:=Wi Pv h0 hl hs hd
noncomputable def D3 (i j k:Nat)(ta:TA):TS:=fun D σ H=>ta σ H fun vs H1=>∃ v w x,vs=[v,w,x]/\D.nx (((σ.set i (some v)).set j (some w)).set k (some x)) H1
variable {pos:Pos} {ta:TA}
theorem Xq {i j k:Nat}{x y z:Str}{a b c:Expr} {px py pz pt:Pos}{kt k2 pt2}(hc:X.calm=true)(hN:X.N.Nodup)(hi:X.N[i]?=some x)(hj:X.N[j]?=some y)(hk:X.N[k]?=some z)(hij:i ≠ j)(hik:i ≠ k)(hjk:j ≠ k)
  (hx:X.env.scope.names.lookup x=some .local) (hy:X.env.scope.names.lookup y=some .local) (hz:X.env.scope.names.lookup z=some .local) (ha:PA X [a,b,c] ta)
  (hw:lO [.Tuple [.Name x px,.Name y py,.Name z pz] kt pt] (.Tuple [a,b,c] k2 pt2) X.env=pure (some [x,y,z]))
  (hs:lN [.Tuple [.Name x px,.Name y py,.Name z pz] kt pt] (.Tuple [a,b,c] k2 pt2) pos.line X.env=pure false:=by rfl) :
  PS X (.Assign [.Tuple [.Name x px,.Name y py,.Name z pz] kt pt] (.Tuple [a,b,c] k2 pt2) pos) (D3 i j k ta):=by
 intro pins s σ H D I h
 rw [exec_Assign_arm]
 refine aq (cZ ?_)
 rw [hs]
 refine aq (aL ?_)
 rw [if_neg (by decide)]
 refine aq (Tuple_ (thn (ha _ pins s σ H _ I h) fun us s1 ⟨vs,H1,I1,r1,q1⟩=>?_))
 obtain ⟨v,w,v3,e1,q1⟩:=q1
 subst e1
 obtain ⟨u1,u2,u3,rfl,rv,rw',r3⟩:∃ u1 u2 u3,us=[u1,u2,u3]/\zG v u1/\zG w u2/\zG v3 u3:=by
  cases r1 with
  | cons p q=>
   cases q with
   | cons p' q'=>
    cases q' with
    | cons p'' q''=>
     cases q''
     exact ⟨_,_,_,rfl,p,p',p''⟩
 refine cG ?_ (by show 3<=aQ;decide)
 have I2:Inv X pins σ H1 { s1 with heap:=s1.heap.push { cls:=.type "tuple",data:=.seq [u1,u2,u3].toArray } }:=I1.kept (t':=s1.toks) fun b o e=>aE _ e
 rw [hw]
 refine aq (aL ?_)
 show aS (aR X.prog X.w) X.A (do rule "assign.swapped-stores";let items <- unpackItems (.ref s1.heap.objs.size) 3 none;gy [fun v=>fD X.env z v,fun v=>fD X.env y v,fun v=>fD X.env x v] items.reverse;pure Flow.next) _ _ _
 refine aq (iY (aq (unpackItems_tuple (items:=#[u1,u2,u3]) (I.ok.hd hc) (IsTup.new s1.heap _) fun h' hx'=>?_)))
 have I3:=I2.kept (h':=h') (t':=s1.toks) fun b o e=>hx' b o (bq (aI e)) e
 show aS _ _ (gy [fun v=>fD X.env z v,fun v=>fD X.env y v,fun v=>fD X.env x v] [u3,u2,u1] >>= fun _=>pure Flow.next) _ _ _
 refine aq (dX (fT (jr I3 hN hk (.inl hz) r3 (fun s2 I4=>?_) (.inr hz))))
 refine dX (fT (jr I4 hN hj (.inl hy) rw' (fun s3 I5=>?_) (.inr hy)))
 refine dX (fT (jr I5 hN hi (.inl hx) rv (fun s4 I6=>ic (aL ?_)) (.inr hx)))
 rw [er _ _ (Ne.symm hij),er _ _ (Ne.symm hik),er _ _ (Ne.symm hjk)] at I6
 refine ⟨_,H1,?_,q1⟩
 first | exact I6 | (rw [er _ _ hij] at I6;exact I6) | (have e:∀ τ:St,((τ.set k (some v3)).set j (some w)).set i (some v)=((τ.set i (some v)).set j (some w)).set k (some v3):=fun τ=>by rw [er _ _ (Ne.symm hij),er _ _ (Ne.symm hik),er _ _ (Ne.symm hjk)];exact I6)
theorem Pn1_ {α:Type}{p:List α->Prop}(f:∀ a,p [a]):∀ us:List α,us.length=1->p us
 | [_],_=>f _
theorem Pn2_ {α:Type}{p:List α->Prop}(f:∀ a b,p [a,b]):∀ us:List α,us.length=2->p us
 | [_,_],_=>f _ _
theorem Pn3_ {α:Type}{p:List α->Prop}(f:∀ a b c,p [a,b,c]):∀ us:List α,us.length=3->p us
 | [_,_,_],_=>f _ _ _
theorem Pn4_ {α:Type}{p:List α->Prop}(f:∀ a b c d,p [a,b,c,d]):∀ us:List α,us.length=4->p us
 | [_,_,_,_],_=>f _ _ _ _
noncomputable def Jj_:Expr->Option Int
 | .Constant (.int i) _ _=>some i
 | _=>none
noncomputable def KR:List Expr->Option (List Int)
 | []=>some []
 | e :: r=>match Jj_ e with
  | some i=>(KR r).map (i :: ·)
  | none=>none
noncomputable def GG (is:List Int):TA:=fun _ H Q=>Q (is.map V.int) H
theorem YE {X:Cx}:∀ {es:List Expr} {is:List Int},KR es=some is->PA X es (GG is)
 | [],is,h=>by
  cases (show some []=some is from h)
  exact zb
 | e :: r,is,h=>by
  unfold KR at h
  split at h
  ·rename_i i hi
   obtain ⟨js,e',rfl⟩:=dQ.mp h
   unfold Jj_ at hi
   split at hi
   ·cases hi;exact za (te:=tC (.int i)) zh (YE e')
   ·cases hi
  ·cases h
theorem Zt:jM X (.type "int") (fun xs H Q=>∃ k,xs=[.bl k]/\Q (.int (if k then 1 else 0)) H):=by
 intro pins s σ H xs us Q I r h
 exact YQ pins s σ H xs us Q I r (.inr h)
variable {b:ay}
theorem Bx.mono {N M:Nat}(h:Bx H b N)(le:N<=M):Bx H b M:=let ⟨x,y,z,h1,h2,h3,h4,h5,h6⟩:=h;⟨x,y,z,h1,h2,h3,h4,h5,by omega⟩
variable {o:HO}
theorem Bx.new {N:Nat} (h:Bx H b N)(hp:H p=none):Bx (upd H p o) b N:=let ⟨x,y,z,h1,r⟩:=h;⟨x,y,z,(zj (zp h1 hp)).trans h1,r⟩
def vj (n:Nat)(ns:List Int):Prop:=ns.length=n/\ns.Nodup/\∀ x ∈ ns,0<=x/\x<(n:Int)
variable {n i:Nat} {ns:List Int}
theorem vj.getD (h:vj n ns) (hi:i<n):0<=ns.getD i 0/\ns.getD i 0<n:=by
 obtain ⟨l,d,b⟩:=h
 have hi':i<ns.length:=by omega
 have e:ns.getD i 0=ns[i]:=by rw [aD,au hi'];rfl
 rw [e]
 exact b _ (bv hi')
theorem Yy (h:i<ns.length):ns.getD i 0=ns[i]:=by rw [aD,au h];rfl
variable {j:Nat}
theorem vj.inj (h:vj n ns) (hi:i<n)(hj:j<n)(e:ns.getD i 0=ns.getD j 0):i=j:=by
 obtain ⟨l,d,b⟩:=h
 rw [Yy (by omega),Yy (by omega)] at e
 exact (mS d).mp e
theorem W3 {v:Int}(h:i<ns.length):(ns.set i v).getD j 0=if j=i then v else ns.getD j 0:=by
 rw [aD,dG]
 by_cases e:i=j
 ·subst e;simp [h]
 ·rw [if_neg e,if_neg (Ne.symm e),aD]
noncomputable def KG:V->V->V->Hp->(Hp->Prop)->Prop:=fun o i v H Q=>∃ k,i=.int k/\∃ p,o=.ref p/\∃ xs,H p=some (.lst xs)/\∃ j,ixN xs.length k=some j/\Q (upd H p (.lst (xs.set j v)))
section
variable {X:Cx}
theorem j6:MtR X "list.append" vJ:=Zr
theorem qj {k:Nat}{t:TGs} (n:Nat)(h:X.K=K)(hc:X.calm=true)(hs:PGs X es t)(hn:(fO es X.env).length=n:=by rfl)(hst:(fO es X.env).findIdx? (·.1)=none:=by rfl):PG X (.Tuple es k pos) (Y6 K n t):=h ▸ Hn hc hs hn hst
theorem zP:E6 X KG:=by
 intro pins s σ H o i v ov iv u Q I ro ri rv h
 obtain ⟨k,e1,p,e2,xs,h1,j,h2,q⟩:=h
 exact Bz pins s σ H o i v ov iv u Q I ro ri rv ⟨p,xs,k,j,e2,e1,h1,h2,q⟩
theorem Zb (h:X.K=K):jM X (.builtin "len") (fun xs H Q=>∃ p ys,xs=[.ref p]/\(SqL K H p ys \/ SqT K H p ys)/\Q (.int ys.length) H):=h ▸ zv
end
def Dj (os bs:List Int):Prop:=bs.length=os.length/\∀ i,i<os.length->bs.getD (os.getD i 0).toNat 0=(i:Int)
section
variable {X:Cx}
noncomputable def Yt (K:aA):R2:=fun x y H Q=>∃ p xs i v,x=.ref p/\y=.int i/\(SqL K H p xs \/ SqT K H p xs)/\atI xs i=some v/\Q v H
theorem zB:IxR X (Yt X.K):=by
 intro value slice pins s σ H x y v u Q I rx ry h hs
 obtain ⟨p,xs,i,z,e1,e2,hq | hq,he,q⟩:=h
 ·exact qO value slice pins s σ H x y v u Q I rx ry ⟨p,xs,i,z,e1,e2,hq,he,q⟩ hs
 ·exact HM value slice pins s σ H x y v u Q I rx ry ⟨p,xs,i,z,e1,e2,hq,he,q⟩ hs
theorem Qr (h:X.K=K):IxR X (Yt K):=h ▸ zB
theorem Kt:bH "all"=some (.builtin "all"):=by decide +kernel
theorem ww:∀ {bs:List Bool} {us:List aj},zJ (bs.map V.bl) us->us=bs.map aj.bool
 | [],_,h=>by cases h;rfl
 | b :: bs,_,h=>by
  cases h with
  | cons r rs=>cases r;rw [ww rs];rfl
theorem K8 (bs:List Bool):((b8 bs.length).all fun i=>(bs[i]?).getD true)=bs.all id:=by
 rw [fJ,eE,eE]
 constructor
 ·intro h x hx
  obtain ⟨i,hi,rfl⟩:=List.getElem_of_mem hx
  have:=h i (by simpa using hi)
  simpa [au hi] using this
 ·intro h i hi
  have hi':i<bs.length:=by simpa using hi
  simpa [au hi'] using h bs[i] (bv hi')
theorem yO (hc:X.calm=true):jM X (.builtin "all") (fun xs H Q=>∃ p bs,xs=[.ref p]/\SqL X.K H p (cC V.bl bs)/\Q (.bl (bs.all id)) H):=by
  intro pins s σ H xs us Q I r h
  obtain ⟨p,bs,rfl,hq,q⟩:=h
  obtain ⟨u,rfl,rx⟩:=xF r
  cases rx
  obtain ⟨its,rv,pl,hz⟩:=I.list hq
  have hu:=ww rv
  subst hu
  have hlt:p<s.heap.objs.size:=by obtain ⟨_,e,_⟩:=pl.isList;exact aI e
  refine call_all_walk (wpAny_pyIter_list pl.isList ?_)
  refine ⟨s.heap.objs.size,[s.heap.objs.size,p],[s.heap.objs.size],(bs.map aj.bool).toArray.size,_,_,fun i=>(bs[i]?).getD true,rfl,Walks.list (A:=X.A.in1) (I.ok.hd hc) _ p (bq hlt) (bs.map aj.bool).toArray,
    ⟨⟨_,bc _ rfl,rfl,rfl⟩,pl.isList.push _⟩,fun i v s' Q' E' hP hQ=>?_,fun h' tk hk=>?_⟩
  · have hP':(bs.map aj.bool)[i]?=some v:=by simpa using hP
    rw [aK] at hP'
    cases e:bs[i]? with
    | none=>rw [e] at hP';cases hP'
    | some b=>
      rw [e] at hP'
      cases hP'
      simp only [e,Option.getD_some] at hQ
      exact dE hQ
  · have e : ((b8 (bs.map aj.bool).toArray.size).all fun i => (bs[i]?).getD true) = bs.all id := by
      rw [aJ,aw];exact K8 bs
    rw [e]
    refine ⟨.bl (bs.all id),H,I.turnedL (ch:=[]) (tk:=tk) (fun b hb=>nomatch hb) (fun b o _ eb=>?_),rfl,q⟩
    exact hk b o (fun hm=>by rw [cj.mp hm] at eb;exact dk _ (aI eb)) (aE _ eb)
end
noncomputable def nxt (os:List Int)(p:Int):Int:=os.getD p.toNat 0
noncomputable def itn (os:List Int):Nat->Int->Int
 | 0,p=>p
 | k+1,p=>nxt os (itn os k p)
def LP (os:List Int)(p:Int)(m:Nat)(e:Int):Prop:=1<=m/\e=itn os m p/\e<=p/\∀ j,1<=j->j<m->p<itn os j p
open Classical in
noncomputable def wkM (os:List Int)(p:Int):Nat:=if h:∃ m,∃ e,LP os p m e then iP h else 0
open Classical in
noncomputable def wkE (os:List Int)(p:Int):Int:=itn os (wkM os p) p
section
variable {P:aX}{w:bu}{A:bg}{E:aj->az->Prop}{s:az}{j t:ay}{i:Nat}{its:Array aj}{Q:aj->az->Prop}
theorem kL {x:aj}(hj:s.heap.IsTupleIter j t i)(ht:s.heap.IsTuple t its)(hx:its[i]?=some x)(hQ:∀ h',h'.IsTupleIter j t (i+1)->bX j s.heap h'->Q x { s with heap:=h' }):aS (aR P w) A (b7 (.ref j)) Q E s:=by
 obtain ⟨o,ho,hc,hd⟩:=id hj
 obtain ⟨ot,hot,_,nt,hdt⟩:=ht
 unfold b7
 refine aq (cX (name:=af "__next__") hj.typeIs F.slot_tuple_iterator_next (eD F.slot_tuple_iterator_next hj.typeIs F.entry_tuple_iterator_next ?_ (F.args_tuple_iterator_next_1 _)))
 refine aq (m:=lC (.ref j) 0) (bY ho hd (x:=.ref t) rfl ?_);show aS _ _ (if (aj.ref t == aj.none)=true then _ else _) _ _ s;rw [if_neg (show ¬ ((aj.ref t == aj.none)=true) from bo)]
 refine aq (m:=lC (.ref j) 1) (bY ho hd (x:=.int i 0) rfl ?_);refine aq (m:=mZ (.ref t)) (eF hot hdt ?_);simp only [bp,hx]
 refine aq (d3 ho hd (by simp) (aL ⟨x,rfl,aL (hQ _ ⟨_,bK _ ho (cJ (cm hd _)),(Obj.cls_mapFields ..).trans hc,by rw [cm hd];simp [fU]⟩ (bX.update ..))⟩))
theorem xC (hh:A.handled=none)(hj:s.heap.IsTupleIter j t i)(ht:s.heap.IsTuple t its)(hx:its[i]?=none)(hE:∀ h' e,Heap.ExtBut j s.heap h'->(∃ o,h'.get? e=some o/\o.cls=.type "StopIteration")->E (.ref e) { s with heap:=h' }):aS (aR P w) A (b7 (.ref j)) Q E s:=by
 obtain ⟨o,ho,hc,hd⟩:=id hj
 obtain ⟨ot,hot,_,nt,hdt⟩:=ht
 unfold b7
 refine aq (cX (name:=af "__next__") hj.typeIs F.slot_tuple_iterator_next (eD F.slot_tuple_iterator_next hj.typeIs F.entry_tuple_iterator_next ?_ (F.args_tuple_iterator_next_1 _)))
 refine aq (m:=lC (.ref j) 0) (bY ho hd (x:=.ref t) rfl ?_);show aS _ _ (if (aj.ref t == aj.none)=true then _ else _) _ _ s;rw [if_neg (show ¬ ((aj.ref t == aj.none)=true) from bo)]
 refine aq (m:=lC (.ref j) 1) (bY ho hd (x:=.int i 0) rfl ?_);refine aq (m:=mZ (.ref t)) (eF hot hdt ?_);simp only [bp,hx]
 refine aq (iY (aq (d3 ho hd (by simp) ?_)));refine aq (m:=newExc (.type "StopIteration") []) ?_;simp only [newExc,newTuple];refine aq (cG ?_ (by size_fits));refine aq (m:=firstArgMember _ _) (wpAny_of_eq (a:=aj.none) (by first | rfl | (simp only [firstArgMember];rfl)) ?_);refine cG ?_ (by size_fits);simp only [raiseNew];refine aq (wpAny_handled ?_)
 (first | rw [show A.in1.handled=none from hh] | rw [hh]);refine aq (aL (wpAny_throw ?_));exact hE _ _ (((bX.update ..).extBut.push _).push _) ⟨_,bc _ rfl,rfl⟩
end
theorem V0 (hh:A.handled=none)(j t:ay)(hne:t ≠ j)(its:Array aj) :
  Draws P w A j [j,t] its.size (fun i v=>its[i]?=some v) (fun i h=>h.IsTupleIter j t i/\h.IsTuple t its) where
 live:=fun _ _ st=>let ⟨o,ho,_⟩:=st.1;⟨o,ho⟩
 frame:=fun _ _ _ st hk=>⟨st.1.at fun o e=>hk j (by simp) o e,let ⟨o,ho,r⟩:=st.2;⟨o,hk t (by simp) o ho,r⟩⟩
 item:=fun i s Q E hi st hQ=>by
  refine kL st.1 st.2 (x:=its[i]) (by simp [hi]) fun h' hit' hs'=>?_
  exact hQ _ h' s.toks (by simp [hi]) ⟨hit',let ⟨o,ho,r⟩:=st.2;⟨o,(hs'.2 t hne).trans ho,r⟩⟩ hs'
 done:=fun s Q E st hE=>xC hh st.1 st.2 (by simp) hE
open AutoSeq1 (wpAny_loadPart') in
theorem VE (l:ay)(its:Array aj)(n:Nat)(dct:Option ay)(sl:Array (Option aj)) :
  Meets (Builtin.«enumerate.__new__» ⟨[.type "enumerate",.ref l],[]⟩) (fun _ R s=>s.heap.get? l=some { cls:=.type "tuple",dict:=dct,data:=.seq its n,slots:=sl }/\R (.ok (.ret (.ref (s.heap.push { cls:=.type "tuple_iterator",data:=.fields #[.ref l,.int 0 0] }).objs.size))) { s with heap:=(s.heap.push { cls:=.type "tuple_iterator",data:=.fields #[.ref l,.int 0 0] }).push { cls:=.type "enumerate",data:=.fields #[.none,.bool false,.ref s.heap.objs.size,fU 0,.none,.none] } }):=
 .of_wp fun prog w A R s h=>by
  obtain ⟨hp,g,d,tk,os⟩:=s
  obtain ⟨hl,h⟩:=h
  have hsub:=sub_enumerate
  have hT:mL (az.heap ⟨hp,g,d,tk,os⟩) l its:=⟨_,hl,rfl,n,rfl⟩
  wp_walk using cS hl
  refine wpAny_stack_any fun st=>aL ?_
  split
  ·rename_i c _ _ _ _ _
   cases (c == aj.type "enumerate")
   ·wp_walk using cS hl,d6 hT;exact ⟨_,rfl,h⟩
   ·wp_walk using cS hl,d6 hT;exact ⟨_,rfl,h⟩
  ·wp_walk using cS hl,d6 hT;exact ⟨_,rfl,h⟩
variable {its:Array aj}
theorem Xl {E:aj->az->Prop} {l:ay} {Q:aj->az->Prop}(hT:s.heap.IsTuple l its)
  (h:∀ h',IsEnum h' (s.heap.objs.size+1) s.heap.objs.size 0 .none->h'.IsTupleIter s.heap.objs.size l 0->(∀ b o,s.heap.get? b=some o->h'.get? b=some o)->Q (.ref (s.heap.objs.size+1)) { s with heap:=h' }) :
  aS (aR P w) A (call (.type "enumerate") [.ref l]) Q E s:=by
 obtain ⟨⟨c,dct,dt,sl⟩,hl,hc,n,hd⟩:=hT
 replace hc:c=.type "tuple":=hc
 replace hd:dt=.seq its n:=hd
 subst hc hd
 refine callType_new F.called_enumerate (by decide) (F.typeCall_enumerate_1 _) (F.newCall_enumerate_1 _) (fun obj=>F.args_object_init_2 obj _) F.entry_enumerate_new (VE l its n dct sl) ⟨hl,?_⟩
 have hz:(s.heap.push { cls:=.type "tuple_iterator",data:=.fields #[.ref l,.int 0 0] }).objs.size=s.heap.objs.size+1:=dz ..
 show _/\_
 rw [hz]
 have he:IsEnum ((s.heap.push { cls:=.type "tuple_iterator",data:=.fields #[.ref l,.int 0 0] }).push { cls:=.type "enumerate",data:=.fields #[.none,.bool false,.ref s.heap.objs.size,fU 0,.none,.none] }) (s.heap.objs.size+1) s.heap.objs.size 0 .none:=by
  have hg:=bc (s.heap.push { cls:=.type "tuple_iterator",data:=.fields #[.ref l,.int 0 0] }) (o:={ cls:=.type "enumerate",data:=.fields #[.none,.bool false,.ref s.heap.objs.size,fU 0,.none,.none] }) rfl
  rw [hz] at hg;exact hg
 exact ⟨⟨_,he,rfl⟩,h _ he ⟨_,aE _ (bc _ rfl),rfl,rfl⟩ fun b o x=>aE _ (aE _ x)⟩
theorem Vz {E:aj->az->Prop} {e j t:ay} {old:aj}{Q:Option aj->az->Prop}(hh:A.handled=none)
  (he:IsEnum s.heap e j i old) (hj:s.heap.IsTupleIter j t i) (ht:s.heap.IsTuple t its) (hx:its[i]?=none) (hQ:∀ h',Heap.ExtBut j s.heap h'->Q none { s with heap:=h' }):aS (aR P w) A (lu (.ref e)) Q E s:=by
 have hT:s.TypeIs (.ref e) "enumerate":=⟨_,he,rfl⟩
 unfold lu
 refine aq (iB (cX (name:=af "__next__") hT F.slot_enumerate_next (eD F.slot_enumerate_next hT F.entry_enumerate_next ?_ (F.args_enumerate_next_1 _))))
 refine aq (m:=lC (.ref e) 2) (bY he rfl (x:=.ref j) rfl ?_);refine aq (xC hh hj ht hx fun h' x he' hx'=>?_)
 obtain ⟨o,ho,hc⟩:=hx'
 refine aq (wpAny_isInstance (T:="StopIteration") (b:=true) ⟨o,ho,hc⟩ isSubtype_stop ?_);exact aL (hQ _ he')
noncomputable def IW (K:aA)(a:ay):It:=
 ⟨fun i H=>∃ xs x,SqT K H a xs/\xs[i]?=some x,fun i H y H'=>∃ p x,H p=none/\y=.ref p/\(∀ xs,SqT K H a xs->xs[i]?=some x)/\H'=upd H p (.tup [.int i,x]),fun i H=>∃ xs,SqT K H a xs/\xs.length<=i⟩
theorem Xg (a e it:ay)(hei:e ≠ it)(hea:e ≠ a)(hai:a ≠ it):Jf P w K (.Tuple es kt tp) (IW K a) [e,it] e (fun i h=>(∃ old,IsEnum h e it (i:Nat) old)/\h.IsTupleIter it a i) where
 mem:=by simp
 obj:=fun i h st b hb=>by
  obtain ⟨⟨old,he⟩,⟨o,e1,c,d⟩⟩:=st
  rcases aF.mp hb with rfl | hb
  ·exact ⟨_,he,fun v z=>by have z':dR _=fQ v:=z;cases z'⟩
  ·have e2:b=it:=by simpa using hb
   subst e2
   exact ⟨o,e1,fun v z=>by rw [d] at z;cases z⟩
 keep:=fun i h h' st k=>by
  obtain ⟨⟨old,he⟩,st⟩:=st
  exact ⟨⟨old,k e (by simp) _ he⟩,st.at fun o e=>k it (by simp) o e⟩
 item:=by
  intro X hP hw hK hc i pins s σ H E I hf st hg
  subst hP hw hK
  obtain ⟨⟨old,he⟩,st⟩:=st
  obtain ⟨xs,x,hq,hx⟩:=hg
  obtain ⟨its,rv,p,hz⟩:=I.tuple hq
  obtain ⟨u,hu,ru⟩:=rv.get hx
  have hlt:i<its.toArray.size:=by
   have:=(aG.mp hu).1
   simpa using this
  refine wpAny_pyNext_enum_itemD (V0 (A:=X.A.in1) (I.ok.hd hc) it a hai its.toArray) he ⟨st,p⟩ hlt hei (by simp [hei,hea]) fun x' h1 tk hP heo hit1 ht1 hz1 hk1=>?_
  have hxu:x'=u:=by
   have h1':its[i]?=some x':=by simpa using hP
   rw [hu] at h1';cases h1';rfl
  subst hxu
  refine ⟨.ref s.heap.objs.size,rfl,hU heo fun h2 he2 hs2=>?_⟩
  replace hs2:bX e h1 h2:=hs2
  have elt:e<s.heap.objs.size:=aI he
  have ht2:=(hs2.2 _ (eh elt)).trans ht1
  have I2:Inv X pins σ (upd H s.heap.objs.size (.tup [.int i,x])) { s with heap:=h2,toks:=tk+1 }:=by
   refine I.yieldTup (us:=[.int i tk,x']) hf (fun b o hb q=>?_) (aM _) ht2 (.cons ⟨_,rfl⟩ (.cons ru .nil)) (by show 2<=aQ;decide)
   have n1:b ≠ e:=fun z=>hb (by simp [z])
   have n2:b ≠ it:=fun z=>hb (by simp [z])
   exact (hs2.2 b n1).trans (hk1 b o n1 n2 q)
  refine ⟨.ref s.heap.objs.size,_,I2,rfl,⟨s.heap.objs.size,x,I.hok.fresh (aM _),rfl,fun ys hy=>by rw [I.tuple_inj hy hq];exact hx,rfl⟩,⟨⟨_,by simpa using he2⟩,hit1.1.extBut hs2.extBut (Ne.symm hei)⟩,fun b hb=>?_⟩
  have hlt:b<s.heap.objs.size:=by
   rcases aF.mp hb with rfl | hb
   ·exact elt
   ·have e2:b=it:=by simpa using hb
    subst e2
    obtain ⟨o,e1,_⟩:=st
    exact aI e1
  rw [zj (bq hlt)]
  exact (hf b hb).1
 done:=by
  intro X hP hw hK hc i pins s σ H E I hf st hg
  subst hP hw hK
  obtain ⟨⟨old,he⟩,st⟩:=st
  obtain ⟨xs,hq,hx⟩:=hg
  obtain ⟨its,rv,p,hz⟩:=I.tuple hq
  obtain ⟨f0,f1,f2,f3,f4,f5⟩:=hf it (by simp)
  have hl:=rv.length
  exact Vz (I.ok.hd hc) he st p (by simp;omega) fun h' eb=>⟨rfl,I.turned (t':=s.toks) (fun b o hb e=>eb b o hb e) f0 f1 f3 f4 f5⟩
 self:=fun _ _ _ _ _ st h=>by
  obtain ⟨⟨old,he⟩,_⟩:=st
  exact eY he h
section
variable {X:Cx}{es:List Expr}{kt:Nat}{tp:Pos}
noncomputable def Qg (K:aA)(ta:TA):TI:=fun σ H R=>ta σ H fun vs H1=>∃ a,vs=[.ref a]/\(((∃ xs,SqL K H1 a xs)/\R (Ite K a) H1) \/ ((∃ xs,SqT K H1 a xs)/\R (IW K a) H1))
theorem vd {e:Expr} {p pos:Pos}(hg:Gl X "enumerate")(hm:X.mg "enumerate"=none)(ha:PA X [e] ta)(hs:aO [e] X.env=[(false,eval e X.env)]:=by rfl) :
  PI X (.Tuple es kt tp) (.Call (.Name "enumerate" p) [e] [] pos) (Qg X.K ta):=by
 intro pins s σ H R I h
 refine Call_ (xa I hg hm (wa) (cY (thn (ha pos pins s σ H _ I h) fun us s1 ⟨vs,H1,I1,r1,q1⟩=>?_) hs rfl))
 obtain ⟨a,e,q⟩:=q1
 subst e
 obtain ⟨u,rfl,ru⟩:=xF r1
 cases ru
 have hb':∀ b ∈ [s1.heap.objs.size+1,s1.heap.objs.size],s1.heap.objs.size<=b:=by
  intro b hb
  simp only [aF,aN,or_false] at hb
  omega
 rcases q with ⟨⟨xs,hq⟩,q⟩ | ⟨⟨xs,hq⟩,q⟩
 ·obtain ⟨its,rv,pl,hz⟩:=I1.list hq
  refine call_enumerate_list pl.isList fun h' he hit hsz hk=>eY he ?_
  have I2:Inv X pins σ H1 { s1 with heap:=h' }:=I1.kept (t':=s1.toks) hk
  exact ⟨s1.heap.objs.size+1,[s1.heap.objs.size+1,s1.heap.objs.size],_,_,H1,rfl,I2,Zy a _ _ (iO _),⟨⟨_,he⟩,hit⟩,fun b hb=>I1.fpOk (hb' b hb) (I1.hok.fresh (hb' b hb)),q⟩
 ·obtain ⟨its,rv,pl,hz⟩:=I1.tuple hq
  have alt:a<s1.heap.objs.size:=by obtain ⟨o,e,_⟩:=pl;exact aI e
  refine Xl pl fun h' he hit hk=>eY he ?_
  have I2:Inv X pins σ H1 { s1 with heap:=h' }:=I1.kept (t':=s1.toks) hk
  exact ⟨s1.heap.objs.size+1,[s1.heap.objs.size+1,s1.heap.objs.size],_,_,H1,rfl,I2,Xg a (s1.heap.objs.size+1) s1.heap.objs.size (iO _) (eh (mK alt)) (bq alt),⟨⟨_,he⟩,hit⟩,fun b hb=>I1.fpOk (hb' b hb) (I1.hok.fresh (hb' b hb)),q⟩
end
def MR (r:R2):Prop:=∀ x y H Q Q',(∀ z H1,Q z H1->Q' z H1)->r x y H Q->r x y H Q'
def Rch (os:List Int)(q x:Int):Prop:=∃ k,itn os k q=x
noncomputable def Mkd (os:List Int)(mk:Nat):Nat->Int->Prop
 | 0,_=>False
 | i+1,x=>Mkd os mk i x \/ (¬ Mkd os mk i (i:Int)/\wkE os (i:Int)=(i:Int)/\Rch os (i:Int) x/\x<(mk:Int))
open Classical in
noncomputable def cnt (os:List Int)(mk:Nat)(i:Nat):Int:=if Mkd os mk i (i:Int) then 0 else ((wkM os (i:Int):Nat):Int)
noncomputable def iLT (K:aA)(tl:TE):TI:=fun σ H R=>tl σ H fun x H1=>∃ a,x=.ref a/\(((∃ xs,SqL K H1 a xs)/\R (Itl K a) H1) \/ ((∃ xs,SqT K H1 a xs)/\R (Itt K a) H1))
theorem Jp {tg:Expr}{l:Expr}{tl:TE}(hl:PE X l tl):PI X tg l (iLT X.K tl):=by
 intro pins s σ H R I h
 refine thn (hl pins s σ H _ I h) fun v s1 ⟨x,H1,I1,r1,q1⟩=>?_
 obtain ⟨a,e,q⟩:=q1
 subst e
 cases r1
 have fo:∀ b ∈ [s1.heap.objs.size],vH X pins H1 b:=fun b hb=>by
  have e:b=s1.heap.objs.size:=by simpa using hb
  subst e
  exact I1.fpOk (aM _) (I1.hok.fresh (aM _))
 rcases q with ⟨⟨xs,hq⟩,q⟩ | ⟨⟨xs,hq⟩,q⟩
 ·obtain ⟨its,rv,p,hz⟩:=I1.list hq
  refine wpAny_pyIter_list p.isList ?_
  exact ⟨s1.heap.objs.size,[s1.heap.objs.size],_,_,H1,rfl,I1.kept (t':=s1.toks) fun b o e=>aE _ e,V7 a _,⟨_,bc _ rfl,rfl,rfl⟩,fo,q⟩
 ·obtain ⟨its,rv,p,hz⟩:=I1.tuple hq
  refine d6 (show s1.heap.IsTuple a its.toArray from p) ?_
  exact ⟨s1.heap.objs.size,[s1.heap.objs.size],_,_,H1,rfl,I1.kept (t':=s1.toks) fun b o e=>aE _ e,KN a _,⟨_,bc _ rfl,rfl,rfl⟩,fo,q⟩
section
variable {X:Cx}
end
section
variable {X:Cx}
end
section
variable {prog:aX}{w:bu}{A:bg}{R:mT->az->Prop}{s:az}
end
def CL (J:It)(g:TG)(tt:TT)(tr:St->Hp->(St->Hp->Prop)->Prop)(N:St->Hp->Prop)(σ:St)(H:Hp):Prop:=∃ W:Nat->Nat->St->Hp->Prop,(∃ m,W 0 m σ H)/\∀ i m τ H2,W i m τ H2 ->
 (J.stop i H2/\N τ H2) \/ (J.go i H2/\∃ N1:St->Hp->Prop,(∀ τ' H',N1 τ' H'->∃ m',m'<m/\W (i+1) m' τ' H')/\∀ x H',J.yld i H2 x H'->g x τ H' fun τ2 H3=>tt τ2 H3 fun b H4=>
  if b=true then tr τ2 H4 N1 else N1 τ2 H4)
abbrev TR:=St->Hp->(St->Hp->Prop)->Prop
noncomputable def K9 (te:TE)(D:ay):TR:=fun σ H N=>te σ H fun v H5=>∃ ys,H5 D=some (.lst ys)/\ys.length<aQ/\N σ (upd H5 D (.lst (ys ++ [v])))
noncomputable def Iu (wi:TI)(g:TG)(tt:TT)(tr:ay->TR)(D:ay):TR:=fun σ H N=>wi σ H fun J H1=>CL J g tt (tr D) N σ H1
section
variable {C:Cx}{elt tg iter:Expr}{ifs:List Expr}{gens:List gz}{scope:Scope}{pos:Pos}{d:Nat}{D:ay}{g:TG}{tt:TT}{te:TE}{tr:TR}
end
noncomputable def By (ts:List Nat)(wi:TI)(g:TG)(tt:TT)(tr:ay->TR):TE:=fun σ H Q=>wi σ H fun J H1=>∀ D,H1 D=none->CL J g tt (tr D) (fun _ H2=>Q (.ref D) H2) (clr ts σ) (upd H1 D (.lst []))
section
variable {X:Cx}{ts:List Nat}{scope:Scope}{tg iter elt:Expr}{ifs:List Expr}{qR:List gz}{wi:TI}{g:TG}{tt:TT}{tr:ay->TR}{pos:Pos}
end
theorem YY {tr:ay->TR}:
  By ts wi g tt tr σ H Q=wi σ H (fun J H1=>∀ D,H1 D=none->CL J g tt (tr D) (fun _ H2=>Q (.ref D) H2) (clr ts σ) (upd H1 D (.lst []))):=rfl
theorem YN {tr:ay->TR}{D:ay} {N:St->Hp->Prop}:Iu wi g tt tr D σ H N=wi σ H (fun J H1=>CL J g tt (tr D) N σ H1):=rfl
theorem Vc {D:ay} {N:St->Hp->Prop}:K9 te D σ H N=te σ H (fun v H5=>∃ ys,H5 D=some (.lst ys)/\ys.length<aQ/\N σ (upd H5 D (.lst (ys ++ [v])))):=rfl
section
variable {P:aX}{w:bu}{A:bg}{E:aj->az->Prop}{it l:ay}{items:Array aj}
end
section
variable {X:Cx}{pos:Pos}
end
noncomputable def rep (o:Nat)(G:List Int):List Int:=(b8 (o * G.length)).map fun (i:Nat)=>((i / G.length * G.length:Nat):Int)+G.getD (i % G.length) 0
section
variable {P:aX}{w:bu}{A:bg}{E:aj->az->Prop}{s:az}{z TI TO i1 i2 l1 l2:ay}{k:Nat}{xs ys:Array aj}{x y a b:aj}{Q:Option aj->az->Prop}
theorem YZ (D:ZipApart z TI TO i1 i2 l1 l2)(hz:IsZip s.heap z TI TO .none)(hTI:gf s.heap TI (.ref i1) (.ref i2))(hTO:gf s.heap TO a b)(h1:s.heap.IsTupleIter i1 l1 k)(h2:s.heap.IsTupleIter i2 l2 k)(p1:s.heap.IsTuple l1 xs)(p2:s.heap.IsTuple l2 ys)(hx:xs[k]?=some x)(hy:ys[k]?=some y)
  (hQ:∀ h',IsZip h' z TI TO (fU s.heap.objs.size)->gf h' TO x y->h'.IsTupleIter i1 l1 (k+1)->h'.IsTupleIter i2 l2 (k+1)->gf h' s.heap.objs.size x y->h'.objs.size=s.heap.objs.size+1->(∀ c o,c ≠ z->c ≠ TO->c ≠ i1->c ≠ i2->s.heap.get? c=some o->h'.get? c=some o)->Q (some (.ref s.heap.objs.size)) { s with heap:=h' }) :
  aS (aR P w) A (lu (.ref z)) Q E s:=by
 have hT:s.TypeIs (.ref z) "zip":=⟨_,hz,rfl⟩
 unfold lu
 refine aq (iB (cX (name:=af "__next__") hT F.slot_zip_next (eD F.slot_zip_next hT F.entry_zip_next ?_ (F.args_zip_next_1 _))))
 refine aq (m:=lC (.ref z) 2) (bY hz rfl (x:=.bool false) rfl ?_)
 refine aq (m:=lC (.ref z) 3) (bY hz rfl (x:=.ref TI) rfl ?_)
 refine aq (m:=mZ (.ref TI)) (eF hTI rfl ?_)
 refine aq (m:=cK (.ref z)) ?_
 unfold cK
 refine aq (bY hz rfl (x:=.none) rfl (aL ?_))
 refine aq (m:=rule "zip.__next__.owned-tuple-again") (iY ?_)
 refine aq (m:=lC (.ref z) 4) (bY hz rfl (x:=.ref TO) rfl ?_)
 refine aq (m:=setField (.ref z) 0 .ellipsis) (d3 hz rfl (by simp) ?_)
 have sb1:=bX.update s.heap z (bB fun x_1=>x_1.setIfInBounds 0 aj.ellipsis)
 have g1:(s.heap.update z (bB fun x_1=>x_1.setIfInBounds 0 aj.ellipsis)).get? z=some { cls:=aj.type "zip",data:=dR #[.ellipsis,aj.bool false,aj.bool false,aj.ref TI,aj.ref TO] }:=bK _ hz (cJ (cm rfl _))
 generalize s.heap.update z (bB fun x_1=>x_1.setIfInBounds 0 aj.ellipsis)=h1' at *
 refine aq ?_
 rw [show (#[aj.ref i1,aj.ref i2].toList.zipIdx:List (aj × Nat))=[(.ref i1,0),(.ref i2,1)] from rfl,gJ]
 dsimp only
 have it1:h1'.IsTupleIter i1 l1 k:=by obtain ⟨o,ho,r⟩:=h1;exact ⟨o,(sb1.2 i1 D.i1z).trans ho,r⟩
 have tp1:h1'.IsTuple l1 xs:=by obtain ⟨o,ho,r⟩:=p1;exact ⟨o,(sb1.2 l1 D.l1z).trans ho,r⟩
 refine aq (aq (lR ?_))
 show aS _ _ (b7 (.ref i1) >>= fun v=>pure (some v)) _ _ _
 refine aq (kL it1 tp1 hx fun h2' it2 sb2=>aL ?_)
 dsimp only
 have gTO2:gf h2' TO a b:=((sb2.2 TO D.TOi1).trans (sb1.2 TO D.TOz)).trans hTO
 refine aq (eF gTO2 rfl ?_)
 dsimp only
 refine aq (wpAny_updateSeq_pair gTO2 fun h3' g3 sb3=>?_)
 refine aq (wpAny_letGo (aL ?_))
 dsimp only
 have g3':gf h3' TO x b:=g3
 have it3:h3'.IsTupleIter i2 l2 k:=by obtain ⟨o,ho,r⟩:=h2;exact ⟨o,(((sb3.2 i2 (Ne.symm D.TOi2)).trans (sb2.2 i2 (Ne.symm D.i12))).trans (sb1.2 i2 D.i2z)).trans ho,r⟩
 have tp3:h3'.IsTuple l2 ys:=by obtain ⟨o,ho,r⟩:=p2;exact ⟨o,(((sb3.2 l2 D.l2TO).trans (sb2.2 l2 D.l2i1)).trans (sb1.2 l2 D.l2z)).trans ho,r⟩
 rw [gJ]
 refine aq (aq (lR ?_))
 show aS _ _ (b7 (.ref i2) >>= fun v=>pure (some v)) _ _ _
 refine aq (kL it3 tp3 hy fun h4' it4 sb4=>aL ?_)
 dsimp only
 have gTO4:gf h4' TO x b:=(sb4.2 TO D.TOi2).trans g3'
 refine aq (eF gTO4 rfl ?_)
 dsimp only
 refine aq (wpAny_updateSeq_pair gTO4 fun h5' g5 sb5=>?_)
 refine aq (wpAny_letGo (aL ?_))
 dsimp only
 have g5':gf h5' TO x y:=g5
 rw [List.forIn_nil]
 refine aL ?_
 dsimp only
 refine aq (eF g5' rfl ?_)
 dsimp only
 have sz5:h5'.objs.size=s.heap.objs.size:=((((sb5.1).trans sb4.1).trans sb3.1).trans sb2.1).trans sb1.1
 refine aq (wpAny_newTuple ?_ (by show 2<=aQ;decide))
 have gz5:h5'.get? z=some { cls:=aj.type "zip",data:=dR #[.ellipsis,aj.bool false,aj.bool false,aj.ref TI,aj.ref TO] }:=((((sb5.2 z (Ne.symm D.TOz)).trans (sb4.2 z (Ne.symm D.i2z))).trans (sb3.2 z (Ne.symm D.TOz))).trans (sb2.2 z (Ne.symm D.i1z))).trans g1
 have zlt:z<h5'.objs.size:=aI gz5
 have g6:(h5'.push { cls:=aj.type "tuple",data:=fb #[x,y] }).get? z=_:=aE _ gz5
 have n6:(h5'.push { cls:=aj.type "tuple",data:=fb #[x,y] }).get? h5'.objs.size=some { cls:=aj.type "tuple",data:=fb #[x,y] }:=bc _ rfl
 have ex6:∀ c o,h5'.get? c=some o->(h5'.push { cls:=aj.type "tuple",data:=fb #[x,y] }).get? c=some o:=fun c o e=>aE _ e
 have sz6:(h5'.push { cls:=aj.type "tuple",data:=fb #[x,y] }).objs.size=h5'.objs.size+1:=dz ..
 show aS _ _ (fB (.ref z) (.ref h5'.objs.size) >>= _) _ _ { s with heap:=h5'.push { cls:=aj.type "tuple",data:=fb #[x,y] } }
 generalize h5'.push { cls:=aj.type "tuple",data:=fb #[x,y] }=h6' at *
 unfold fB
 refine aq (aq (d3 g6 rfl (by simp) (d3 (bK _ g6 (cJ (cm rfl _))) rfl (by simp) ?_)))
 have sb7:=bX.update h6' z (bB fun x_1=>x_1.setIfInBounds 0 (fU h5'.objs.size))
 have g7:(h6'.update z (bB fun x_1=>x_1.setIfInBounds 0 (fU h5'.objs.size))).get? z=some { cls:=aj.type "zip",data:=dR #[fU h5'.objs.size,aj.bool false,aj.bool false,aj.ref TI,aj.ref TO] }:=bK _ g6 (cJ (cm rfl _))
 dsimp only
 generalize h6'.update z (bB fun x_1=>x_1.setIfInBounds 0 (fU h5'.objs.size))=h7' at *
 have sb8:=bX.update h7' z (bB fun x_1=>x_1.setIfInBounds 1 (aj.bool false))
 have g8:(h7'.update z (bB fun x_1=>x_1.setIfInBounds 1 (aj.bool false))).get? z=some { cls:=aj.type "zip",data:=dR #[fU h5'.objs.size,aj.bool false,aj.bool false,aj.ref TI,aj.ref TO] }:=bK _ g7 (cJ (cm rfl _))
 generalize h7'.update z (bB fun x_1=>x_1.setIfInBounds 1 (aj.bool false))=h8' at *
 have far:∀ c o,c ≠ z->h6'.get? c=some o->h8'.get? c=some o:=fun c o hc e=>((sb8.2 c hc).trans (sb7.2 c hc)).trans e
 refine aL ⟨_,rfl,aL ?_⟩
 rw [sz5] at g8 n6 sz6 zlt ⊢
 refine hQ h8' g8 (far _ _ D.TOz (ex6 _ _ g5')) ?_ ?_ (far _ _ (eh zlt) n6) (by rw [sb8.1,sb7.1,sz6]) fun c o c1 c2 c3 c4 e=>?_
 ·obtain ⟨o,ho,r⟩:=it2
  exact ⟨o,far _ _ D.i1z (ex6 _ _ (((sb5.2 i1 (Ne.symm D.TOi1)).trans (sb4.2 i1 D.i12)).trans ((sb3.2 i1 (Ne.symm D.TOi1)).trans ho))),r⟩
 ·obtain ⟨o,ho,r⟩:=it4
  exact ⟨o,far _ _ D.i2z (ex6 _ _ ((sb5.2 i2 (Ne.symm D.TOi2)).trans ho)),r⟩
 ·exact far _ _ c1 (ex6 _ _ ((sb5.2 c c2).trans ((sb4.2 c c4).trans ((sb3.2 c c2).trans ((sb2.2 c c3).trans ((sb1.2 c c1).trans e))))))
theorem Bt (hh:A.handled=none)(D:ZipApart z TI TO i1 i2 l1 l2)(hz:IsZip s.heap z TI TO .none)(hTI:gf s.heap TI (.ref i1) (.ref i2))(h1:s.heap.IsTupleIter i1 l1 k)(p1:s.heap.IsTuple l1 xs)(hx:xs[k]?=none)
  (hQ:∀ h',(∀ c o,c ≠ z->c ≠ TO->c ≠ i1->c ≠ i2->s.heap.get? c=some o->h'.get? c=some o)->Q none { s with heap:=h' }):aS (aR P w) A (lu (.ref z)) Q E s:=by
 have hT:s.TypeIs (.ref z) "zip":=⟨_,hz,rfl⟩
 unfold lu
 refine aq (iB (cX (name:=af "__next__") hT F.slot_zip_next (eD F.slot_zip_next hT F.entry_zip_next ?_ (F.args_zip_next_1 _))))
 refine aq (m:=lC (.ref z) 2) (bY hz rfl (x:=.bool false) rfl ?_)
 refine aq (m:=lC (.ref z) 3) (bY hz rfl (x:=.ref TI) rfl ?_)
 refine aq (m:=mZ (.ref TI)) (eF hTI rfl ?_)
 refine aq (m:=cK (.ref z)) ?_
 unfold cK
 refine aq (bY hz rfl (x:=.none) rfl (aL ?_))
 refine aq (m:=rule "zip.__next__.owned-tuple-again") (iY ?_)
 refine aq (m:=lC (.ref z) 4) (bY hz rfl (x:=.ref TO) rfl ?_)
 refine aq (m:=setField (.ref z) 0 .ellipsis) (d3 hz rfl (by simp) ?_)
 have sb1:=bX.update s.heap z (bB fun x_1=>x_1.setIfInBounds 0 aj.ellipsis)
 have g1:(s.heap.update z (bB fun x_1=>x_1.setIfInBounds 0 aj.ellipsis)).get? z=some { cls:=aj.type "zip",data:=dR #[.ellipsis,aj.bool false,aj.bool false,aj.ref TI,aj.ref TO] }:=bK _ hz (cJ (cm rfl _))
 generalize s.heap.update z (bB fun x_1=>x_1.setIfInBounds 0 aj.ellipsis)=h1' at *
 refine aq ?_
 rw [show (#[aj.ref i1,aj.ref i2].toList.zipIdx:List (aj × Nat))=[(.ref i1,0),(.ref i2,1)] from rfl,gJ]
 dsimp only
 have it1:h1'.IsTupleIter i1 l1 k:=by obtain ⟨o,ho,r⟩:=h1;exact ⟨o,(sb1.2 i1 D.i1z).trans ho,r⟩
 have tp1:h1'.IsTuple l1 xs:=by obtain ⟨o,ho,r⟩:=p1;exact ⟨o,(sb1.2 l1 D.l1z).trans ho,r⟩
 refine aq (aq (lR ?_))
 show aS _ _ (b7 (.ref i1) >>= fun v=>pure (some v)) _ _ _
 refine aq (xC (by first | exact hh | (show A.in1.handled=none;exact hh)) it1 tp1 hx fun h2' e ex2 ⟨oe,hoe,hce⟩=>?_)
 have gz2:h2'.get? z=some { cls:=aj.type "zip",data:=dR #[.ellipsis,aj.bool false,aj.bool false,aj.ref TI,aj.ref TO] }:=ex2 z _ (Ne.symm D.i1z) g1
 have hez:e ≠ z:=by
  intro h
  subst h
  have hoe':h2'.get? e=some oe:=hoe
  rw [gz2] at hoe'
  cases hoe'
  exact absurd (show aj.type "zip"=aj.type "StopIteration" from hce) (by decide)
 refine d3 gz2 rfl (by simp) ?_
 have sb3:=bX.update h2' z (bB fun x_1=>x_1.setIfInBounds 0 aj.none)
 dsimp only
 generalize h2'.update z (bB fun x_1=>x_1.setIfInBounds 0 aj.none)=h3' at *
 refine aq (wpAny_isInstance (T:="StopIteration") (b:=true) ⟨oe,(sb3.2 e hez).trans hoe,hce⟩ isSubtype_stop ?_)
 refine aL (hQ h3' fun c o c1 c2 c3 c4 ec=>?_)
 exact (sb3.2 c c1).trans (ex2 c o c3 ((sb1.2 c c1).trans ec))
end
open AutoSeq1 (wpAny_loadPart') in
theorem WE (l1 l2:ay)(xs ys:Array aj)(n1 n2:Nat)(d1 d2:Option ay)(s1 s2:Array (Option aj)) :
  Meets (Builtin.«zip.__new__» ⟨[.type "zip",.ref l1,.ref l2],[]⟩) (fun _ R s=>s.heap.get? l1=some { cls:=.type "tuple",dict:=d1,data:=.seq xs n1,slots:=s1 }/\s.heap.get? l2=some { cls:=.type "tuple",dict:=d2,data:=.seq ys n2,slots:=s2 } /\
   ∀ g1 g2 g3 g4 g5,g1=s.heap.push { cls:=.type "tuple_iterator",data:=.fields #[.ref l1,.int 0 0] }->g2=g1.push { cls:=.type "tuple_iterator",data:=.fields #[.ref l2,.int 0 0] }->g3=g2.push { cls:=.type "tuple",data:=.seq #[.ref s.heap.objs.size,.ref g1.objs.size] }->g4=g3.push { cls:=.type "tuple",data:=.seq #[.none,.none] }->g5=g4.push { cls:=.type "zip",data:=.fields #[.none,.bool false,.bool false,.ref g2.objs.size,.ref g3.objs.size] }->R (.ok (.ret (.ref g4.objs.size))) { s with heap:=g5 }):=
 .of_wp fun prog w A R s h=>by
  obtain ⟨hp,g,d,tk,os⟩:=s
  obtain ⟨hl1,hl2,h⟩:=h
  have hT1:mL (az.heap ⟨hp,g,d,tk,os⟩) l1 xs:=⟨_,hl1,rfl,n1,rfl⟩
  have hT2:mL (hp.push { cls:=.type "tuple_iterator",data:=.fields #[.ref l1,.int 0 0] }) l2 ys:=⟨_,aE _ hl2,rfl,n2,rfl⟩
  have hsub:isSubtype (aj.type "zip") (aj.type "zip")=pure true:=by first | exact sub_zip | rfl
  wp_walk using cS hl1,d6 hT1,d6 hT2
  exact ⟨_,rfl,h _ _ _ _ _ rfl rfl rfl rfl rfl⟩
theorem V2 {E:aj->az->Prop} {l1 l2:ay}{xs ys:Array aj}{Q:aj->az->Prop}(hT1:s.heap.IsTuple l1 xs)(hT2:s.heap.IsTuple l2 ys)
  (h:∀ h',IsZip h' (s.heap.objs.size+4) (s.heap.objs.size+2) (s.heap.objs.size+3) .none->gf h' (s.heap.objs.size+2) (.ref s.heap.objs.size) (.ref (s.heap.objs.size+1))->gf h' (s.heap.objs.size+3) .none .none->h'.IsTupleIter s.heap.objs.size l1 0->h'.IsTupleIter (s.heap.objs.size+1) l2 0->(∀ b o,s.heap.get? b=some o->h'.get? b=some o)->Q (.ref (s.heap.objs.size+4)) { s with heap:=h' }) :
  aS (aR P w) A (call (.type "zip") [.ref l1,.ref l2]) Q E s:=by
 obtain ⟨⟨c1,d1,dt1,sl1⟩,hl1,hc1,n1,hd1⟩:=hT1
 replace hc1:c1=.type "tuple":=hc1
 replace hd1:dt1=.seq xs n1:=hd1
 subst hc1 hd1
 obtain ⟨⟨c2,d2,dt2,sl2⟩,hl2,hc2,n2,hd2⟩:=hT2
 replace hc2:c2=.type "tuple":=hc2
 replace hd2:dt2=.seq ys n2:=hd2
 subst hc2 hd2
 refine callType_new F.called_zip (by decide) (F.typeCall_zip_2 _ _) (F.newCall_zip_2 _ _) (fun obj=>F.args_object_init_3 obj _ _) F.entry_zip_new (WE l1 l2 xs ys n1 n2 d1 d2 sl1 sl2) ⟨hl1,hl2,?_⟩
 intro g1 g2 g3 g4 g5 e1 e2 e3 e4 e5
 have z1:g1.objs.size=s.heap.objs.size+1:=by rw [e1,dz]
 have z2:g2.objs.size=s.heap.objs.size+2:=by rw [e2,dz,z1]
 have z3:g3.objs.size=s.heap.objs.size+3:=by rw [e3,dz,z2]
 have z4:g4.objs.size=s.heap.objs.size+4:=by rw [e4,dz,z3]
 have k1:∀ b o,s.heap.get? b=some o->g1.get? b=some o:=fun b o x=>by rw [e1];exact aE _ x
 have k2:∀ b o,g1.get? b=some o->g2.get? b=some o:=fun b o x=>by rw [e2];exact aE _ x
 have k3:∀ b o,g2.get? b=some o->g3.get? b=some o:=fun b o x=>by rw [e3];exact aE _ x
 have k4:∀ b o,g3.get? b=some o->g4.get? b=some o:=fun b o x=>by rw [e4];exact aE _ x
 have k5:∀ b o,g4.get? b=some o->g5.get? b=some o:=fun b o x=>by rw [e5];exact aE _ x
 have p1:g1.get? s.heap.objs.size=some { cls:=.type "tuple_iterator",data:=.fields #[.ref l1,.int 0 0] }:=by rw [e1];exact bc _ rfl
 have p2:g2.get? (s.heap.objs.size+1)=some { cls:=.type "tuple_iterator",data:=.fields #[.ref l2,.int 0 0] }:=by
  have:=bc g1 (o:={ cls:=.type "tuple_iterator",data:=.fields #[.ref l2,.int 0 0] }) rfl
  rw [z1] at this;rw [e2];exact this
 have p3:g3.get? (s.heap.objs.size+2)=some { cls:=.type "tuple",data:=.seq #[.ref s.heap.objs.size,.ref (s.heap.objs.size+1)] }:=by
  have:=bc g2 (o:={ cls:=.type "tuple",data:=.seq #[.ref s.heap.objs.size,.ref g1.objs.size] }) rfl
  rw [z2] at this;rw [e3,this,z1]
 have p4:g4.get? (s.heap.objs.size+3)=some { cls:=.type "tuple",data:=.seq #[.none,.none] }:=by
  have:=bc g3 (o:={ cls:=.type "tuple",data:=.seq #[.none,.none] }) rfl
  rw [z3] at this;rw [e4,this]
 have p5:g5.get? (s.heap.objs.size+4)=some { cls:=.type "zip",data:=.fields #[.none,.bool false,.bool false,.ref (s.heap.objs.size+2),.ref (s.heap.objs.size+3)] }:=by
  have:=bc g4 (o:={ cls:=.type "zip",data:=.fields #[.none,.bool false,.bool false,.ref g2.objs.size,.ref g3.objs.size] }) rfl
  rw [z4] at this;rw [e5,this,z2,z3]
 show _/\_
 rw [z4]
 exact ⟨⟨_,p5,rfl⟩,h _ p5 (k5 _ _ (k4 _ _ p3)) (k5 _ _ p4) ⟨_,k5 _ _ (k4 _ _ (k3 _ _ (k2 _ _ p1))),rfl,rfl⟩ ⟨_,k5 _ _ (k4 _ _ (k3 _ _ p2)),rfl,rfl⟩ fun b o x=>k5 _ _ (k4 _ _ (k3 _ _ (k2 _ _ (k1 _ _ x))))⟩
noncomputable def Hq (K:aA)(a b:ay):It:=
 ⟨fun i H=>∃ xs ys x y,SqT K H a xs/\SqT K H b ys/\xs[i]?=some x/\ys[i]?=some y,fun i H z H'=>∃ p x y,H p=none/\z=.ref p/\(∀ xs,SqT K H a xs->xs[i]?=some x)/\(∀ ys,SqT K H b ys->ys[i]?=some y)/\H'=upd H p (.tup [x,y]),
  fun i H=>∃ xs,SqT K H a xs/\xs.length<=i⟩
theorem YR (l1 l2 z TI TO i1 i2:ay)(D:ZipApart z TI TO i1 i2 l1 l2) :
  Jf P w K (.Tuple es kt tp) (Hq K l1 l2) [z,TI,TO,i1,i2] z (fun i h=>IsZip h z TI TO .none/\gf h TI (.ref i1) (.ref i2)/\(∃ a b,gf h TO a b)/\h.IsTupleIter i1 l1 i/\h.IsTupleIter i2 l2 i) where
 mem:=by simp
 obj:=fun i h st b hb=>by
  obtain ⟨hz,hTI,⟨a,c,hTO⟩,⟨o1,e1,c1,d1⟩,⟨o2,e2,c2,d2⟩⟩:=st
  simp only [aF,aN,or_false] at hb
  rcases hb with rfl | rfl | rfl | rfl | rfl
  ·exact ⟨_,hz,fun v q=>by have q':dR _=fQ v:=q;cases q'⟩
  ·exact ⟨_,hTI,fun v q=>by have q':fb _ _=fQ v:=q;cases q'⟩
  ·exact ⟨_,hTO,fun v q=>by have q':fb _ _=fQ v:=q;cases q'⟩
  ·exact ⟨o1,e1,fun v q=>by rw [d1] at q;cases q⟩
  ·exact ⟨o2,e2,fun v q=>by rw [d2] at q;cases q⟩
 keep:=fun i h h' st k=>by
  obtain ⟨hz,hTI,⟨a,c,hTO⟩,h1,h2⟩:=st
  exact ⟨k _ (by simp) _ hz,k _ (by simp) _ hTI,⟨a,c,k _ (by simp) _ hTO⟩,h1.at fun o e=>k _ (by simp) o e,h2.at fun o e=>k _ (by simp) o e⟩
 item:=by
  intro X hP hw hK hc i pins s σ H E I hf st hg
  subst hP hw hK
  obtain ⟨hz,hTI,⟨a,c,hTO⟩,h1,h2⟩:=st
  obtain ⟨xs,ys,x,y,hq1,hq2,hx,hy⟩:=hg
  obtain ⟨its1,rv1,p1,hz1⟩:=I.tuple hq1
  obtain ⟨its2,rv2,p2,hz2⟩:=I.tuple hq2
  obtain ⟨u,hu,ru⟩:=rv1.get hx
  obtain ⟨v,hv,rvv⟩:=rv2.get hy
  refine YZ D hz hTI hTO h1 h2 p1 p2 (x:=u) (y:=v) (by simpa using hu) (by simpa using hv) fun g1 b1 b2 b3 b4 b5 b6 hk=>?_
  refine ⟨.ref s.heap.objs.size,rfl,hX b1 fun g2 hz2' hs2=>?_⟩
  replace hs2:bX z g1 g2:=hs2
  have zlt:z<s.heap.objs.size:=aI hz
  have I2:Inv X pins σ (upd H s.heap.objs.size (.tup [x,y])) { s with heap:=g2,toks:=s.toks }:=by
   refine I.yieldTup (us:=[u,v]) hf (fun b o hb e=>?_) (aM _) ((hs2.2 _ (eh zlt)).trans b5) (.cons ru (.cons rvv .nil)) (by show 2<=aQ;decide)
   simp only [aF,aN,or_false,not_or] at hb
   exact (hs2.2 b hb.1).trans (hk b o hb.1 hb.2.2.1 hb.2.2.2.1 hb.2.2.2.2 e)
  refine ⟨.ref s.heap.objs.size,_,I2,rfl,⟨s.heap.objs.size,x,y,I.hok.fresh (aM _),rfl,fun xs' h'=>by rw [I.tuple_inj h' hq1];exact hx,fun ys' h'=>by rw [I.tuple_inj h' hq2];exact hy,rfl⟩,
   ⟨hz2',(hs2.2 _ D.TIz).trans (hk _ _ D.TIz D.TITO D.TIi1 D.TIi2 hTI),⟨_,_,(hs2.2 _ D.TOz).trans b2⟩,b3.extBut hs2.extBut D.i1z,b4.extBut hs2.extBut D.i2z⟩,fun b hb=>?_⟩
  have hlt:b<s.heap.objs.size:=by
   simp only [aF,aN,or_false] at hb
   rcases hb with rfl | rfl | rfl | rfl | rfl
   ·exact zlt
   ·exact aI hTI
   ·exact aI hTO
   ·obtain ⟨o,e,_⟩:=h1;exact aI e
   ·obtain ⟨o,e,_⟩:=h2;exact aI e
  rw [zj (bq hlt)]
  exact (hf b hb).1
 done:=by
  intro X hP hw hK hc i pins s σ H E I hf st hg
  subst hP hw hK
  obtain ⟨hz,hTI,⟨a,c,hTO⟩,h1,h2⟩:=st
  obtain ⟨xs,hq1,hend⟩:=hg
  obtain ⟨its1,rv1,p1,hz1⟩:=I.tuple hq1
  have l1:=rv1.length
  refine Bt (I.ok.hd hc) D hz hTI h1 p1 (by simp;omega) fun h' hk=>⟨rfl,I.turnedL (tk:=s.toks) hf fun b o hb e=>?_⟩
  simp only [aF,aN,or_false,not_or] at hb
  exact hk b o hb.1 hb.2.2.1 hb.2.2.2.1 hb.2.2.2.2 e
 self:=fun _ _ _ _ _ st h=>gr st.1 h
section
variable {X:Cx}{es:List Expr}{kt:Nat}{tp:Pos}
noncomputable def KO (K:aA)(ta:TA):TI:=fun σ H R=>ta σ H fun vs H1=>∃ a b,vs=[.ref a,.ref b]/\(((∃ xs,SqL K H1 a xs)/\(∃ ys,SqL K H1 b ys)/\R (Itz K a b) H1) \/ ((∃ xs,SqT K H1 a xs)/\(∃ ys,SqT K H1 b ys)/\R (Hq K a b) H1))
theorem DS {e1 e2:Expr} {p pos:Pos}(hg:Gl X "zip")(hm:X.mg "zip"=none)(ha:PA X [e1,e2] ta)(hs:aO [e1,e2] X.env=[(false,eval e1 X.env),(false,eval e2 X.env)]:=by rfl)(hs2:aO [e2] X.env=[(false,eval e2 X.env)]:=by rfl) :
  PI X (.Tuple es kt tp) (.Call (.Name "zip" p) [e1,e2] [] pos) (KO X.K ta):=by
 intro pins s σ H R I h
 refine Call_ (xa I hg hm Vx (cY (thn (ha pos pins s σ H _ I h) fun us s1 ⟨vs,H1,I1,r1,q1⟩=>?_) (by rw [hs,hs2]) (by rw [hs2];rfl)))
 obtain ⟨a,b,e,q1⟩:=q1
 subst e
 obtain ⟨u,v,rfl,ru,rv⟩:=Jv r1
 cases ru
 cases rv
 rcases q1 with ⟨⟨xs,hq1⟩,⟨ys,hq2⟩,q⟩ | ⟨⟨xs,hq1⟩,⟨ys,hq2⟩,q⟩
 ·obtain ⟨its1,rv1,p1,hz1⟩:=I1.list hq1
  obtain ⟨its2,rv2,p2,hz2⟩:=I1.list hq2
  have la:a<s1.heap.objs.size:=by obtain ⟨o,e,_⟩:=p1.isList;exact aI e
  have lb:b<s1.heap.objs.size:=by obtain ⟨o,e,_⟩:=p2.isList;exact aI e
  refine call_zip_2 p1.isList p2.isList fun h' b1 b2 b3 b4 b5 hsz hk=>gr b1 ?_
  have I2:Inv X pins σ H1 { s1 with heap:=h' }:=I1.kept (t':=s1.toks) hk
  refine ⟨s1.heap.objs.size+4,[s1.heap.objs.size+4,s1.heap.objs.size+2,s1.heap.objs.size+3,s1.heap.objs.size,s1.heap.objs.size+1],_,_,H1,rfl,I2,W6 a b _ _ _ _ _ (zipApart_new la lb),⟨b1,b2,⟨_,_,b3⟩,b4,b5⟩,fun c hb=>?_,q⟩
  have hb':s1.heap.objs.size<=c:=by
   simp only [aF,aN,or_false] at hb
   rcases hb with rfl | rfl | rfl | rfl | rfl <;> first | exact aM _ | exact m3 _ _
  exact I1.fpOk hb' (I1.hok.fresh hb')
 ·obtain ⟨its1,rv1,p1,hz1⟩:=I1.tuple hq1
  obtain ⟨its2,rv2,p2,hz2⟩:=I1.tuple hq2
  have la:a<s1.heap.objs.size:=by obtain ⟨o,e,_⟩:=p1;exact aI e
  have lb:b<s1.heap.objs.size:=by obtain ⟨o,e,_⟩:=p2;exact aI e
  refine V2 p1 p2 fun h' b1 b2 b3 b4 b5 hk=>gr b1 ?_
  have I2:Inv X pins σ H1 { s1 with heap:=h' }:=I1.kept (t':=s1.toks) hk
  refine ⟨s1.heap.objs.size+4,[s1.heap.objs.size+4,s1.heap.objs.size+2,s1.heap.objs.size+3,s1.heap.objs.size,s1.heap.objs.size+1],_,_,H1,rfl,I2,YR a b _ _ _ _ _ (zipApart_new la lb),⟨b1,b2,⟨_,_,b3⟩,b4,b5⟩,fun c hb=>?_,q⟩
  have hb':s1.heap.objs.size<=c:=by
   simp only [aF,aN,or_false] at hb
   rcases hb with rfl | rfl | rfl | rfl | rfl <;> first | exact aM _ | exact m3 _ _
  exact I1.fpOk hb' (I1.hok.fresh hb')
end
section
variable {X:Cx}{e st:Expr}{te:TE}{lo hi:Option Expr}{tl th ts:TO}{p2 pos:Pos}
end
theorem ZN (h:X.K=K):jM X (.builtin "isinstance") (fun xs H Q=>∃ x t c b,xs=[x,.ty c]/\xg K H x (.type t)/\isT t c=some b/\Q (.bl b) H):=h ▸ qm
noncomputable def Xb:V->List V->Hp->VK->Prop:=fun x vs H Q=>∃ l ns i j,x=.ref l/\vs=[.int i]/\H l=some (il ns)/\j<ns.length/\ns.getD j 0=i/\(∀ m,m<j->ns.getD m 0 ≠ i)/\Q (.int (j:Nat)) H
section
variable {X:Cx}
theorem Bp:MtR X "list.index" Xb:=by
 intro pins s σ H x vs v us Q I rx rv h
 obtain ⟨l,ns,i,j,rfl,rfl,hH,hj,hji,hm,q⟩:=h
 cases rx
 obtain ⟨u,rfl,⟨t,rfl⟩⟩:=rv.one
 obtain ⟨z,its,n,r,hl,e⟩:=I.lstM hH
 have hlen:=r.length
 rw [aw] at hlen
 have hsz:aQ<2 ^ 62:=by rw [cH];decide
 have item:∀ m (hmm:m<its.length),∃ tm,its[m]=aj.int (ns.getD m 0) tm:=fun m hmm=>by
  have e1:(ns.map V.int)[m]?=some (.int (ns.getD m 0)):=by
   rw [aK,aD,au (by omega)];rfl
  obtain ⟨u,hu,⟨tm,ru⟩⟩:=r.get e1
  have:=(aG.mp hu).2
  exact ⟨tm,by rw [this];exact ru⟩
 have fl:(ns.map V.int).all jW=true:=by
  rw [eE]
  intro x hx
  obtain ⟨k,_,rfl⟩:=bE.mp hx
  rfl
 refine gq F.slot_list_index ⟨_,e,rfl⟩ F.entry_list_index (F.args_list_index_2 _ _) (SeqAt.list_indexAt l its.toArray n none _ (.int i t) (eqU (.int i)) j (by rw [aJ];omega) (by omega) ?_ ?_) ⟨e,?_,?_⟩
 ·obtain ⟨tm,em⟩:=item j (by omega)
  rw [fc,em,hji]
  show (i == i)=true
  simp
 ·intro m hmm hmj
  obtain ⟨tm,em⟩:=item m (by rw [aJ] at hmm;exact hmm)
  rw [fc,em]
  show (ns.getD m 0 == i)=false
  simpa using hm m hmj
 ·intro y hy
  exact kH (x:=.int i) ⟨t,rfl⟩ rfl r fl y (by simpa using hy)
 ·exact ⟨.int (j:Nat),H,I.kept (t':=s.toks+1) fun b o e=>e,⟨_,rfl⟩,q⟩
variable {o e:Expr}{es:List Expr}{to:TE}{t:TA}{name:Str}{apos cpos:Pos}{T id:String}{r:V->List V->Hp->VK->Prop}{K:aA}
theorem HW (hK:X.K=K)(pa:PlainAttrs T)(slot:Slot T name id)(hty:typeOf (.builtin id)=pure (.type "method_descriptor"))(hm:MtR X id r)(ho:PE X o to)(ha:PA X (e :: es) t)
  (h1:dS o name X.env (eval o X.env)=eval o X.env:=by rfl)
  (h2:((b9 cpos (aO (e :: es) X.env)).all (fun x=>!x.1) && (fF cpos (dU [] X.env)).all (fun x=>x.1.isSome) && decide ((e :: es).length+([]:List ik).length+(if ([]:List ik).isEmpty then 0 else 1)<30))=true:=by rfl)
  (h3:(apos.endLine == cpos.line)=true:=by rfl) (h4:aO (e :: es) X.env=(false,eval e X.env) :: aO es X.env:=by rfl) (h5:(b9 cpos (aO es X.env)).any (·.1)=false:=by rfl) :
  PE X (.Call (.Attribute o name apos) (e :: es) [] cpos) (tBM K T r to t):=by
 subst hK
 exact ym pa slot hty hm ho ha h1 h2 h3 h4 h5
end
section
variable {X:Cx}{tg:Expr}
end
inductive Dd where
 | take (p:Nat) | move (p g:Nat) | lay (g:Nat)
abbrev RS:=List (Option Int) × Option Int × List Int
noncomputable def inc (mv:List Int)(x:Int):List Int:=mv.set x.toNat (mv.getD x.toNat 0+1)
inductive Do:Dd->RS->RS->Prop
 | take {p:Nat} {row:List (Option Int)} {mv:List Int} {x:Int}:row[p]?=some (some x)->Do (.take p) (row,none,mv) (row.set p none,some x,inc mv x)
 | move {p g:Nat} {row:List (Option Int)} {h:Option Int} {mv:List Int} {x:Int}:row[p]?=some (some x)->row[g]?=some none->Do (.move p g) (row,h,mv) ((row.set p none).set g (some x),h,inc mv x)
 | lay {g:Nat} {row:List (Option Int)} {mv:List Int} {x:Int}:row[g]?=some none->Do (.lay g) (row,some x,mv) (row.set g (some x),none,inc mv x)
inductive Dos:List Dd->RS->RS->Prop
 | nil {s:RS}:Dos [] s s
 | cons {d:Dd} {l:List Dd} {s t u:RS}:Do d s t->Dos l t u->Dos (d :: l) s u
section
variable {X:Cx}{K:aA}
end
section
variable {X:Cx}
end
section
variable {X:Cx}
end
section
variable {X:Cx}{e st:Expr}{te:TE}{ts:TO}{p2 pos:Pos}
end
section
variable {X:Cx}
end
def AtM (K:aA)(C:ay)(m qual:Str)(st:cg):Prop:=∃ f fd,Fun K m qual st f fd/\KZ K C m f
def Dm (P:aX)(w:bu)(K:aA)(mg:Str->Option aj)(base:Heap)(C:ay)(m:Str)(ps:List Str)(k:Nat)(sp:Sp):Prop:=
 ∃ f fd,jK P w K mg base CX0 k f fd ps sp/\jH K fd ps []/\KZ K C m f
variable {C:ay} {m:Str}
theorem Dm.mono {j k:Nat} (D:Dm P w K mg base C m ps j sp)(h:j<=k):Dm P w K mg base C m ps k sp:=
 let ⟨f,fd,F,r⟩:=D
 ⟨f,fd,F.mono h,r⟩
theorem Hj {k:Nat} (a:AtM K C m qual st)(S:zr N ps (zg st))
  (hb:∀ (kV doc pm:aj) (an:Option ay) (cdv ct:aj) (us:List aj),us.length=ps.length->eM (bJ m qual (qx st) (zQ st) (zg st) .none kV doc pm an cdv ct) ⟨us,[]⟩=pure (ps.zip us))
  (len:∀ vs H Q E,sp vs H Q E->vs.length=ps.length)
  (hbody:∀ (f:ay) (cdv:aj) (A:bg) (outer:List Env) (s:az) (H:Hp) (vs:List V) (Q:VK) (E:XK),qu k (A.deeper (e8 qual (zg st) s.heap.objs.size f cdv))->sp vs H Q E ->
   ∃ t,PSs (jS CX0 P w K mg base N qual (zg st) f cdv A outer s H E).nox (zQ st) t/\t { nx:=fun _ H'=>Q .non H',rt:=Q } (start N vs) H):Dm P w K mg base C m ps (k+1) sp:=by
 obtain ⟨f,fd,F,mt⟩:=a
 exact ⟨f,fd,F.ok S len fun cdv A outer s H vs Q E=>hbody f cdv A outer s H vs Q E,F.binds hb,mt⟩
section
variable {X:Cx}{k:Nat}{C:ay}{m x:Str}{ps:List Str}{sp:Sp}{p pos apos:Pos}{o e:Expr}{es:List Expr}{t:TA}{to:TE}
variable {pl:Sem Bool}
theorem Nl (c:Cls X.K C)(D:Dm X.prog X.w X.K X.mg X.base C m ps k sp)(hr:qu k X.A)(ho:PE X o to)(ha:PA X (e :: es) t)
  (hst:aO (e :: es) X.env=(false,eval e X.env) :: aO es X.env:=by rfl) (hpl:(b9 pos (aO es X.env)).any (·.1)=false:=by rfl)
  (ht:eval (.Call (.Attribute o m apos) (e :: es) [] pos) X.env=(do
   let ov <- eval o X.env
   iX apos.atName
   let (f,first) <- holding [ov] (getMethod ov m pl)
   gD pos f first (b9 pos (aO (e :: es) X.env)) (fF pos (dU [] X.env))):=by rfl) :
  PE X (.Call (.Attribute o m apos) (e :: es) [] pos) (Zu C m sp [] E0 to t):=by
 obtain ⟨f,fd,F,b,mt⟩:=D
 exact Fk ho c mt F hr b .nil XA ha hst hpl ht
theorem ye (c:Cls X.K C)(D:Dm X.prog X.w X.K X.mg X.base C m ps k sp)(hr:qu k X.A)(ho:PE X o to)
  (ht:eval (.Call (.Attribute o m apos) [] [] pos) X.env=(do
   let ov <- eval o X.env
   iX apos.atName
   let (f,first) <- holding [ov] (getMethod ov m pl)
   gD pos f first (b9 pos (aO [] X.env)) (fF pos (dU [] X.env))):=by rfl) :
  PE X (.Call (.Attribute o m apos) [] [] pos) (Zu C m sp [] E0 to Vu):=by
 obtain ⟨f,fd,F,b,mt⟩:=D
 exact W1 ho c mt F hr b .nil XA ht
def Mkr (P:aX)(w:bu)(K:aA)(mg:Str->Option aj)(base:Heap)(x:Str)(C:ay)(ps:List Str)(k:Nat)(sp:Sp):Prop:=
 ∃ f fd,jK P w K mg base CX0 k f fd ps sp/\jH K fd ps []/\Mk K C f/\mg x=some (.ref C)
theorem Yp (D:Mkr X.prog X.w X.K X.mg X.base x C ps k sp)(hr:qu (k+1) X.A)(hg:Gl X x)(ha:PA X (e :: es) t)(hdb:(x == ("__debug__":Str))=false:=by decide)
  (he:aO (e :: es) X.env=(false,eval e X.env) :: aO es X.env:=by rfl) (hpl:(b9 pos (aO es X.env)).any (·.1)=false:=by rfl):PE X (.Call (.Name x p) (e :: es) [] pos) (XZ C sp [] E0 t):=by
 obtain ⟨f,fd,F,b,M,hm⟩:=D
 exact Fl M F hr hg hm b .nil XA ha hdb he hpl
end
structure KD (K:aA)(w:bu)(a:ay)(kvs:List (Key × V)):Prop where
 ex:∃ es ep,K.lookup a=some ⟨.type "dict",none,.dict es ep,#[]⟩/\∀ P:aX,PySem.KeysOf (qh P w) es/\∃ vs,KV kvs vs/\Pairs (qh P w) es.toList vs/\(vs.map (·.1)).Nodup
 ns:(a == dJ)=false
variable {pins:List (ay × Obj)}
theorem KD.at {kvs:List (Key × V)}(d:KD X.K X.w a kvs)(I:Inv X pins σ H s):∃ vs,KV kvs vs/\s.heap.DictOf (qh X.prog X.w) a vs:=by
 obtain ⟨es,ep,hl,h⟩:=d.ex
 obtain ⟨h1,vs,r,h2,h3⟩:=h X.prog
 exact ⟨vs,r,_,es,ep,I.kIn a _ hl,⟨rfl,rfl,rfl⟩,rfl,h1,h2,h3⟩
noncomputable def Dq (kvs:List (Key × V))(ty:TE):TE:=fun σ H Q=>ty σ H fun y H2=>∃ k,y=kV k/\Q ((xw kvs k).getD .non) H2
section
variable {X:Cx}{e:Expr}{ty:TE}{p apos cpos:Pos}{x:Str}{a:ay}{kvs:List (Key × V)}
theorem Gi (d:KD X.K X.w a kvs)(hg:Gl X x)(hm:X.mg x=some (.ref a))(he:PE X e ty)(m:M1 X (.Name x p) "get" apos e cpos)(hdb:(x == ("__debug__":Str))=false:=by decide):PE X (.Call (.Attribute (.Name x p) "get" apos) [e] [] cpos) (Dq kvs ty):=by
 intro pins s σ H Q I h
 refine wpAny_Call_method m.base m.few m.line iL d8 lq (jY I hg hm ?_ hdb)
 obtain ⟨vs0,_,dd0⟩:=d.at I
 refine ⟨dd0.typeIs,fun b q=>?_,?_⟩
 ·cases q
  obtain ⟨ob,_,_,h1,h2,_⟩:=dd0
  exact ⟨ob,h1,h2.2.1⟩
 rw [m.trees]
 refine f9 rfl (ei (dY (thn (he pins s σ H _ I h) fun iv s2 ⟨y,H2,I2,ry,k,ey,q2⟩=>eX ?_)))
 subst ey
 obtain ⟨vs,rel,dd⟩:=d.at I2
 refine mI d8 dd.typeIs gc (PySem.F.args_dict_get_2 _ _) (meets_dict_get (qh X.prog X.w) a (Yj ry) d.ns) ⟨_,dd.mapOf,?_⟩
 refine ⟨(xw kvs k).getD .non,H2,I2.tok _,?_,q2⟩
 exact (rel.val k).getD rfl
end
section
variable {X:Cx}
theorem xI:L5 X (Gf X.K):=by
  intro pins s σ H x y v u Q I rx ry h
  obtain ⟨p,xs,i,z,rfl,rfl,hq,he,q⟩:=h
  cases rx
  obtain ⟨t,rfl⟩:=ry
  obtain ⟨its,r,pl,hz⟩:=I.list hq
  obtain ⟨j,h1,h2,h3,h4,h5⟩:=QA he
  obtain ⟨w,ew,rw'⟩:=r.get h2
  have hl:=r.length
  have hn:=wr
  have fin:EP X pins σ Q w s:=⟨z,H,I,rw',q⟩
  by_cases h0:0<=i
  · have hj : i.toNat = j := by
      rw [lw h0 h5] at h1
      exact bR h1
    exact wpAny_getItem_list pl.isList h0 (by omega) (by rw [hj];simpa using ew) fin
  · have hj : (i + (its.toArray.size : Int)).toNat = j := by
      rw [i4 (by omega) h4] at h1
      rw [aJ,<- hl]
      exact bR h1
    exact i5 pl.isList (by omega) (by rw [aJ] <;> omega) (by omega) (by rw [hj];simpa using ew) fin
end
theorem atm_mk {oc kV dc pm cd ct:aj} {sl:Array (Option aj)}(a1:aT K (.ref C) m=some (some (.ref f)))(i1:cQ K (.ref f)=true)
  (l1:K.lookup f=some ⟨oc,od,.func (bJ m qual (qx st) (zQ st) (zg st) .none kV dc pm an cd ct),sl⟩) (c1:e9 K cd qual=true) (k1:de K (.ref f)=true):AtM K C m qual st:=⟨f,_,fun_mk l1 c1 k1,⟨a1,i1,k1⟩⟩
section
variable {X:Cx}
noncomputable def Kn:V->List V->Hp->VK->Prop:=fun x vs H Q=>∃ l xs v,x=.ref l/\vs=[v]/\H l=some (.lst xs)/\xs.all jW=true/\jW v=true/\Q (.int ((xs.countP fun y=>eqV y v:Nat))) H
theorem Zq {x:V}:∀ {xs:List V} {us:List aj},zJ xs us->xs.all jW=true->us.countP (eqU x)=xs.countP fun y=>eqV y x
 | _,_,.nil,_=>rfl
 | y :: xs,u :: us,.cons r t,f=>by
  rw [dW,dj] at f
  rw [m7,m7,Zq t f.2,Qi r f.1]
theorem Ww:MtR X "list.count" Kn:=by
 intro pins s σ H x vs v us Q I rx rv h
 obtain ⟨l,xs,i,rfl,rfl,hH,hf,hi,q⟩:=h
 cases rx
 obtain ⟨u,rfl,ru⟩:=rv.one
 obtain ⟨z,its,n,r,hl,e⟩:=I.lstM hH
 refine gq F.slot_list_count ⟨_,e,rfl⟩ F.entry_list_count (F.args_list_count_2 _ _) (SeqAt.list_countAt l its.toArray n none _ u (eqU i)) ⟨e,?_,?_⟩
 ·intro y hy
  exact kH ru hi r hf y (by simpa using hy)
 ·refine ⟨.int ((xs.countP fun y=>eqV y i:Nat)),H,I.kept (t':=s.toks+1) fun b o e=>e,⟨s.toks,?_⟩,q⟩
  show aj.int ((its.countP (eqU i):Nat):Int) s.toks=_
  rw [Zq r hf]
end
structure ScG (X:Cx)(ts:List Nat)(scope:Scope):Prop where
 kind:scope.kind=.function
 cell:∀ y ∈ scope.names,y.2=.cell->scope.names.lookup y.1=some .cell
 loc:∀ y ∈ scope.names,y.2=.local->scope.names.lookup y.1=some .local
 free:∀ y ∈ scope.names,y.2=.free->X.env.kindOf y.1=some .cell \/ X.env.kindOf y.1=some .free
 ts:∀ (i:Nat) x,X.N[i]?=some x->scope.names.lookup x=some .local \/ scope.names.lookup x=some .cell->i ∈ ts
section
variable {X:Cx}{ts:List Nat}{scope:Scope}{pins:List (ay × Obj)}{σ:St}{H:Hp}{s:az}{fp:List ay}
end
section
variable {X:Cx}{ts:List Nat}{scope:Scope}{tg iter elt:Expr}{ifs:List Expr}{wi:TI}{g:TG}{tt:TT}{te:TE}{pos:Pos}
end
section
variable {X:Cx}
end
inductive Dat where
 | non | bl (b:Bool) | int (i:Int) | str (x:Str) | ty (n:String) | lst (l:List Dat) | tup (l:List Dat) | rng (lo hi c:Int) | scr (K:aA) (l:List Int)
inductive AV where
 | d (x:Dat) | ref (a:ay)
  | tp (l:List (Dat ⊕ ay))
noncomputable def tiA:Dat ⊕ ay->AV
 | .inl d=>.d d
 | .inr a=>.ref a
noncomputable def AV.Has (r:ay):AV->Prop
 | .d _=>False
 | .ref a=>a=r
 | .tp l=>bG r ∈ l
abbrev NK:=List (Option Int) × Option Int
noncomputable def W4:Int:=0xFCA86420
noncomputable def Gk:Option Int->Int
 | none=>W4
 | some i=>hashInt i
noncomputable def Mr (k:NK):Int:=reduceHash (hZ [reduceHash (hZ (k.1.map Gk)),Gk k.2])
noncomputable def cN:Option Int->V
 | none=>.non
 | some i=>.int i
noncomputable abbrev PN:List (NK × ay × V)->List (NK × ay × aj)->Prop:=gF fun p q=>p.1=q.1/\p.2.1=q.2.1/\zG p.2.2 q.2.2
noncomputable def DN (a:ay)(xs:List (NK × ay × V)):HO:=.ext fun h=>xs.length<=aQ/\(a == dJ)=false/\∃ ys:List (NK × ay × aj),PN xs ys /\
 ∃ o es ep,h.get? a=some o/\o.ExactDict/\o.data=.dict es ep/\es.toList=ys.map (fun y=>(⟨Mr y.1,.ref y.2.1,y.2.2⟩:DictEntry))/\(ys.map (·.1)).Nodup
def XQ (H:Hp)(O:ay->Prop)(b:ay)(k:NK):Prop:=¬ O b/\∃ c,¬ O c/\H b=some (.tup [.ref c,cN k.2])/\H c=some (.tup (k.1.map cN))
inductive MO where
 | lst (l:List AV) | dK (kvs:List (Key × AV)) | ins (C:ay) (fs:List (Str × AV)) | exc (C:ay) (fs:List (Str × V)) | tb (R:Array aj->ay->Obj->Prop) | dT (kvs:List (List Key × AV)) | dN (kvs:List (NK × AV))
noncomputable def Za (a C:ay)(d:Option ay):HO:=.ext fun h=>∃ o,h.get? a=some o/\o.cls=.ref C/\o.dict=d/\∃ vs,o.data=.fields vs
abbrev MH:=ay->Option MO
abbrev ASt:=List (Option AV)
noncomputable def mup (M:MH)(a:ay)(o:MO):MH:=fun b=>if b=a then some o else M b
noncomputable def Xk (M:MH)(a:ay):MH:=fun b=>if b=a then none else M b
variable {M:MH}
theorem zf {o:MO}:mup M a o a=some o:=if_pos rfl
theorem zi {o:MO}(h:b ≠ a):mup M a o b=M b:=if_neg h
theorem Zh:Xk M a a=none:=if_pos rfl
theorem kY (h:b ≠ a):Xk M a b=M b:=if_neg h
theorem xQ {o u:MO}:mup (mup M a o) a u=mup M a u:=by
 funext b;unfold mup;split <;> rfl
abbrev Own:=ay->Prop
inductive Rep (H:Hp) (O:Own):V->Dat->Prop
 | non:Rep H O .non .non
 | bl {b:Bool}:Rep H O (.bl b) (.bl b)
 | int {i:Int}:Rep H O (.int i) (.int i)
 | str {x:Str}:Rep H O (.str x) (.str x)
 | ty {n:String}:Rep H O (.ty n) (.ty n)
 | lst {a:ay} {xs:List V} {l:List Dat}:¬ O a->H a=some (.lst xs)->xs.length=l.length->(∀ (i:Nat) x d,xs[i]?=some x->l[i]?=some d->Rep H O x d)->Rep H O (.ref a) (.lst l)
 | tup {a:ay} {xs:List V} {l:List Dat}:¬ O a->H a=some (.tup xs)->xs.length=l.length->(∀ (i:Nat) x d,xs[i]?=some x->l[i]?=some d->Rep H O x d)->Rep H O (.ref a) (.tup l)
 | rng {a:ay} {lo hi c:Int}:¬ O a->H a=some (Q9 a lo hi c)->Rep H O (.ref a) (.rng lo hi c)
 | scr {a:ay} {K:aA} {l:List Int}:¬ O a->Rd H a (.lst (l.map V.int))->Rep H O (.ref a) (.scr K l)
 | scrK {a:ay} {K:aA} {l:List Int}:SqL K (fun _=>none) a (l.map V.int)->Rep H O (.ref a) (.scr K l)
def Vv (H:Hp)(O:Own)(xs:List V)(l:List Dat):Prop:=xs.length=l.length/\∀ (i:Nat) x d,xs[i]?=some x->l[i]?=some d->Rep H O x d
noncomputable def MI (H:Hp)(O:Own)(M:MH)(v:V):Dat ⊕ ay->Prop
 | .inl d=>Rep H O v d
 | .inr a=>v=.ref a/\M a ≠ none
def Bj (H:Hp)(O:Own)(M:MH)(xs:List V)(l:List (Dat ⊕ ay)):Prop:=xs.length=l.length/\∀ (i:Nat) x d,xs[i]?=some x->l[i]?=some d->MI H O M x d
noncomputable def zt (H:Hp)(O:Own)(M:MH)(v:V):AV->Prop
 | .d x=>Rep H O v x
 | .ref a=>v=.ref a/\M a ≠ none
 | .tp l=>∃ a xs,v=.ref a/\¬ O a/\H a=some (.tup xs)/\Bj H O M xs l
theorem zt.has {H:Hp}{O:Own}{M:MH}{v:V}{x:AV}{r:ay}(h:zt H O M v x)(k:x.Has r):M r ≠ none:=by
 cases x with
 | d x=>exact k.elim
 | ref a=>cases k;exact h.2
 | tp l=>
  obtain ⟨a,xs,_,_,_,h⟩:=h
  obtain ⟨i,hi⟩:=bC k
  obtain ⟨y,hy⟩:∃ y,xs[i]?=some y:=⟨_,au (by rw [h.1];exact (aG.mp hi).1)⟩
  exact (h.2 i y _ hy hi).2
def zk (H:Hp)(O:Own)(M:MH)(xs:List V)(l:List AV):Prop:=xs.length=l.length/\∀ (i:Nat) x d,xs[i]?=some x->l[i]?=some d->zt H O M x d
def kh {κ:Type}(H:Hp)(O:Own)(M:MH)(xs:List (κ × V))(l:List (κ × AV)):Prop:=xs.map (·.1)=l.map (·.1)/\zk H O M (xs.map (·.2)) (l.map (·.2))
noncomputable def jm (H:Hp)(O:Own)(M:MH)(a:ay):MO->Prop
 | .lst l=>∃ xs,H a=some (.lst xs)/\zk H O M xs l
 | .dK kvs=>∃ xs,H a=some (.dK xs)/\kh H O M xs kvs
 | .dT kvs=>∃ xs,H a=some (.dT xs)/\kh H O M xs kvs
 | .dN kvs=>∃ xs,H a=some (DN a xs)/\kh H O M (xs.map fun x=>(x.1,x.2.2)) kvs/\∀ x ∈ xs,XQ H O x.2.1 x.1
 | .ins C fs=>∃ dx xs,H a=some (.ins C dx xs)/\kh H O M xs fs/\O dx/\M dx=none/\H dx=some (.own a)
 | .exc C fs=>∃ d,H a=some (Za a C d)/\(d=none/\fs=[] \/ ∃ dx,d=some dx/\H dx=some (.xd fs)/\O dx/\M dx=none)
 | .tb R=>∃ ps,H a=some (.tbl ps)/\(ps=#[] \/ ∃ c oc u,R ps c oc/\¬ O c/\H c=some (.frz oc u))
structure Wf (H:Hp)(O:Own)(M:MH):Prop where
 mo:∀ a o,M a=some o->jm H O M a o
 own:∀ a,M a ≠ none->O a
 al:∀ a,O a->∃ o,H a=some o/\∀ xs,o ≠ .tup xs
variable {O:Own}
theorem Wf.ne (w:Wf H O M)(a:ay)(h:O a):H a ≠ none:=by obtain ⟨o,e,_⟩:=w.al a h;rw [e];exact fun z=>nomatch z
structure Ext (H:Hp)(O:Own)(M:MH)(H':Hp)(O':Own)(M':MH):Prop where
 fix:∀ a o,¬ O a->H a=some o->H' a=some o/\¬ O' a
 prv:∀ a,O a->M a=none->H' a=H a/\O' a/\M' a=none
 mst:∀ a,M a ≠ none->M' a ≠ none
theorem Ext.refl:Ext H O M H O M:=⟨fun _ _ h e=>⟨e,h⟩,fun _ h e=>⟨rfl,h,e⟩,fun _ h=>h⟩
variable {O1 O2:Own}
theorem Ext.trans {M M1 M2:MH}(a:Ext H O M H1 O1 M1)(b:Ext H1 O1 M1 H2 O2 M2):Ext H O M H2 O2 M2:=
 ⟨fun x o h e=>let ⟨e1,h1⟩:=a.fix x o h e;b.fix x o h1 e1,fun x h e=>by
  obtain ⟨e1,h1,n1⟩:=a.prv x h e
  obtain ⟨e2,h2,n2⟩:=b.prv x h1 n1
  exact ⟨e2.trans e1,h2,n2⟩,fun x h=>b.mst x (a.mst x h)⟩
theorem Rep.imp {H H':Hp}{O O':Own}(k:∀ a o,¬ O a->H a=some o->H' a=some o/\¬ O' a){v:V}{d:Dat}(r:Rep H O v d):Rep H' O' v d:=by
 induction r with
 | non=>exact .non
 | bl=>exact .bl
 | int=>exact .int
 | str=>exact .str
 | ty=>exact .ty
 | lst h e l _ ih=>exact .lst (k _ _ h e).2 (k _ _ h e).1 l ih
 | tup h e l _ ih=>exact .tup (k _ _ h e).2 (k _ _ h e).1 l ih
 | rng h e=>exact .rng (k _ _ h e).2 (k _ _ h e).1
 | scr h e=>
  rcases e with e | ⟨o,e⟩
  ·exact .scr (k _ _ h e).2 (.inl (k _ _ h e).1)
  ·exact .scr (k _ _ h e).2 (.inr ⟨o,(k _ _ h e).1⟩)
 | scrK h=>exact .scrK h
theorem Fd {H:Hp}{O:Own}{K:aA}{v:V}{l:List Int}(r:Rep H O v (.scr K l)):∃ a,v=.ref a/\SqL K H a (l.map V.int):=by
 cases r with
 | @scr a _ _ _ h=>exact ⟨a,rfl,.inl h⟩
 | @scrK a _ _ h=>
  rcases h with (h | ⟨o,h⟩) | h
  ·cases h
  ·cases h
  ·exact ⟨a,rfl,.inr h⟩
theorem Eg {l:List Int}(ho:∀ a,¬ O a)(h:SqL K H a (l.map V.int)):Rep H O (.ref a) (.scr K l):=by
 rcases h with h | h
 ·exact .scr (ho a) h
 ·exact .scrK (.inr h)
variable {H':Hp}
theorem XQ.imp {O O':ay->Prop}(k:∀ a o,¬ O a->H a=some o->H' a=some o/\¬ O' a) {x:NK}(r:XQ H O b x):XQ H' O' b x:=by
 obtain ⟨h1,c,h2,e1,e2⟩:=r
 exact ⟨(k _ _ h1 e1).2,c,(k _ _ h2 e2).2,(k _ _ h1 e1).1,(k _ _ h2 e2).1⟩
variable {O':Own} {M':MH} {v:V} {d:Dat}
theorem Rep.ext (k:Ext H O M H' O' M') (r:Rep H O v d):Rep H' O' v d:=r.imp k.fix
theorem zt.impT {H H':Hp}{O O':Own}{M M':MH}(k:∀ a o,¬ O a->H a=some o->H' a=some o/\¬ O' a){l:List (Dat ⊕ ay)}(hm:∀ a,M a ≠ none->M' a ≠ none){v:V}(r:zt H O M v (.tp l)):zt H' O' M' v (.tp l):=by
 obtain ⟨a,xs,h1,h2,h3,h4,h5⟩:=r
 refine ⟨a,xs,h1,(k _ _ h2 h3).2,(k _ _ h2 h3).1,h4,fun i x d e1 e2=>?_⟩
 have:=h5 i x d e1 e2
 cases d with
 | inl d=>exact Rep.imp k this
 | inr q=>exact ⟨this.1,hm q this.2⟩
theorem zt.ext {H H':Hp}{O O':Own}{M M':MH}(k:Ext H O M H' O' M'){v:V}{x:AV}(r:zt H O M v x):zt H' O' M' v x:=by
 cases x with
 | d x=>exact Rep.ext k r
 | ref a=>exact ⟨r.1,k.mst a r.2⟩
 | tp l=>exact r.impT k.fix k.mst
variable {l:List AV}
theorem zk.ext (k:Ext H O M H' O' M') (r:zk H O M xs l):zk H' O' M' xs l:=⟨r.1,fun i x d e1 e2=>(r.2 i x d e1 e2).ext k⟩
theorem kh.ext {κ:Type} (k:Ext H O M H' O' M'){xs:List (κ × V)}{l:List (κ × AV)}(r:kh H O M xs l):kh H' O' M' xs l:=⟨r.1,r.2.ext k⟩
theorem zk.nil:zk H O M [] []:=⟨rfl,fun i x d e=>by simp at e⟩
theorem zk.cons {x:V}{d:AV} (h:zt H O M x d)(r:zk H O M xs l):zk H O M (x :: xs) (d :: l):=
 ⟨by simp [r.1],fun i y e h1 h2=>by
  cases i with
  | zero=>simp at h1 h2;subst h1 h2;exact h
  | succ i=>simp at h1 h2;exact r.2 i y e h1 h2⟩
theorem zk.head {x:V}{d:AV} (r:zk H O M (x :: xs) (d :: l)):zt H O M x d/\zk H O M xs l:=
 ⟨r.2 0 x d rfl rfl,by have:=r.1;simpa using this,fun i y e h1 h2=>r.2 (i+1) y e (by simpa using h1) (by simpa using h2)⟩
theorem zk.nil_inv (r:zk H O M xs []):xs=[]:=iQ.mp r.1
theorem zk.cons_inv {H:Hp}{O:Own}{M:MH}{xs:List V}{d:AV}{l:List AV}(r:zk H O M xs (d :: l)):∃ x r',xs=x :: r'/\zt H O M x d/\zk H O M r' l:=by
 cases xs with
 | nil=>have:=r.1;simp at this
 | cons x r'=>exact ⟨x,r',rfl,r.head⟩
variable {ys:List V}
theorem zk.append {l m:List AV}(a:zk H O M xs l)(b:zk H O M ys m):zk H O M (xs ++ ys) (l ++ m):=
 ⟨by rw [bA,bA,a.1,b.1],fun i x d h1 h2=>by
  by_cases c:i<xs.length
  ·rw [cz c] at h1
   rw [cz (by rw [<- a.1];exact c)] at h2
   exact a.2 i x d h1 h2
  ·rw [dg (by omega)] at h1
   rw [dg (by rw [<- a.1];omega),<- a.1] at h2
   exact b.2 _ x d h1 h2⟩
theorem zk.snoc {x:V}{d:AV}(a:zk H O M xs l)(b:zt H O M x d):zk H O M (xs ++ [x]) (l ++ [d]):=a.append (.cons b .nil)
theorem zk.set {x:V}{d:AV}(a:zk H O M xs l)(b:zt H O M x d)(j:Nat):zk H O M (xs.set j x) (l.set j d):=
 ⟨by rw [bN,bN,a.1],fun i y e h1 h2=>by
  rw [dG] at h1 h2
  by_cases c:j=i
  ·rw [if_pos c] at h1 h2
   split at h1
   ·split at h2
    ·cases h1;cases h2;exact b
    ·cases h2
   ·cases h1
  ·rw [if_neg c] at h1 h2
   exact a.2 i y e h1 h2⟩
theorem zk.get (a:zk H O M xs l) {d:AV}(h:l[i]?=some d):∃ x,xs[i]?=some x/\zt H O M x d:=by
 have hi:=(aG.mp h).1
 have hx:i<xs.length:=by rw [a.1];exact hi
 exact ⟨xs[i],by simp [hx],a.2 i _ _ (by simp [hx]) h⟩
theorem zk.drop (a:zk H O M xs l)(k:Nat):zk H O M (xs.drop k) (l.drop k):=
 ⟨by rw [cw,cw,a.1],fun i x d h1 h2=>by rw [List.getElem?_drop] at h1 h2;exact a.2 _ x d h1 h2⟩
theorem zk.take (a:zk H O M xs l)(k:Nat):zk H O M (xs.take k) (l.take k):=
 ⟨by rw [bI,bI,a.1],fun i x d h1 h2=>by
  rw [List.getElem?_take] at h1 h2
  by_cases c:i<k
  ·rw [if_pos c] at h1 h2
   exact a.2 _ x d h1 h2
  ·rw [if_neg c] at h1
   cases h1⟩
theorem Vv.av {l:List Dat}(r:Vv H O xs l):zk H O M xs (l.map .d):=
 ⟨by rw [aw];exact r.1,fun i x d h1 h2=>by
  rw [aK] at h2
  cases e:l[i]? with
  | none=>rw [e] at h2;cases h2
  | some y=>rw [e] at h2;cases h2;exact r.2 i x y h1 e⟩
theorem zk.pure {l:List Dat}(r:zk H O M xs (l.map .d)):Vv H O xs l:=
 ⟨by have:=r.1;rwa [aw] at this,fun i x d h1 h2=>r.2 i x (.d d) h1 (by rw [aK,h2];rfl)⟩
theorem Wf.fresh (w:Wf H O M) (h:H p=none):¬ O p/\M p=none:=by
 have:¬ O p:=fun z=>w.ne p z h
 exact ⟨this,by
  cases e:M p with
  | none=>rfl
  | some o=>exact absurd (w.own p (by rw [e];exact fun z=>nomatch z)) this⟩
theorem jm.ext {H H':Hp}{O O':Own}{M M':MH}(k:Ext H O M H' O' M'){a:ay}{o:MO}(e:H' a=H a)(r:jm H O M a o):jm H' O' M' a o:=by
 cases o with
 | lst l=>obtain ⟨xs,h,r⟩:=r;exact ⟨xs,e.trans h,r.ext k⟩
 | dK l=>obtain ⟨xs,h,r⟩:=r;exact ⟨xs,e.trans h,r.ext k⟩
 | dT l=>obtain ⟨xs,h,r⟩:=r;exact ⟨xs,e.trans h,r.ext k⟩
 | dN l=>obtain ⟨xs,h,r,p⟩:=r;exact ⟨xs,e.trans h,r.ext k,fun x hx=>(p x hx).imp k.fix⟩
 | ins C fs=>obtain ⟨dx,xs,h,r,q1,q2,q3⟩:=r;obtain ⟨x1,x2,x3⟩:=k.prv dx q1 q2;exact ⟨dx,xs,e.trans h,r.ext k,x2,x3,x1.trans q3⟩
 | exc C fs=>
  obtain ⟨d,h,r⟩:=r
  refine ⟨d,e.trans h,?_⟩
  rcases r with r | ⟨dx,e1,h1,h2,h3⟩
  ·exact .inl r
  ·obtain ⟨x1,x2,x3⟩:=k.prv dx h2 h3;exact .inr ⟨dx,e1,x1.trans h1,x2,x3⟩
 | tb R=>obtain ⟨ps,h,r⟩:=r;exact ⟨ps,e.trans h,r.imp id fun ⟨c,oc,u,h1,h2,h3⟩=>⟨c,oc,u,h1,(k.fix c _ h2 h3).2,(k.fix c _ h2 h3).1⟩⟩
theorem jj (w:Wf H O M) (h:H p=none)(o:HO):Ext H O M (upd H p o) O M:=
 ⟨fun a u ha e=>⟨by rw [zj (zp e h)];exact e,ha⟩,fun a ha e=>⟨zj (fun z=>w.ne a ha (by rw [z];exact h)),ha,e⟩,fun _ h=>h⟩
theorem yc (w:Wf H O M) (h:H p=none)(o:HO):Wf (upd H p o) O M:=
 ⟨fun a mo e=>jm.ext (jj w h o) (zj (fun z=>by rw [z,(w.fresh h).2] at e;cases e)) (w.mo a mo e),w.own,fun a ha=>by
  have:a ≠ p:=fun z=>w.ne a ha (by rw [z];exact h)
  rw [zj this];exact w.al a ha⟩
noncomputable def yf (O:Own)(p:ay):Own:=fun a=>a=p \/ O a
noncomputable def Z7 (O:Own)(p:ay):Own:=fun a=>a ≠ p/\O a
theorem vX (w:Wf H O M) (h:H p=none)(o:HO)(mo:MO):Ext H O M (upd H p o) (yf O p) (mup M p mo):=
 ⟨fun a u ha e=>⟨by rw [zj (zp e h)];exact e,fun z=>z.elim (zp e h) ha⟩,fun a ha e=>by
  have hne:a ≠ p:=fun z=>w.ne a ha (by rw [z];exact h)
  exact ⟨zj hne,.inr ha,by rw [zi hne];exact e⟩,fun a ha=>by
  by_cases e:a=p
  ·rw [e,zf];exact fun z=>nomatch z
  ·rw [zi e];exact ha⟩
variable {mo:MO}
theorem Kw (w:Wf H O M) (h:H p=none) (ho:∀ xs,o ≠ .tup xs)(r:jm (upd H p o) (yf O p) (mup M p mo) p mo):Wf (upd H p o) (yf O p) (mup M p mo):=by
 refine ⟨fun a u e=>?_,fun a ha=>?_,fun a ha=>?_⟩
 ·by_cases c:a=p
  ·subst c;rw [zf] at e;cases e;exact r
  ·rw [zi c] at e
   exact jm.ext (vX w h o mo) (zj c) (w.mo a u e)
 ·by_cases c:a=p
  ·exact .inl c
  ·rw [zi c] at ha;exact .inr (w.own a ha)
 ·by_cases c:a=p
  ·rw [c,zl];exact ⟨o,rfl,ho⟩
  ·rw [zj c];exact w.al a (ha.resolve_left c)
theorem ki (w:Wf H O M) (h:M p ≠ none)(o:HO)(mo:MO):Ext H O M (upd H p o) O (mup M p mo):=
 ⟨fun a u ha e=>⟨by rw [zj (fun z=>ha (by rw [z];exact w.own p h))];exact e,ha⟩,fun a ha e=>by
  have hne:a ≠ p:=fun z=>h (by rw [<- z];exact e)
  exact ⟨zj hne,ha,by rw [zi hne];exact e⟩,fun a ha=>by
  by_cases e:a=p
  ·rw [e,zf];exact fun z=>nomatch z
  ·rw [zi e];exact ha⟩
theorem Z6 (w:Wf H O M) (h:M p ≠ none) (ho:∀ xs,o ≠ .tup xs)(r:jm (upd H p o) O (mup M p mo) p mo):Wf (upd H p o) O (mup M p mo):=by
 refine ⟨fun a u e=>?_,fun a ha=>?_,fun a ha=>?_⟩
 ·by_cases c:a=p
  ·subst c;rw [zf] at e;cases e;exact r
  ·rw [zi c] at e
   exact jm.ext (ki w h o mo) (zj c) (w.mo a u e)
 ·by_cases c:a=p
  ·subst c;exact w.own a h
  ·rw [zi c] at ha;exact w.own a ha
 ·by_cases c:a=p
  ·rw [c,zl];exact ⟨o,rfl,ho⟩
  ·rw [zj c];exact w.al a ha
theorem qP (w:Wf H O M) (h:H p=none)(o:HO):Ext H O M (upd H p o) (yf O p) M:=
 ⟨fun a u ha e=>⟨by rw [zj (zp e h)];exact e,fun z=>z.elim (zp e h) ha⟩,fun a ha e=>by
  have hne:a ≠ p:=fun z=>w.ne a ha (by rw [z];exact h)
  exact ⟨zj hne,.inr ha,e⟩,fun _ h=>h⟩
theorem kM (w:Wf H O M) (h:H p=none)(o:HO)(ho:∀ xs,o ≠ .tup xs):Wf (upd H p o) (yf O p) M:=
 ⟨fun a mo e=>jm.ext (qP w h o) (zj (fun z=>by rw [z,(w.fresh h).2] at e;cases e)) (w.mo a mo e),fun a ha=>.inr (w.own a ha),fun a ha=>by
  by_cases c:a=p
  ·rw [c,zl];exact ⟨o,rfl,ho⟩
  ·rw [zj c];exact w.al a (ha.resolve_left c)⟩
theorem vS (hO:O p)(o:HO):∀ a u,¬ O a->H a=some u->upd H p o a=some u/\¬ O a:=fun a u ha e=>⟨by rw [zj (fun z=>ha (by rw [z];exact hO))];exact e,ha⟩
theorem zt.imp {H H':Hp}{O O':Own}{M M':MH}(k:∀ a o,¬ O a->H a=some o->H' a=some o/\¬ O' a)(hm:∀ a,M a ≠ none->M' a ≠ none){v:V}{x:AV}(r:zt H O M v x):zt H' O' M' v x:=by
 cases x with
 | d x=>exact Rep.imp k r
 | ref a=>exact ⟨r.1,hm a r.2⟩
 | tp l=>exact r.impT k hm
theorem zk.imp (k:∀ a o,¬ O a->H a=some o->H' a=some o/\¬ O' a)(hm:∀ a,M a ≠ none->M' a ≠ none) (r:zk H O M xs l):zk H' O' M' xs l:=⟨r.1,fun i x d e1 e2=>(r.2 i x d e1 e2).imp k hm⟩
theorem jm.imp {H H':Hp}{O O':Own}{M:MH}(k:∀ a o,¬ O a->H a=some o->H' a=some o/\¬ O' a){a:ay}{o:MO}(e:H' a=H a)(hd:∀ dx x,O dx->M dx=none->H dx=some x->((∃ b,x=.own b) \/ ∃ fs,x=.xd fs)->H' dx=some x/\O' dx)(r:jm H O M a o):jm H' O' M a o:=by
 cases o with
 | lst l=>obtain ⟨xs,h,r⟩:=r;exact ⟨xs,e.trans h,r.imp k fun _ z=>z⟩
 | dK l=>obtain ⟨xs,h,r⟩:=r;exact ⟨xs,e.trans h,r.1,r.2.imp k fun _ z=>z⟩
 | dT l=>obtain ⟨xs,h,r⟩:=r;exact ⟨xs,e.trans h,r.1,r.2.imp k fun _ z=>z⟩
 | dN l=>obtain ⟨xs,h,r,p⟩:=r;exact ⟨xs,e.trans h,⟨r.1,r.2.imp k fun _ z=>z⟩,fun x hx=>(p x hx).imp k⟩
 | ins C fs=>obtain ⟨dx,xs,h,r,q1,q2,q3⟩:=r;exact ⟨dx,xs,e.trans h,⟨r.1,r.2.imp k fun _ z=>z⟩,(hd dx _ q1 q2 q3 (.inl ⟨_,rfl⟩)).2,q2,(hd dx _ q1 q2 q3 (.inl ⟨_,rfl⟩)).1⟩
 | exc C fs=>
  obtain ⟨d,h,r⟩:=r
  refine ⟨d,e.trans h,?_⟩
  rcases r with r | ⟨dx,e1,h1,h2,h3⟩
  ·exact .inl r
  ·obtain ⟨x1,x2⟩:=hd dx _ h2 h3 h1 (.inr ⟨_,rfl⟩);exact .inr ⟨dx,e1,x1,x2,h3⟩
 | tb R=>obtain ⟨ps,h,r⟩:=r;exact ⟨ps,e.trans h,r.imp id fun ⟨c,oc,u,h1,h2,h3⟩=>⟨c,oc,u,h1,(k c _ h2 h3).2,(k c _ h2 h3).1⟩⟩
theorem JY (w:Wf H O M) (hO:O p)(hM:M p=none) (hp:H p=some (.lst xs))(o:HO)(ho:∀ xs,o ≠ .tup xs):Wf (upd H p o) O M:=
 ⟨fun a mo e=>jm.imp (vS hO o) (zj (fun z=>by rw [z,hM] at e;cases e)) (fun dx x h1 _ h3 h4=>⟨by rw [zj (Jq h3 hp (by rcases h4 with ⟨_,rfl⟩ | ⟨_,rfl⟩ <;> exact fun z=>nomatch z))];exact h3,h1⟩) (w.mo a mo e),w.own,fun a ha=>by
  by_cases c:a=p
  ·rw [c,zl];exact ⟨o,rfl,ho⟩
  ·rw [zj c];exact w.al a ha⟩
theorem xL (p:ay):∀ a u,¬ O a->H a=some u->H a=some u/\¬ Z7 O p a:=fun a u ha e=>⟨e,fun z=>ha z.2⟩
theorem BA (w:Wf H O M) (hM:M p=none) (hp:H p=some (.lst xs)):Wf H (Z7 O p) M:=
 ⟨fun a mo e=>jm.imp (xL p) rfl (fun dx x h1 _ h3 h4=>⟨h3,⟨Jq h3 hp (by rcases h4 with ⟨_,rfl⟩ | ⟨_,rfl⟩ <;> exact fun z=>nomatch z),h1⟩⟩) (w.mo a mo e),fun a ha=>⟨fun z=>ha (by rw [z];exact hM),w.own a ha⟩,fun a ha=>w.al a ha.2⟩
abbrev AK:=AV->MH->Prop
abbrev AE:=ASt->MH->AK->Prop
abbrev AT:=ASt->MH->(Bool->MH->Prop)->Prop
abbrev AA:=ASt->MH->(List AV->MH->Prop)->Prop
structure jn where
 nx:ASt->MH->Prop
 rt:AK
 bk:ASt->MH->Prop:=fun _ _=>False
 ct:ASt->MH->Prop:=fun _ _=>False
abbrev AS:=MH->jn->ASt->MH->Prop
abbrev AG:=AV->ASt->MH->(ASt->MH->Prop)->Prop
abbrev AGs:=List AV->ASt->MH->(ASt->MH->Prop)->Prop
abbrev AI:=ASt->MH->(List AV->(MH->Prop)->MH->Prop)->Prop
structure Er (H:Hp)(O:Own)(M:MH)(σ:St)(ρ:ASt):Prop where
 len:σ.length=ρ.length
 get:∀ (i:Nat) x,ρ[i]?=some (some x)->∃ v,σ[i]?=some (some v)/\zt H O M v x
variable {ρ:ASt}
theorem Er.ext (e:Er H O M σ ρ)(k:Ext H O M H' O' M'):Er H' O' M' σ ρ:=⟨e.len,fun i x h=>let ⟨v,h1,h2⟩:=e.get i x h;⟨v,h1,h2.ext k⟩⟩
theorem Er.set (e:Er H O M σ ρ) {x:AV}(r:zt H O M v x)(j:Nat):Er H O M (σ.set j (some v)) (ρ.set j (some x)):=
 ⟨by rw [bN,bN,e.len],fun i y h=>by
  rw [dG] at h ⊢
  by_cases c:j=i
  ·rw [if_pos c] at h ⊢
   by_cases c2:j<ρ.length
   ·rw [if_pos c2] at h;rw [if_pos (by rw [e.len];exact c2)];cases h;exact ⟨v,rfl,r⟩
   ·rw [if_neg c2] at h;cases h
  ·rw [if_neg c] at h ⊢;exact e.get i y h⟩
noncomputable def Gh:List Nat->ASt->ASt
 | [],σ=>σ
 | j :: r,σ=>Gh r (σ.set j none)
theorem Er.clr {H:Hp}{O:Own}{M:MH}:∀ (ts:List Nat) {σ:St} {ρ:ASt},Er H O M σ ρ->Er H O M (clr ts σ) (Gh ts ρ)
  | [],_,_,e=>e
  | j :: r, σ, ρ, e => Er.clr r ⟨by rw [bN, bN, e.len], fun i y h => by
      rw [dG] at h ⊢
      by_cases c:j=i
      · rw [if_pos c] at h
        split at h <;> cases h
      · rw [if_neg c] at h ⊢;exact e.get i y h⟩
structure zK (t:TE)(a:AE):Prop where
 go:∀ {σ:St} {H:Hp} {O:Own} {ρ:ASt} {M:MH} {Q:VK} {Q':AK},Wf H O M->Er H O M σ ρ->a ρ M Q'->(∀ x M' v H' O',Q' x M'->Ext H O M H' O' M'->Wf H' O' M'->zt H' O' M' v x->Q v H')->t σ H Q
structure xp (t:TT)(a:AT):Prop where
 go:∀ {σ:St} {H:Hp} {O:Own} {ρ:ASt} {M:MH} {Q:Bool->Hp->Prop} {Q':Bool->MH->Prop},Wf H O M->Er H O M σ ρ->a ρ M Q'->(∀ b M' H' O',Q' b M'->Ext H O M H' O' M'->Wf H' O' M'->Q b H')->t σ H Q
structure jo (t:TA)(a:AA):Prop where
 go:∀ {σ:St} {H:Hp} {O:Own} {ρ:ASt} {M:MH} {Q:List V->Hp->Prop} {Q':List AV->MH->Prop},Wf H O M->Er H O M σ ρ->a ρ M Q'->(∀ x M' v H' O',Q' x M'->Ext H O M H' O' M'->Wf H' O' M'->zk H' O' M' v x->Q v H')->t σ H Q
structure JT (t:TE)(a:ASt->MH->(List AV->MH->Prop)->Prop):Prop where
 go:∀ {σ:St} {H:Hp} {O:Own} {ρ:ASt} {M:MH} {Q:VK} {Q':List AV->MH->Prop},Wf H O M->Er H O M σ ρ->a ρ M Q' ->
  (∀ l M' p xs H' O',Q' l M'->Ext H O M H' O' M'->Wf H' O' M'->O' p->M' p=none->H p=none->H' p=some (.lst xs)->zk H' O' M' xs l->Q (.ref p) H')->t σ H Q
abbrev AR2:=AV->AV->MH->AK->Prop
structure vz (r:R2)(a:AR2):Prop where
 go:∀ {x y:V} {dx dy:AV} {H:Hp} {O:Own} {M:MH} {Q:VK} {Q':AK},Wf H O M->zt H O M x dx->zt H O M y dy->a dx dy M Q'->(∀ x M' v H' O',Q' x M'->Ext H O M H' O' M'->Wf H' O' M'->zt H' O' M' v x->Q v H')->r x y H Q
structure MW (r:V->Hp->VK->Prop)(a:AV->MH->AK->Prop):Prop where
 go:∀ {x:V} {dx:AV} {H:Hp} {O:Own} {M:MH} {Q:VK} {Q':AK},Wf H O M->zt H O M x dx->a dx M Q'->(∀ x M' v H' O',Q' x M'->Ext H O M H' O' M'->Wf H' O' M'->zt H' O' M' v x->Q v H')->r x H Q
structure QZ (r:List V->Hp->VK->Prop)(a:List AV->MH->AK->Prop):Prop where
 go:∀ {vs:List V} {xs:List AV} {H:Hp} {O:Own} {M:MH} {Q:VK} {Q':AK},Wf H O M->zk H O M vs xs->a xs M Q'->(∀ x M' v H' O',Q' x M'->Ext H O M H' O' M'->Wf H' O' M'->zt H' O' M' v x->Q v H')->r vs H Q
noncomputable def qS (i:Nat):AE:=fun ρ M Q=>∃ x,ρ[i]?=some (some x)/\Q x M
noncomputable def aC (d:Dat):AE:=fun _ M Q=>Q (.d d) M
theorem Ef:zK (wZ i) (qS i):=⟨fun w e ⟨x,h,q⟩ k=>let ⟨v,h1,h2⟩:=e.get i x h;⟨v,h1,k _ _ _ _ _ q .refl w h2⟩⟩
theorem HV {i:Int}:zK (tC (.int i)) (aC (.int i)):=⟨fun w _ q k=>k _ _ _ _ _ q .refl w .int⟩
theorem Ie {i:Bool}:zK (tC (.bl i)) (aC (.bl i)):=⟨fun w _ q k=>k _ _ _ _ _ q .refl w .bl⟩
theorem IQ:zK (tC .non) (aC .non):=⟨fun w _ q k=>k _ _ _ _ _ q .refl w .non⟩
theorem Lk {i:Str}:zK (tC (.str i)) (aC (.str i)):=⟨fun w _ q k=>k _ _ _ _ _ q .refl w .str⟩
theorem Hy {i:String}:zK (tC (.ty i)) (aC (.ty i)):=⟨fun w _ q k=>k _ _ _ _ _ q .refl w .ty⟩
noncomputable def aOp (r:AR2)(a b:AE):AE:=fun ρ M Q=>a ρ M fun x M1=>b ρ M1 fun y M2=>r x y M2 Q
variable {r:R2}
theorem Lx {ra:AR2}{t u:TE}{a b:AE}(hr:vz r ra)(h1:zK t a)(h2:zK u b):zK (tOp r t u) (aOp ra a b):=
 ⟨fun w e q k=>h1.go w e q fun x M1 v H1 O1 q1 k1 w1 r1=>h2.go w1 (e.ext k1) q1 fun y M2 u H2 O2 q2 k2 w2 r2=>hr.go w2 (r1.ext k2) r2 q2 fun z M3 v3 H3 O3 q3 k3 w3 r3=>k z M3 v3 H3 O3 q3 ((k1.trans k2).trans k3) w3 r3⟩
noncomputable def aUn (r:AV->MH->AK->Prop)(a:AE):AE:=fun ρ M Q=>a ρ M fun x M1=>r x M1 Q
theorem Lr {r:V->Hp->VK->Prop}{ra:AV->MH->AK->Prop}{t:TE}{a:AE}(hr:MW r ra)(h1:zK t a):zK (tUn r t) (aUn ra a):=
 ⟨fun w e q k=>h1.go w e q fun x M1 v H1 O1 q1 k1 w1 r1=>hr.go w1 r1 q1 fun z M3 v3 H3 O3 q3 k3 w3 r3=>k z M3 v3 H3 O3 q3 (k1.trans k3) w3 r3⟩
noncomputable def xW:AA:=fun _ M Q=>Q [] M
noncomputable def qQ (a:AE)(b:AA):AA:=fun ρ M Q=>a ρ M fun x M1=>b ρ M1 fun xs M2=>Q (x :: xs) M2
theorem F1:jo Vu xW:=⟨fun w _ q k=>k _ _ _ _ _ q .refl w .nil⟩
variable {u:TA}
theorem Di {t:TE} {a:AE}{b:AA}(h1:zK t a)(h2:jo u b):jo (Ji t u) (qQ a b):=
 ⟨fun w e q k=>h1.go w e q fun x M1 v H1 O1 q1 k1 w1 r1=>h2.go w1 (e.ext k1) q1 fun y M2 u H2 O2 q2 k2 w2 r2=>k _ _ _ _ _ q2 (k1.trans k2) w2 (.cons (r1.ext k2) r2)⟩
theorem K1 {H:Hp}{O:Own}{M:MH}(is:List Int):zk H O M (is.map V.int) (is.map fun i=>.d (.int i)):=by
 induction is with
 | nil=>exact .nil
 | cons i r ih=>exact .cons .int ih
noncomputable def aCB (r:List AV->MH->AK->Prop)(b:AA):AE:=fun ρ M Q=>b ρ M fun xs M1=>r xs M1 Q
theorem Hs {r:List V->Hp->VK->Prop}{ra:List AV->MH->AK->Prop} {b:AA}(hr:QZ r ra)(h2:jo u b):zK (tCB r u) (aCB ra b):=
 ⟨fun w e q k=>h2.go w e q fun x M1 v H1 O1 q1 k1 w1 r1=>hr.go w1 r1 q1 fun z M3 v3 H3 O3 q3 k3 w3 r3=>k z M3 v3 H3 O3 q3 (k1.trans k3) w3 r3⟩
abbrev ASp:=List AV->MH->AK->Prop
noncomputable def cSp (a:ASp):Sp:=fun vs H Q _=>∃ xs M O Q',Wf H O M/\zk H O M vs xs/\a xs M Q'/\∀ x M' v H' O',Q' x M'->Ext H O M H' O' M'->Wf H' O' M'->zt H' O' M' v x->Q v H'
noncomputable def Yl (sp:ASp)(b:AA):AE:=fun ρ M Q=>b ρ M fun xs M1=>sp xs M1 Q
theorem A5 {sp:ASp} {b:AA}(h:jo u b):zK (Jn (cSp sp) [] E0 u) (Yl sp b):=
 ⟨fun w e q k=>h.go w e q fun x M1 v H1 O1 q1 k1 w1 r1=>⟨x,M1,O1,_,w1,by rw [bW];exact r1,q1,fun z M3 v3 H3 O3 q3 k3 w3 r3=>k z M3 v3 H3 O3 q3 (k1.trans k3) w3 r3⟩⟩
noncomputable def pur:List AV->Option (List Dat)
 | []=>some []
 | .d x :: r=>match pur r with | some l=>some (x :: l) | none=>none
 | .ref _ :: _=>none
 | .tp _ :: _=>none
theorem FE:pur []=some []:=rfl
theorem Bc {x:Dat}{r:List AV}{l:List Dat}(h:pur r=some l):pur (.d x :: r)=some (x :: l):=by unfold pur;rw [h]
theorem zT (l:List Dat):pur (l.map .d)=some l:=by
 induction l with
 | nil=>rfl
 | cons x r ih=>exact Bc ih
theorem ky:∀ {xs:List AV} {l:List Dat},pur xs=some l->xs=l.map .d
 | [],l,h=>by cases h;rfl
 | .d x :: r,l,h=>by
  unfold pur at h
  cases e:pur r with
  | none=>rw [e] at h;cases h
  | some m=>rw [e] at h;cases h;rw [ky e];rfl
 | .ref _ :: _,_,h=>by cases h
 | .tp _ :: _,_,h=>by cases h
theorem Ext.shown (w:Wf H O M)(k:Ext H O M H' O' M')(h:H p=none):Ext H O M H' (Z7 O' p) M':=
 ⟨fun a o ha e=>⟨(k.fix a o ha e).1,fun z=>(k.fix a o ha e).2 z.2⟩,fun a ha e=>⟨(k.prv a ha e).1,⟨fun z=>w.ne a ha (by rw [z];exact h),(k.prv a ha e).2.1⟩,(k.prv a ha e).2.2⟩,k.mst⟩
theorem Ext.owned (w:Wf H O M)(k:Ext H O M H' O' M')(h:H p=none)(mo:MO):Ext H O M H' O' (mup M' p mo):=
 ⟨k.fix,fun a ha e=>⟨(k.prv a ha e).1,(k.prv a ha e).2.1,by rw [zi (fun z=>w.ne a ha (by rw [z];exact h))];exact (k.prv a ha e).2.2⟩,fun a ha=>by
  by_cases e:a=p
  ·rw [e,zf];exact fun z=>nomatch z
  ·rw [zi e];exact k.mst a ha⟩
theorem JH (w:Wf H O M)(hO:O p)(hM:M p=none) (hp:H p=some (.lst xs))(r:zk H O M xs l):Wf H O (mup M p (.lst l)):=by
 have km:∀ a,M a ≠ none->mup M p (.lst l) a ≠ none:=fun a ha=>by
  by_cases e:a=p
  ·rw [e,zf];exact fun z=>nomatch z
  ·rw [zi e];exact ha
 refine ⟨fun a u e=>?_,fun a ha=>?_,w.al⟩
 ·by_cases c:a=p
  ·subst c;rw [zf] at e;cases e;exact ⟨xs,hp,r.imp (fun _ _ z h=>⟨h,z⟩) km⟩
  ·rw [zi c] at e
   have:=w.mo a u e
   cases u with
   | lst m=>obtain ⟨ys,h1,h2⟩:=this;exact ⟨ys,h1,h2.imp (fun _ _ z h=>⟨h,z⟩) km⟩
   | dK m=>obtain ⟨ys,h1,h2⟩:=this;exact ⟨ys,h1,h2.1,h2.2.imp (fun _ _ z h=>⟨h,z⟩) km⟩
   | dT m=>obtain ⟨ys,h1,h2⟩:=this;exact ⟨ys,h1,h2.1,h2.2.imp (fun _ _ z h=>⟨h,z⟩) km⟩
   | dN m=>obtain ⟨ys,h1,h2,h3⟩:=this;exact ⟨ys,h1,⟨h2.1,h2.2.imp (fun _ _ z h=>⟨h,z⟩) km⟩,h3⟩
   | ins C fs=>
    obtain ⟨dx,ys,h1,h2,h3,h4,h5⟩:=this
    exact ⟨dx,ys,h1,⟨h2.1,h2.2.imp (fun _ _ z h=>⟨h,z⟩) km⟩,h3,by rw [zi (Jq h5 hp (fun z=>nomatch z))];exact h4,h5⟩
   | exc C fs=>
    obtain ⟨d,h1,h2⟩:=this
    refine ⟨d,h1,?_⟩
    rcases h2 with h2 | ⟨dx,e1,h2,h3,h4⟩
    ·exact .inl h2
    ·exact .inr ⟨dx,e1,h2,h3,by rw [zi (Jq h2 hp (fun z=>nomatch z))];exact h4⟩
   | tb R=>exact this
 ·by_cases c:a=p
  ·rw [c];exact hO
  ·rw [zi c] at ha;exact w.own a ha
abbrev AF:=ASt->MH->(List AV->MH->Prop)->Prop
noncomputable def aFz (a:AF):AE:=fun ρ M Q=>a ρ M fun l M'=>∃ ds,pur l=some ds/\Q (.d (.lst ds)) M'
noncomputable def aOw (a:AF):AE:=fun ρ M Q=>a ρ M fun l M'=>∀ p,M p=none->M' p=none->Q (.ref p) (mup M' p (.lst l))
noncomputable def MA (t:TE):TE:=t
theorem qX {e:Expr}{t:TE}(h:PE X e t):PE X e (MA t):=h
theorem yC {t:TE}{a:AF}(h:JT t a):zK t (aFz a):=
 ⟨fun w e q k=>h.go w e q fun l M' p xs H' O' q1 k1 w1 o1 m1 hp hx r1=>by
  obtain ⟨ds,e1,q2⟩:=q1
  rw [ky e1] at r1
  have r2:=r1.pure
  exact k _ _ _ _ _ q2 (k1.shown w hp) (BA w1 m1 hx) (Rep.lst (fun z=>z.1 rfl) hx r2.1 fun i x d e1 e2=>(r2.2 i x d e1 e2).imp (xL p))⟩
theorem EC {t:TE}{a:AF}(h:JT t a):zK (MA t) (aOw a):=
 ⟨fun w e q k=>h.go w e q fun l M' p xs H' O' q1 k1 w1 o1 m1 hp hx r1=>k _ _ _ _ _ (q1 p (w.fresh hp).2 m1) (k1.owned w hp _) (JH w1 o1 m1 hx r1) ⟨rfl,by rw [zf];exact fun z=>nomatch z⟩⟩
noncomputable def HI (b:AA):AF:=fun ρ M Q=>b ρ M fun xs M1=>xs.length<=aQ/\Q xs M1
theorem Dy {b:AA}(h:jo u b):JT (Im u) (HI b):=
 ⟨fun w e q k=>h.go w e q fun x M1 v H1 O1 q1 k1 w1 r1=>⟨by rw [r1.1];exact q1.1,fun p hp=>
  k x M1 p v _ _ q1.2 (k1.trans (qP w1 hp _)) (kM w1 hp _ (fun _ z=>nomatch z)) (.inl rfl) (w1.fresh hp).2 (by
   cases e0:(_:Hp) p with
   | none=>exact e0
   | some o=>
    exfalso
    rename_i H0 O0 _ M0 _ _
    by_cases c:O0 p
    ·by_cases c2:M0 p=none
     ·exact w1.ne p (k1.prv p c c2).2.1 hp
     ·exact w1.ne p (w1.own p (k1.mst p c2)) hp
    ·rw [(k1.fix p o c e0).1] at hp;cases hp) zl (r1.ext (qP w1 hp _))⟩⟩
noncomputable def Ft (b:AA):AE:=fun ρ M Q=>b ρ M fun xs M1=>xs.length<=aQ/\∃ ds,pur xs=some ds/\Q (.d (.tup ds)) M1
theorem Fa {b:AA}(h:jo u b):zK (WQ u) (Ft b):=
 ⟨fun w e q k=>h.go w e q fun x M1 v H1 O1 q1 k1 w1 r1=>⟨by rw [r1.1];exact q1.1,fun p hp=>by
  obtain ⟨_,ds,e1,q2⟩:=q1
  rw [ky e1] at r1
  have r2:=r1.pure
  exact k _ _ _ _ _ q2 (k1.trans (jj w1 hp _)) (yc w1 hp _) (Rep.tup (w1.fresh hp).1 zl r2.1 fun i x d e1 e2=>(r2.2 i x d e1 e2).ext (jj w1 hp _))⟩⟩
noncomputable def aB (a:AE):AT:=fun ρ M Q=>a ρ M fun x M1=>∃ b,x=.d (.bl b)/\Q b M1
theorem xu {b:Bool}(r:Rep H O v (.bl b)):v=.bl b:=by cases r;rfl
theorem zX {b:Int}(r:Rep H O v (.int b)):v=.int b:=by cases r;rfl
theorem vP {b:Str}(r:Rep H O v (.str b)):v=.str b:=by cases r;rfl
theorem Da {b:String}(r:Rep H O v (.ty b)):v=.ty b:=by cases r;rfl
theorem vZ (r:Rep H O v .non):v=.non:=by cases r;rfl
theorem L6 {t:TE}{a:AE}(h:zK t a):xp (tB t) (aB a):=⟨fun w e q k=>h.go w e q fun x M1 v H1 O1 ⟨b,e1,q1⟩ k1 w1 r1=>by
 subst e1;exact ⟨b,xu r1,k _ _ _ _ q1 k1 w1⟩⟩
theorem Dr {t:TE}{a:AE}(h:zK t a):xp (Dn t) (aB a):=⟨fun w e q k=>h.go w e q fun x M1 v H1 O1 ⟨b,e1,q1⟩ k1 w1 r1=>by
 subst e1;exact ⟨b,xu r1,k _ _ _ _ q1 k1 w1⟩⟩
noncomputable def Zw:AT:=fun _ M Q=>Q true M
theorem B9:xp Wp Zw:=⟨fun w _ q k=>k _ _ _ _ q .refl w⟩
noncomputable def FQ (a b:AT):AT:=fun ρ M Q=>a ρ M fun c M1=>if c=true then b ρ M1 Q else Q false M1
noncomputable def aOr (a b:AT):AT:=fun ρ M Q=>a ρ M fun c M1=>if c=true then Q true M1 else b ρ M1 Q
noncomputable def VB (a:AT):AT:=fun ρ M Q=>a ρ M fun c M1=>Q (!c) M1
theorem E9 {t u:TT}{a b:AT}(h1:xp t a)(h2:xp u b):xp (Lh t u) (FQ a b):=⟨fun w e q k=>h1.go w e q fun c M1 H1 O1 q1 k1 w1=>by
 cases c with
 | true=>exact h2.go w1 (e.ext k1) q1 fun c M2 H2 O2 q2 k2 w2=>k _ _ _ _ q2 (k1.trans k2) w2
 | false=>exact k _ _ _ _ q1 k1 w1⟩
theorem Iv {t u:TT}{a b:AT}(h1:xp t a)(h2:xp u b):xp (tOr t u) (aOr a b):=⟨fun w e q k=>h1.go w e q fun c M1 H1 O1 q1 k1 w1=>by
 cases c with
 | false=>exact h2.go w1 (e.ext k1) q1 fun c M2 H2 O2 q2 k2 w2=>k _ _ _ _ q2 (k1.trans k2) w2
 | true=>exact k _ _ _ _ q1 k1 w1⟩
theorem F8 {a:AT}(h1:xp t a):xp (HD t) (VB a):=⟨fun w e q k=>h1.go w e q fun c M1 H1 O1 q1 k1 w1=>k _ _ _ _ q1 k1 w1⟩
noncomputable def GK (a b:AE):AE:=fun ρ M Q=>a ρ M fun x M1=>∃ c,x=.d (.bl c)/\if c=true then b ρ M1 Q else Q (.d (.bl false)) M1
noncomputable def GE (a:AE):AE:=fun ρ M Q=>a ρ M fun x M1=>∃ c,x=.d (.bl c)/\Q (.d (.bl (!c))) M1
theorem Dl {t u:TE}{a b:AE}(h1:zK t a)(h2:zK u b):zK (Wo t u) (GK a b):=⟨fun w e q k=>h1.go w e q fun x M1 v H1 O1 ⟨c,e1,q1⟩ k1 w1 r1=>by
 subst e1
 refine ⟨c,xu r1,?_⟩
 cases c with
 | true=>exact h2.go w1 (e.ext k1) q1 fun c M2 v2 H2 O2 q2 k2 w2 r2=>k _ _ _ _ _ q2 (k1.trans k2) w2 r2
 | false=>exact k _ _ _ _ _ q1 k1 w1 .bl⟩
theorem BQ {t:TE}{a:AE}(h1:zK t a):zK (W9 t) (GE a):=⟨fun w e q k=>h1.go w e q fun x M1 v H1 O1 ⟨c,e1,q1⟩ k1 w1 r1=>by
 subst e1
 exact ⟨c,xu r1,k _ _ _ _ _ q1 k1 w1 .bl⟩⟩
noncomputable def aIf (c:AT)(a b:AE):AE:=fun ρ M Q=>c ρ M fun c M1=>if c=true then a ρ M1 Q else b ρ M1 Q
theorem Lv {c:TT}{t u:TE}{ac:AT}{a b:AE}(hc:xp c ac)(h1:zK t a)(h2:zK u b):zK (tIf c t u) (aIf ac a b):=⟨fun w e q k=>hc.go w e q fun c M1 H1 O1 q1 k1 w1=>by
 cases c with
 | true=>exact h1.go w1 (e.ext k1) q1 fun c M2 v2 H2 O2 q2 k2 w2 r2=>k _ _ _ _ _ q2 (k1.trans k2) w2 r2
 | false=>exact h2.go w1 (e.ext k1) q1 fun c M2 v2 H2 O2 q2 k2 w2 r2=>k _ _ _ _ _ q2 (k1.trans k2) w2 r2⟩
noncomputable def A3 (r r':AR2)(a b c:AE):AE:=fun ρ M Q=>a ρ M fun x M1=>b ρ M1 fun y M2=>r x y M2 fun z M3=>∃ k,z=.d (.bl k)/\if k=true then c ρ M3 fun u M4=>r' y u M4 Q else Q (.d (.bl false)) M3
theorem Y4 {r r':R2}{ar ar':AR2}{t u v:TE}{a b c:AE}(hr:vz r ar)(hr':vz r' ar')(h1:zK t a)(h2:zK u b)(h3:zK v c):zK (B1 r r' t u v) (A3 ar ar' a b c):=
 ⟨fun w e q k=>h1.go w e q fun x M1 v H1 O1 q1 k1 w1 r1=>h2.go w1 (e.ext k1) q1 fun y M2 u H2 O2 q2 k2 w2 r2=>hr.go w2 (r1.ext k2) r2 q2 fun z M3 v3 H3 O3 ⟨c,e3,q3⟩ k3 w3 r3=>by
  subst e3
  refine ⟨c,xu r3,?_⟩
  have k13:=(k1.trans k2).trans k3
  cases c with
  | false=>exact k _ _ _ _ _ q3 k13 w3 .bl
  | true=>exact h3.go w3 (e.ext k13) q3 fun z4 M4 v4 H4 O4 q4 k4 w4 r4=>hr'.go w4 ((r2.ext k3).ext k4) r4 q4 fun z5 M5 v5 H5 O5 q5 k5 w5 r5=>k _ _ _ _ _ q5 ((k13.trans k4).trans k5) w5 r5⟩
structure ED (H0:Hp)(O0:Own)(M0:MH)(D:xf)(D':jn):Prop where
 nx:∀ σ H O ρ M,Wf H O M->Er H O M σ ρ->Ext H0 O0 M0 H O M->D'.nx ρ M->D.nx σ H
 rt:∀ v x H O M,Wf H O M->Ext H0 O0 M0 H O M->zt H O M v x->D'.rt x M->D.rt v H
 bk:∀ σ H O ρ M,Wf H O M->Er H O M σ ρ->Ext H0 O0 M0 H O M->D'.bk ρ M->D.bk σ H
 ct:∀ σ H O ρ M,Wf H O M->Er H O M σ ρ->Ext H0 O0 M0 H O M->D'.ct ρ M->D.ct σ H
variable {H0:Hp} {O0:Own}
theorem ED.tr {M0 M1:MH} {D':jn}(E:ED H0 O0 M0 D D')(k:Ext H0 O0 M0 H1 O1 M1):ED H1 O1 M1 D D':=
 ⟨fun σ H O ρ M w e x q=>E.nx σ H O ρ M w e (k.trans x) q,fun v y H O M w x r q=>E.rt v y H O M w (k.trans x) r q,fun σ H O ρ M w e x q=>E.bk σ H O ρ M w e (k.trans x) q,fun σ H O ρ M w e x q=>E.ct σ H O ρ M w e (k.trans x) q⟩
structure jq (t:TS)(a:AS):Prop where
 go:∀ {H0:Hp} {O0:Own} {M0:MH} {D:xf} {D':jn} {σ:St} {H:Hp} {O:Own} {ρ:ASt} {M:MH},Wf H0 O0 M0->Wf H O M->Er H O M σ ρ->Ext H0 O0 M0 H O M->a M0 D' ρ M->ED H0 O0 M0 D D'->t D σ H
noncomputable def kP:AS:=fun _ D ρ M=>D.nx ρ M
theorem WL:jq BJ kP:=⟨fun _ w e x q E=>E.nx _ _ _ _ _ w e x q⟩
noncomputable def yj (a b:AS):AS:=fun B D ρ M=>a B { D with nx:=b B D } ρ M
theorem FC {t u:TS}{a b:AS}(h1:jq t a)(h2:jq u b):jq (VD t u) (yj a b):=
 ⟨fun w0 w e x q E=>h1.go w0 w e x q ⟨fun σ H O ρ M w e x q=>h2.go w0 w e x q E,E.rt,E.bk,E.ct⟩⟩
noncomputable def WJ (a:AE):AS:=fun _ D ρ M=>a ρ M fun _ M1=>D.nx ρ M1
theorem Wa {t:TE}{a:AE}(h:zK t a):jq (XI t) (WJ a):=⟨fun _ w e x q E=>h.go w e q fun y M1 v H1 O1 q1 k1 w1 r1=>E.nx _ _ _ _ _ w1 (e.ext k1) (x.trans k1) q1⟩
noncomputable def D7 (a:AE):AS:=fun _ D ρ M=>a ρ M D.rt
theorem Fe {t:TE}{a:AE}(h:zK t a):jq (EE t) (D7 a):=⟨fun _ w e x q E=>h.go w e q fun y M1 v H1 O1 q1 k1 w1 r1=>E.rt _ _ _ _ _ w1 (x.trans k1) r1 q1⟩
noncomputable def vE (c:AT)(a b:AS):AS:=fun B D ρ M=>c ρ M fun k M1=>if k=true then a B D ρ M1 else b B D ρ M1
variable {ac:AT}
theorem FH {c:TT}{t u:TS} {a b:AS}(hc:xp c ac)(h1:jq t a)(h2:jq u b):jq (Ey c t u) (vE ac a b):=
 ⟨fun w0 w e x q E=>hc.go w e q fun k M1 H1 O1 q1 k1 w1=>by
  cases k with
  | true=>exact h1.go w0 w1 (e.ext k1) (x.trans k1) q1 E
  | false=>exact h2.go w0 w1 (e.ext k1) (x.trans k1) q1 E⟩
structure vB (g:TG)(a:AG):Prop where
 go:∀ {v:V} {x:AV} {σ:St} {H:Hp} {O:Own} {ρ:ASt} {M:MH} {Q:St->Hp->Prop} {Q':ASt->MH->Prop},Wf H O M->Er H O M σ ρ->zt H O M v x->a x ρ M Q' ->
  (∀ σ' H' O' ρ' M',Q' ρ' M'->Ext H O M H' O' M'->Wf H' O' M'->Er H' O' M' σ' ρ'->Q σ' H')->g v σ H Q
structure Zs (g:TGs)(a:AGs):Prop where
 go:∀ {v:List V} {x:List AV} {σ:St} {H:Hp} {O:Own} {ρ:ASt} {M:MH} {Q:St->Hp->Prop} {Q':ASt->MH->Prop},Wf H O M->Er H O M σ ρ->zk H O M v x->a x ρ M Q' ->
  (∀ σ' H' O' ρ' M',Q' ρ' M'->Ext H O M H' O' M'->Wf H' O' M'->Er H' O' M' σ' ρ'->Q σ' H')->g v σ H Q
noncomputable def xA (i:Nat):AG:=fun x ρ M Q=>Q (ρ.set i (some x)) M
theorem VL:vB (JI i) (xA i):=⟨fun w e r q k=>k _ _ _ _ _ q .refl w (e.set r i)⟩
noncomputable def AZ:AGs:=fun xs ρ M Q=>xs=[]/\Q ρ M
noncomputable def wJ (a:AG)(b:AGs):AGs:=fun xs ρ M Q=>∃ x r,xs=x :: r/\a x ρ M fun ρ' M'=>b r ρ' M' Q
theorem A6:Zs Ij AZ:=⟨fun w e r q k=>by obtain ⟨e1,q⟩:=q;subst e1;exact ⟨r.nil_inv,k _ _ _ _ _ q .refl w e⟩⟩
theorem Vd {u:TGs}{a:AG}{b:AGs}(h1:vB g a)(h2:Zs u b):Zs (DF g u) (wJ a b):=⟨fun w e r q k=>by
 obtain ⟨x,r',e1,q⟩:=q;subst e1
 obtain ⟨v,vr,e2,rv,rr⟩:=r.cons_inv
 subst e2
 exact ⟨v,vr,rfl,h1.go w e rv q fun σ' H' O' ρ' M' q1 k1 w1 e1=>h2.go w1 e1 (rr.ext k1) q1 fun σ2 H2 O2 ρ2 M2 q2 k2 w2 e2=>k _ _ _ _ _ q2 (k1.trans k2) w2 e2⟩⟩
noncomputable def DL (n:Nat)(b:AGs):AG:=fun x ρ M Q=>∃ l,x=.d (.tup l)/\l.length=n/\b (l.map .d) ρ M Q
theorem D4 {K:aA}{n:Nat}{u:TGs}{b:AGs}(h:Zs u b):vB (Y6 K n u) (DL n b):=⟨fun {v x σ H O ρ M Q Q'} w e r q k=>by
 obtain ⟨l,e1,ln,q⟩:=q;subst e1
 cases (show Rep H O v (.tup l) from r) with
 | @tup a xs _ o1 h1 l1 r1=>exact ⟨a,xs,rfl,SqT.of h1,l1.trans ln,h.go w e (Vv.av ⟨l1,r1⟩) q k⟩⟩
noncomputable def qv (x:AV)(M:MH):Option (List AV):=match x with
 | .d (.lst l)=>some (l.map .d)
 | .ref a=>match M a with
  | some (.lst l)=>some l
  | _=>none
 | _=>none
noncomputable def G5 (x:AV):Option (List AV):=match x with
 | .d (.tup l)=>some (l.map .d)
 | .tp l=>some (l.map tiA)
 | _=>none
noncomputable def qF (x:AV)(M:MH):Option (List AV):=match x with
 | .d (.lst l)=>some (l.map .d)
 | .d (.tup l)=>some (l.map .d)
 | .ref a=>match M a with
  | some (.lst l)=>some l
  | _=>none
 | _=>none
theorem AL (l:List Dat)(M:MH):qv (.d (.lst l)) M=some (l.map .d):=rfl
theorem IR (l:List Dat):G5 (.d (.tup l))=some (l.map .d):=rfl
theorem HZ (l:List Dat)(M:MH):qF (.d (.lst l)) M=some (l.map .d):=rfl
theorem Hu (l:List Dat)(M:MH):qF (.d (.tup l)) M=some (l.map .d):=rfl
theorem qY (h:M a=some (.lst l)):qv (.ref a) M=some l:=by unfold qv;dsimp only;rw [h]
theorem zF (h:M a=some (.lst l)):qF (.ref a) M=some l:=by unfold qF;dsimp only;rw [h]
theorem JE {x:AV}{M:MH}{l:List AV}(h:qv x M=some l):(∃ m,x=.d (.lst m)/\l=m.map .d) \/ ∃ a,x=.ref a/\M a=some (.lst l):=by
 cases x with
 | d x=>
  cases x with
  | lst m=>cases h;exact .inl ⟨m,rfl,rfl⟩
  | _=>cases h
 | ref a=>
  unfold qv at h
  dsimp only at h
  cases e:M a with
  | none=>rw [e] at h;cases h
  | some o=>
   rw [e] at h
   cases o with
   | lst m=>cases h;exact .inr ⟨a,rfl,e⟩
   | _=>cases h
 | tp l=>cases h
theorem kE {x:AV}{M:MH}{l:List AV}(h:qF x M=some l):qv x M=some l \/ ∃ m,x=.d (.tup m)/\l=m.map .d:=by
 cases x with
 | d x=>
  cases x with
  | lst m=>cases h;exact .inl rfl
  | tup m=>cases h;exact .inr ⟨m,rfl,rfl⟩
  | _=>cases h
 | ref a=>exact .inl h
 | tp l=>cases h
theorem qA {x:AV} (w:Wf H O M)(r:zt H O M v x)(h:qv x M=some l):∃ a xs,v=.ref a/\H a=some (.lst xs)/\zk H O M xs l:=by
 rcases JE h with ⟨m,rfl,rfl⟩ | ⟨a,rfl,e⟩
 ·cases (show Rep H O v (.lst m) from r) with
  | @lst a xs _ o1 h1 l1 r1=>exact ⟨a,xs,rfl,h1,Vv.av ⟨l1,r1⟩⟩
 ·obtain ⟨xs,h1,r1⟩:=w.mo a _ e
  exact ⟨a,xs,r.1,h1,r1⟩
theorem Bj.av {m:List (Dat ⊕ ay)}(r:Bj H O M xs m):zk H O M xs (m.map tiA):=⟨by rw [aw];exact r.1,fun i x d e1 e2=>by
 rw [aK] at e2
 obtain ⟨t,e3,rfl⟩:=dQ.mp e2
 have:=r.2 i x t e1 e3
 cases t <;> exact this⟩
theorem jR {H:Hp}{O:Own}{M:MH}{v:V}{x:AV}{l:List AV}(r:zt H O M v x)(h:G5 x=some l):∃ a xs,v=.ref a/\H a=some (.tup xs)/\zk H O M xs l:=by
 cases x with
 | ref a=>cases h
 | tp m=>
  cases h
  obtain ⟨a,xs,e,_,h1,r1⟩:=r
  exact ⟨a,xs,e,h1,r1.av⟩
 | d x=>
  cases x with
  | tup m=>
   cases h
   cases (show Rep H O v (.tup m) from r) with
   | @tup a xs _ o1 h1 l1 r1=>exact ⟨a,xs,rfl,h1,Vv.av ⟨l1,r1⟩⟩
  | _=>cases h
theorem QF {x:AV} (w:Wf H O M)(r:zt H O M v x)(h:qF x M=some l):∃ a xs,v=.ref a/\(H a=some (.lst xs) \/ H a=some (.tup xs))/\zk H O M xs l:=by
 rcases kE h with e | ⟨m,rfl,rfl⟩
 ·obtain ⟨a,xs,h1,h2,h3⟩:=qA w r e;exact ⟨a,xs,h1,.inl h2,h3⟩
 ·obtain ⟨a,xs,h1,h2,h3⟩:=jR (l:=m.map .d) r rfl;exact ⟨a,xs,h1,.inr h2,h3⟩
structure Ko (t:Jt)(a:AV->AV->AV->MH->(MH->Prop)->Prop):Prop where
 go:∀ {o i v:V} {ao ai av:AV} {H:Hp} {O:Own} {M:MH} {Q:Hp->Prop} {Q':MH->Prop},Wf H O M->zt H O M o ao->zt H O M i ai->zt H O M v av->a ao ai av M Q'->(∀ M' H' O',Q' M'->Ext H O M H' O' M'->Wf H' O' M'->Q H')->t o i v H Q
noncomputable def As (a b:AE)(s:AV->AV->AV->MH->(MH->Prop)->Prop):AG:=fun x ρ M Q=>a ρ M fun o M1=>b ρ M1 fun i M2=>s o i x M2 fun M3=>Q ρ M3
theorem An {to ti:TE}{t:Jt}{a b:AE}{s:AV->AV->AV->MH->(MH->Prop)->Prop}(h1:zK to a)(h2:zK ti b)(h3:Ko t s):vB (Hh to ti t) (As a b s):=⟨fun w e r q k=>
 h1.go w e q fun x M1 v H1 O1 q1 k1 w1 r1=>h2.go w1 (e.ext k1) q1 fun y M2 u H2 O2 q2 k2 w2 r2=>h3.go w2 (r1.ext k2) r2 (r.ext (k1.trans k2)) q2 fun M3 H3 O3 q3 k3 w3=>k _ _ _ _ _ q3 ((k1.trans k2).trans k3) w3 (e.ext ((k1.trans k2).trans k3))⟩
theorem zU {o:MO}(h:M p=some o):M p ≠ none:=by rw [h];exact fun z=>nomatch z
noncomputable def asL:AV->AV->AV->MH->(MH->Prop)->Prop:=fun o i v M Q=>∃ p l k j,o=.ref p/\i=.d (.int k)/\M p=some (.lst l)/\ixN l.length k=some j/\Q (mup M p (.lst (l.set j v)))
theorem Ay:Ko KG asL:=⟨fun w ro ri rv q k=>by
 obtain ⟨p,l,n,j,rfl,rfl,hm,hj,q⟩:=q
 obtain ⟨xs,hx,rx⟩:=w.mo p _ hm
 have np:=zU hm
 refine ⟨n,zX ri,p,ro.1,xs,hx,j,by rw [rx.1];exact hj,k _ _ _ q (ki w np _ _) (Z6 w np (fun _ z=>nomatch z) ⟨_,zl,(rx.set rv j).ext (ki w np _ _)⟩)⟩⟩
noncomputable def Vg (a:AE)(g:AG):AS:=fun _ D ρ M=>a ρ M fun x M1=>g x ρ M1 D.nx
variable {ag:AG}
theorem Ea {t:TE} {a:AE} (h:zK t a)(hg:vB g ag):jq (Qn t g) (Vg a ag):=⟨fun _ w e x q E=>h.go w e q fun y M1 v H1 O1 q1 k1 w1 r1=>hg.go w1 (e.ext k1) r1 q1 fun σ2 H2 O2 ρ2 M2 q2 k2 w2 e2=>E.nx _ _ _ _ _ w2 e2 ((x.trans k1).trans k2) q2⟩
noncomputable def Mw (i j:Nat)(a:AA):AS:=fun _ D ρ M=>a ρ M fun xs M1=>∃ x y,xs=[x,y]/\D.nx ((ρ.set i (some x)).set j (some y)) M1
theorem E5 {t:TA}{a:AA}(h:jo t a):jq (Hf i j t) (Mw i j a):=⟨fun _ w e x q E=>h.go w e q fun ys M1 vs H1 O1 q1 k1 w1 r1=>by
 obtain ⟨y,z,rfl,q2⟩:=q1
 obtain ⟨v1,r',rfl,a1,r2⟩:=r1.cons_inv
 obtain ⟨v2,r',rfl,a2,r3⟩:=r2.cons_inv
 rw [r3.nil_inv]
 exact ⟨v1,v2,rfl,E.nx _ _ _ _ _ w1 (((e.ext k1).set a1 i).set a2 j) (x.trans k1) q2⟩⟩
noncomputable def GX (i j m:Nat)(a:AA):AS:=fun _ D ρ M=>a ρ M fun xs M1=>∃ x y z,xs=[x,y,z]/\D.nx (((ρ.set i (some x)).set j (some y)).set m (some z)) M1
theorem Wz {i j m:Nat}{t:TA}{a:AA}(h:jo t a):jq (D3 i j m t) (GX i j m a):=⟨fun _ w e x q E=>h.go w e q fun ys M1 vs H1 O1 q1 k1 w1 r1=>by
 obtain ⟨y,z,u,rfl,q2⟩:=q1
 obtain ⟨v1,r',rfl,a1,r2⟩:=r1.cons_inv
 obtain ⟨v2,r',rfl,a2,r3⟩:=r2.cons_inv
 obtain ⟨v3,r',rfl,a3,r4⟩:=r3.cons_inv
 rw [r4.nil_inv]
 exact ⟨v1,v2,v3,rfl,E.nx _ _ _ _ _ w1 ((((e.ext k1).set a1 i).set a2 j).set a3 m) (x.trans k1) q2⟩⟩
structure GR (t:TIp)(a:AR2):Prop where
 go:∀ {x y:V} {dx dy:AV} {H:Hp} {O:Own} {M:MH} {Q:VK} {Q':AK},Wf H O M->zt H O M x dx->zt H O M y dy->a dx dy M Q'->(∀ x M' v H' O',Q' x M'->Ext H O M H' O' M'->Wf H' O' M'->zt H' O' M' v x->Q v H')->t x y H Q
noncomputable def GC (ao ai ae:AE)(gt ip:AR2)(st:AV->AV->AV->MH->(MH->Prop)->Prop):AS:=fun _ D ρ M=>ao ρ M fun o M1=>ai ρ M1 fun i M2=>gt o i M2 fun x M3=>ae ρ M3 fun y M4=>ip x y M4 fun z M5=>st o i z M5 fun M6=>D.nx ρ M6
theorem DP {to ti te:TE}{tg:V->V->Hp->VK->Prop}{tip:TIp}{ts:Jt}{ao ai ae:AE}{gt ip:AR2}{st:AV->AV->AV->MH->(MH->Prop)->Prop}(h1:zK to ao)(h2:zK ti ai)(h3:vz tg gt)(h4:zK te ae)(h5:GR tip ip)(h6:Ko ts st) :
  jq (Aj to ti te tg tip ts) (GC ao ai ae gt ip st):=⟨fun _ w e x q E=>h1.go w e q fun o M1 v1 H1 O1 q1 k1 w1 r1=>h2.go w1 (e.ext k1) q1 fun i M2 v2 H2 O2 q2 k2 w2 r2=>h3.go w2 (r1.ext k2) r2 q2 fun y M3 v3 H3 O3 q3 k3 w3 r3=>
  h4.go w3 (e.ext ((k1.trans k2).trans k3)) q3 fun z M4 v4 H4 O4 q4 k4 w4 r4=>h5.go w4 (r3.ext k4) r4 q4 fun z5 M5 v5 H5 O5 q5 k5 w5 r5=>h6.go w5 (r1.ext (((k2.trans k3).trans k4).trans k5)) (r2.ext ((k3.trans k4).trans k5)) r5 q5 fun M6 H6 O6 q6 k6 w6=>
   E.nx _ _ _ _ _ w6 (e.ext (((((k1.trans k2).trans k3).trans k4).trans k5).trans k6)) (x.trans (((((k1.trans k2).trans k3).trans k4).trans k5).trans k6)) q6⟩
def yL (J:It)(H:Hp)(O:Own)(M:MH)(l:List AV)(G:MH->Prop):Prop:=
 ∀ (H':Hp) (O':Own) (M':MH),(∀ a o,¬ O a->H a=some o->H' a=some o/\¬ O' a)->(∀ a,M a ≠ none->M' a ≠ none)->Wf H' O' M'->G M'->∀ i:Nat,(i=l.length->J.stop i H') /\
  ∀ y,l[i]?=some y->J.go i H'/\∀ x H'',J.yld i H' x H''->Ext H' O' M' H'' O' M'/\Wf H'' O' M'/\zt H'' O' M' x y
structure Jr (wi:TI)(ai:AI):Prop where
 go:∀ {σ:St} {H:Hp} {O:Own} {ρ:ASt} {M:MH} {R:It->Hp->Prop} {R':List AV->(MH->Prop)->MH->Prop},Wf H O M->Er H O M σ ρ->ai ρ M R'->(∀ l G M' J H' O',R' l G M'->Ext H O M H' O' M'->Wf H' O' M'->yL J H' O' M' l G->R J H')->wi σ H R
def MM (ag:AG)(ab:AS)(B:MH)(D:jn)(G:MH->Prop)(l:List AV)(ρ:ASt)(M:MH):Prop:=
 ∃ Pv:Nat->ASt->MH->Prop,Pv 0 ρ M/\(∀ i x ρ M,l[i]?=some x->Pv i ρ M->G M/\ag x ρ M fun ρ' M'=>ab B { D with nx:=Pv (i+1),ct:=Pv (i+1),bk:=D.nx } ρ' M')/\∀ ρ M,Pv l.length ρ M->G M/\D.nx ρ M
noncomputable def Fy (ai:AI)(ag:AG)(ab:AS):AS:=fun _ D ρ M=>ai ρ M fun l G M1=>MM ag ab M1 D G l ρ M1
variable {ai:AI}
theorem Gc {t:TS} {ab:AS}(hi:Jr wi ai)(hg:vB g ag)(hb:jq t ab):jq (FI wi g t) (Fy ai ag ab):=⟨fun {H0 O0 M0 D D' σ H O ρ M} w0 w e x q E=>by
 rw [Z3]
 refine hi.go w e q fun l G M1 J H1 O1 q1 k1 w1 hj=>?_
 have E1:=E.tr (x.trans k1)
 obtain ⟨Pv,p0,ps,pd⟩:=q1
 refine ⟨fun i m σ H=>m=l.length - i/\i<=l.length/\∃ O ρ M,Wf H O M/\Er H O M σ ρ/\Ext H1 O1 M1 H O M/\Pv i ρ M,⟨l.length,by simp,cV _,O1,ρ,M1,w1,e.ext k1,.refl,p0⟩,?_⟩
 rintro i m σ H ⟨rfl,hi,O,ρ,M,w,e,x,hf⟩
 by_cases hil:i<l.length
 ·have hy:l[i]?=some l[i]:=au hil
  obtain ⟨hG,q2⟩:=ps i l[i] ρ M hy hf
  obtain ⟨j1,j2⟩:=(hj H O M x.fix x.mst w hG i).2 l[i] hy
  refine .inr ⟨j1,fun σ' H'=>∃ O ρ M,Wf H' O M/\Er H' O M σ' ρ/\Ext H1 O1 M1 H' O M/\Pv (i+1) ρ M,fun σ' H' z=>⟨l.length - (i+1),by omega,rfl,hil,z⟩,fun v H' hv=>?_⟩
  obtain ⟨k2,w2,r2⟩:=j2 v H' hv
  refine hg.go w2 (e.ext k2) r2 q2 fun σ3 H3 O3 ρ3 M3 q3 k3 w3 e3=>?_
  exact hb.go w1 w3 e3 ((x.trans k2).trans k3) q3 ⟨fun σ H O ρ M w e x q=>⟨O,ρ,M,w,e,x,q⟩,E1.rt,E1.nx,fun σ H O ρ M w e x q=>⟨O,ρ,M,w,e,x,q⟩⟩
 ·have e0:i=l.length:=by omega
  subst e0
  obtain ⟨hG,q2⟩:=pd ρ M hf
  exact .inl ⟨(hj H O M x.fix x.mst w hG l.length).1 rfl,E1.nx _ _ _ _ _ w e x q2⟩⟩
theorem yq {H H1:Hp}{O O1:Own}{M M1:MH}(w1:Wf H1 O1 M1)(k1:Ext H O M H1 O1 M1){p:ay}(hp:H1 p=none):H p=none:=by
 cases e0:H p with
 | none=>rfl
 | some o=>
  exfalso
  by_cases c:O p
  ·by_cases c2:M p=none
   ·exact w1.ne p (k1.prv p c c2).2.1 hp
   ·exact w1.ne p (w1.own p (k1.mst p c2)) hp
  ·rw [(k1.fix p o c e0).1] at hp;cases hp
theorem VC {x:AV} (r:zt H O M (.ref a) x)(h:qv x M=some l):yL (Itl K a) H O M l (fun M'=>qv x M'=some l):=by
 intro H' O' M' fix mst w' hG i
 obtain ⟨a',xs,e,h1,r1⟩:=qA w' (r.imp fix mst) hG
 cases e
 refine ⟨fun e=>⟨xs,SqL.of h1,by rw [r1.1];omega⟩,fun y hy=>?_⟩
 obtain ⟨v,hv,rv⟩:=r1.get hy
 refine ⟨⟨xs,v,SqL.of h1,hv⟩,fun z H'' hz=>?_⟩
 obtain ⟨e1,e2⟩:=hz
 subst e1
 have:=e2 xs (SqL.of h1)
 rw [hv] at this;cases this
 exact ⟨.refl,w',rv⟩
theorem B2 {x:AV} (r:zt H O M (.ref a) x)(h:G5 x=some l):yL (Itt K a) H O M l (fun _=>True):=by
 intro H' O' M' fix mst w' hG i
 obtain ⟨a',xs,e,h1,r1⟩:=jR (r.imp fix mst) h
 cases e
 refine ⟨fun e=>⟨xs,SqT.of h1,by rw [r1.1];omega⟩,fun y hy=>?_⟩
 obtain ⟨v,hv,rv⟩:=r1.get hy
 refine ⟨⟨xs,v,SqT.of h1,hv⟩,fun z H'' hz=>?_⟩
 obtain ⟨e1,e2⟩:=hz
 subst e1
 have:=e2 xs (SqT.of h1)
 rw [hv] at this;cases this
 exact ⟨.refl,w',rv⟩
noncomputable def aiS (a:AE):AI:=fun ρ M R=>a ρ M fun x M1=>∃ l,qF x M1=some l/\R l (fun M'=>qF x M'=some l) M1
variable {J:It}
theorem yL.mono {G G':MH->Prop}(h:yL J H O M l G)(k:∀ M,G' M->G M):yL J H O M l G':=fun H' O' M' fix mst w' hG=>h H' O' M' fix mst w' (k _ hG)
theorem IU {t:TE}{a:AE}(h:zK t a):Jr (iLT K t) (aiS a):=⟨fun w e q k=>h.go w e q fun x M1 v H1 O1 ⟨l,hl,q1⟩ k1 w1 r1=>by
 rcases kE hl with hl' | ⟨m,rfl,rfl⟩
 ·obtain ⟨a,xs,rfl,h1,_⟩:=qA w1 r1 hl'
  refine ⟨a,rfl,.inl ⟨⟨xs,SqL.of h1⟩,k _ _ _ _ _ _ q1 k1 w1 ((VC r1 hl').mono fun M hM=>?_)⟩⟩
  rcases kE hM with z | ⟨m,rfl,rfl⟩
  ·exact z
  ·cases hl'
 ·obtain ⟨a,xs,rfl,h1,_⟩:=jR (l:=m.map .d) r1 rfl
  exact ⟨a,rfl,.inr ⟨⟨xs,SqT.of h1⟩,k _ _ _ _ _ _ q1 k1 w1 ((B2 r1 rfl).mono fun _ _=>trivial)⟩⟩⟩
noncomputable def wY (lo c:Int)(n:Nat):List AV:=(b8 n).map fun (k:Nat)=>.d (.int (lo+(k:Int) * c))
theorem jg (lo c:Int)(n:Nat):(wY lo c n).length=n:=by simp [wY]
variable {y:AV}
theorem jw {lo c:Int} (h:(wY lo c n)[i]?=some y):i<n/\y=.d (.int (lo+(i:Int) * c)):=by
 have hi:=(aG.mp h).1
 rw [jg] at hi
 unfold wY at h
 rw [aK,gN hi] at h
 cases h
 exact ⟨hi,rfl⟩
theorem DJ (lo:Int)(n:Nat):yL (Itr lo n) H O M (wY lo 1 n) (fun _=>True):=by
 intro H' O' M' fix mst w' hG i
 refine ⟨fun e=>by rw [jg] at e;exact mB e.symm,fun y hy=>?_⟩
 obtain ⟨hi,rfl⟩:=jw hy
 refine ⟨hi,fun z H'' hz=>?_⟩
 obtain ⟨rfl,rfl⟩:=hz
 rw [ie]
 exact ⟨.refl,w',.int⟩
noncomputable def Mf (a:AA):AI:=fun ρ M R=>a ρ M fun xs M1=>∃ j:Int,xs=[.d (.int j)]/\-(2 ^ 62)<=j/\j<2 ^ 62/\R (wY 0 1 j.toNat) (fun _=>True) M1
theorem EU {t:TA}{a:AA}(h:jo t a):Jr (Wu t) (Mf a):=⟨fun w e q k=>h.go w e q fun x M1 v H1 O1 ⟨j,e1,j1,j2,q1⟩ k1 w1 r1=>by
 subst e1
 obtain ⟨v1,r',rfl,a1,r2⟩:=r1.cons_inv
 rw [r2.nil_inv,zX a1]
 exact ⟨j,rfl,j1,j2,k _ _ _ _ _ _ q1 k1 w1 (DJ _ _)⟩⟩
noncomputable def wW (m:List Dat):List AV:=(b8 m.length).map fun (i:Nat)=>.d (.tup [.int (i:Int),m.getD i .non])
theorem j4 (m:List Dat):(wW m).length=m.length:=by simp [wW]
theorem kJ {m:List Dat} (h:(wW m)[i]?=some y):∃ d,m[i]?=some d/\y=.d (.tup [.int (i:Int),d]):=by
 have hi:=(aG.mp h).1
 rw [j4] at hi
 unfold wW at h
 rw [aK,gN hi] at h
 cases h
 exact ⟨m[i],au hi,by dsimp only;rw [aD,au hi];rfl⟩
theorem yE (w:Wf H O M) (hp:H p=none){x y:V}{d e:Dat}(r1:Rep H O x d)(r2:Rep H O y e):Ext H O M (upd H p (.tup [x,y])) O M/\Wf (upd H p (.tup [x,y])) O M/\zt (upd H p (.tup [x,y])) O M (.ref p) (.d (.tup [d,e])):=
 ⟨jj w hp _,yc w hp _,Rep.tup (w.fresh hp).1 zl rfl fun i z f h1 h2=>by
  match i,h1,h2 with
  | 0,h1,h2=>cases h1;cases h2;exact r1.ext (jj w hp _)
  | 1,h1,h2=>cases h1;cases h2;exact r2.ext (jj w hp _)
  | (i+2),h1,_=>cases h1⟩
theorem Ve {x:AV}{m:List Dat}(r:zt H O M (.ref a) x)(h:qv x M=some (m.map .d)):yL (Ite K a) H O M (wW m) (fun M'=>qv x M'=some (m.map .d)):=by
 intro H' O' M' fix mst w' hG i
 obtain ⟨a',xs,e,h1,r1⟩:=qA w' (r.imp fix mst) hG
 cases e
 have l1:=r1.1
 rw [aw] at l1
 refine ⟨fun e=>⟨xs,SqL.of h1,by rw [j4] at e;omega⟩,fun y hy=>?_⟩
 obtain ⟨d,hd,rfl⟩:=kJ hy
 obtain ⟨v,hv,rv⟩:=r1.get (i:=i) (d:=.d d) (by rw [aK,hd];rfl)
 refine ⟨⟨xs,v,SqL.of h1,hv⟩,fun z H'' hz=>?_⟩
 obtain ⟨p,x',hp,rfl,e2,rfl⟩:=hz
 have:=e2 xs (SqL.of h1)
 rw [hv] at this;cases this
 exact yE w' hp .int rv
theorem KQ {m:List Dat}(r:zt H O M (.ref a) (.d (.tup m))):yL (IW K a) H O M (wW m) (fun _=>True):=by
 intro H' O' M' fix mst w' hG i
 obtain ⟨a',xs,e,h1,r1⟩:=jR (l:=m.map .d) (r.imp fix mst) rfl
 cases e
 have l1:=r1.1
 rw [aw] at l1
 refine ⟨fun e=>⟨xs,SqT.of h1,by rw [j4] at e;omega⟩,fun y hy=>?_⟩
 obtain ⟨d,hd,rfl⟩:=kJ hy
 obtain ⟨v,hv,rv⟩:=r1.get (i:=i) (d:=.d d) (by rw [aK,hd];rfl)
 refine ⟨⟨xs,v,SqT.of h1,hv⟩,fun z H'' hz=>?_⟩
 obtain ⟨p,x',hp,rfl,e2,rfl⟩:=hz
 have:=e2 xs (SqT.of h1)
 rw [hv] at this;cases this
 exact yE w' hp .int rv
noncomputable def aiE (a:AA):AI:=fun ρ M R=>a ρ M fun xs M1=>∃ x l m,xs=[x]/\qF x M1=some l/\pur l=some m/\R (wW m) (fun M'=>qF x M'=some l) M1
variable {l':List AV}
theorem Kv {x:AV} (h:qv x M=some l)(h':qF x M'=some l'):qv x M'=some l':=by
 rcases kE h' with z | ⟨m,rfl,rfl⟩
 ·exact z
 ·cases h
theorem Iw {t:TA}{a:AA}(h:jo t a):Jr (Qg K t) (aiE a):=⟨fun w e q k=>h.go w e q fun xs M1 v H1 O1 ⟨x,l,m,e1,hl,hm,q1⟩ k1 w1 r1=>by
 subst e1
 obtain ⟨v1,r',rfl,a1,r2⟩:=r1.cons_inv
 rw [r2.nil_inv]
 rw [ky hm] at hl q1
 rcases kE hl with hl' | ⟨m',rfl,e2⟩
 ·obtain ⟨a,xs,rfl,h1,_⟩:=qA w1 a1 hl'
  exact ⟨a,rfl,.inl ⟨⟨xs,SqL.of h1⟩,k _ _ _ _ _ _ q1 k1 w1 ((Ve a1 hl').mono fun M hM=>Kv hl' hM)⟩⟩
 ·obtain rfl:m=m':=by have:=congrArg pur e2;rw [zT,zT] at this;cases this;rfl
  obtain ⟨a,xs,rfl,h1,_⟩:=jR (l:=m.map .d) a1 rfl
  exact ⟨a,rfl,.inr ⟨⟨xs,SqT.of h1⟩,k _ _ _ _ _ _ q1 k1 w1 ((KQ a1).mono fun _ _=>trivial)⟩⟩⟩
noncomputable def Qs (m n:List Dat):List AV:=(b8 (min m.length n.length)).map fun (i:Nat)=>.d (.tup [m.getD i .non,n.getD i .non])
theorem xm (m n:List Dat):(Qs m n).length=min m.length n.length:=by simp [Qs]
theorem wz {m n:List Dat} (h:(Qs m n)[i]?=some y):∃ d e,m[i]?=some d/\n[i]?=some e/\y=.d (.tup [d,e]):=by
 have hi:=(aG.mp h).1
 rw [xm] at hi
 unfold Qs at h
 rw [aK,gN hi] at h
 cases h
 have h1:i<m.length:=by omega
 have h2:i<n.length:=by omega
 exact ⟨m[i],n[i],au h1,au h2,by dsimp only;rw [aD,au h1,aD,au h2];rfl⟩
theorem BL {x y:AV}{m n:List Dat}(r:zt H O M (.ref a) x)(h:qv x M=some (m.map .d))(r':zt H O M (.ref b) y)(h':qv y M=some (n.map .d)):yL (Itz K a b) H O M (Qs m n) (fun M'=>qv x M'=some (m.map .d)/\qv y M'=some (n.map .d)):=by
 intro H' O' M' fix mst w' hG i
 obtain ⟨a',xs,e,h1,r1⟩:=qA w' (r.imp fix mst) hG.1
 cases e
 obtain ⟨b',ys,e,h2,r2⟩:=qA w' (r'.imp fix mst) hG.2
 cases e
 have l1:=r1.1
 have l2:=r2.1
 rw [aw] at l1 l2
 refine ⟨fun e=>⟨xs,ys,SqL.of h1,SqL.of h2,by rw [xm] at e;omega⟩,fun z hz=>?_⟩
 obtain ⟨d,f,hd,hf,rfl⟩:=wz hz
 obtain ⟨v,hv,rv⟩:=r1.get (i:=i) (d:=.d d) (by rw [aK,hd];rfl)
 obtain ⟨u,hu,ru⟩:=r2.get (i:=i) (d:=.d f) (by rw [aK,hf];rfl)
 refine ⟨⟨xs,ys,v,u,SqL.of h1,SqL.of h2,hv,hu⟩,fun z H'' hz=>?_⟩
 obtain ⟨p,x',y',hp,rfl,e2,e3,rfl⟩:=hz
 have:=e2 xs (SqL.of h1)
 rw [hv] at this;cases this
 have:=e3 ys (SqL.of h2)
 rw [hu] at this;cases this
 exact yE w' hp rv ru
theorem Y5 {m n:List Dat}(hmn:m.length<=n.length)(r:zt H O M (.ref a) (.d (.tup m)))(r':zt H O M (.ref b) (.d (.tup n))):yL (Hq K a b) H O M (Qs m n) (fun _=>True):=by
 intro H' O' M' fix mst w' hG i
 obtain ⟨a',xs,e,h1,r1⟩:=jR (l:=m.map .d) (r.imp fix mst) rfl
 cases e
 obtain ⟨b',ys,e,h2,r2⟩:=jR (l:=n.map .d) (r'.imp fix mst) rfl
 cases e
 have l1:=r1.1
 have l2:=r2.1
 rw [aw] at l1 l2
 refine ⟨fun e=>⟨xs,SqT.of h1,by rw [xm] at e;omega⟩,fun z hz=>?_⟩
 obtain ⟨d,f,hd,hf,rfl⟩:=wz hz
 obtain ⟨v,hv,rv⟩:=r1.get (i:=i) (d:=.d d) (by rw [aK,hd];rfl)
 obtain ⟨u,hu,ru⟩:=r2.get (i:=i) (d:=.d f) (by rw [aK,hf];rfl)
 refine ⟨⟨xs,ys,v,u,SqT.of h1,SqT.of h2,hv,hu⟩,fun z H'' hz=>?_⟩
 obtain ⟨p,x',y',hp,rfl,e2,e3,rfl⟩:=hz
 have:=e2 xs (SqT.of h1)
 rw [hv] at this;cases this
 have:=e3 ys (SqT.of h2)
 rw [hu] at this;cases this
 exact yE w' hp rv ru
noncomputable def Ms (a:AA):AI:=fun ρ M R=>a ρ M fun xs M1=>∃ x y m n,xs=[x,y]/\((qv x M1=some (cC AV.d m)/\qv y M1=some (cC AV.d n)) \/ (x=.d (.tup m)/\y=.d (.tup n)/\m.length<=n.length))/\R (Qs m n) (fun M'=>qv x M'=qv x M1/\qv y M'=qv y M1) M1
theorem EJ {t:TA}{a:AA}(h:jo t a):Jr (KO K t) (Ms a):=⟨fun w e q k=>h.go w e q fun xs M1 v H1 O1 ⟨x,y,m,n,e1,hxy,q1⟩ k1 w1 r1=>by
 subst e1
 obtain ⟨v1,r',rfl,a1,r2⟩:=r1.cons_inv
 obtain ⟨v2,r',rfl,a2,r3⟩:=r2.cons_inv
 rw [r3.nil_inv]
 rcases hxy with ⟨hx,hy⟩ | ⟨rfl,rfl,hmn⟩
 ·obtain ⟨a,xs,rfl,h1,_⟩:=qA w1 a1 hx
  obtain ⟨b,ys,rfl,h2,_⟩:=qA w1 a2 hy
  exact ⟨a,b,rfl,.inl ⟨⟨xs,SqL.of h1⟩,⟨ys,SqL.of h2⟩,k _ _ _ _ _ _ q1 k1 w1 ((BL a1 hx a2 hy).mono fun _ z=>⟨z.1.trans hx,z.2.trans hy⟩)⟩⟩
 ·obtain ⟨a,xs,rfl,h1,_⟩:=jR (l:=m.map .d) a1 rfl
  obtain ⟨b,ys,rfl,h2,_⟩:=jR (l:=n.map .d) a2 rfl
  exact ⟨a,b,rfl,.inr ⟨⟨xs,SqT.of h1⟩,⟨ys,SqT.of h2⟩,k _ _ _ _ _ _ q1 k1 w1 ((Y5 hmn a1 a2).mono fun _ _=>trivial)⟩⟩⟩
structure vy (D:ay)(H:Hp)(O:Own)(M:MH)(H':Hp)(O':Own)(M':MH):Prop where
 fix:∀ a o,¬ O a->H a=some o->H' a=some o/\¬ O' a
 prv:∀ a,a ≠ D->O a->M a=none->H' a=H a/\O' a/\M' a=none
 mst:∀ a,M a ≠ none->M' a ≠ none
theorem Ext.x {D:ay} (k:Ext H O M H' O' M'):vy D H O M H' O' M':=⟨k.fix,fun a _=>k.prv a,k.mst⟩
theorem vy.trans {D:ay} {M M1 M2:MH}(a:vy D H O M H1 O1 M1)(b:vy D H1 O1 M1 H2 O2 M2):vy D H O M H2 O2 M2:=
 ⟨fun x o h e=>let ⟨e1,h1⟩:=a.fix x o h e;b.fix x o h1 e1,fun x hx h e=>by
  obtain ⟨e1,h1,n1⟩:=a.prv x hx h e
  obtain ⟨e2,h2,n2⟩:=b.prv x hx h1 n1
  exact ⟨e2.trans e1,h2,n2⟩,fun x h=>b.mst x (a.mst x h)⟩
theorem vy.set {D:ay} (hO:O D)(o:HO):vy D H O M (upd H D o) O M:=⟨vS hO o,fun a ha h e=>⟨zj ha,h,e⟩,fun _ h=>h⟩
theorem Er.imp (e:Er H O M σ ρ)(k:∀ a o,¬ O a->H a=some o->H' a=some o/\¬ O' a)(hm:∀ a,M a ≠ none->M' a ≠ none):Er H' O' M' σ ρ:=⟨e.len,fun i x h=>let ⟨v,h1,h2⟩:=e.get i x h;⟨v,h1,h2.imp k hm⟩⟩
abbrev ATR:=List AV->ASt->MH->(List AV->ASt->MH->Prop)->Prop
structure XG (D:ay)(tr:TR)(a:ATR):Prop where
 go:∀ {σ:St} {H:Hp} {O:Own} {ρ:ASt} {M:MH} {acc:List AV} {ys:List V} {N:St->Hp->Prop} {N':List AV->ASt->MH->Prop},Wf H O M->Er H O M σ ρ->O D->M D=none->H D=some (.lst ys)->zk H O M ys acc->a acc ρ M N' ->
  (∀ acc' ρ' M' σ' H' O' ys',N' acc' ρ' M'->vy D H O M H' O' M'->Wf H' O' M'->Er H' O' M' σ' ρ'->O' D->M' D=none->H' D=some (.lst ys')->zk H' O' M' ys' acc'->N σ' H')->tr σ H N
noncomputable def yz (a:AE):ATR:=fun acc ρ M N=>a ρ M fun x M1=>acc.length<aQ/\N (acc ++ [x]) ρ M1
theorem Jj {D:ay}{t:TE}{a:AE}(h:zK t a):XG D (K9 t D) (yz a):=⟨fun {σ H O ρ M acc ys N N'} w e o m hd r q k=>h.go w e q fun x M1 v H1 O1 ⟨q0,q1⟩ k1 w1 r1=>by
 obtain ⟨e1,o1,m1⟩:=k1.prv D o m
 have r':=r.ext k1
 refine ⟨ys,e1.trans hd,by rw [r.1];exact q0,k _ _ _ _ _ _ (ys ++ [v]) q1 (k1.x.trans (vy.set o1 _)) (JY w1 o1 m1 (e1.trans hd) _ (fun _ z=>nomatch z)) ((e.ext k1).imp (vS o1 _) (fun _ z=>z)) o1 m1 zl ((r'.snoc r1).imp (vS o1 _) (fun _ z=>z))⟩⟩
def QU (ag:AG)(at_:AT)(tr:ATR)(G:MH->Prop)(N:List AV->ASt->MH->Prop)(l acc:List AV)(ρ:ASt)(M:MH):Prop:=
 ∃ Pv:Nat->List AV->ASt->MH->Prop,Pv 0 acc ρ M/\(∀ i x acc ρ M,l[i]?=some x->Pv i acc ρ M->G M/\ag x ρ M fun ρ2 M2=>at_ ρ2 M2 fun b M3=>if b=true then tr acc ρ2 M3 (Pv (i+1)) else Pv (i+1) acc ρ2 M3)/\∀ acc ρ M,Pv l.length acc ρ M->G M/\N acc ρ M
variable {at_:AT} {atr:ATR} {G:MH->Prop}
theorem Hl {D:ay} {tr:TR} (hg:vB g ag)(ht:xp tt at_)(hr:XG D tr atr) {M1:MH} (hj:yL J H1 O1 M1 l G){N':List AV->ASt->MH->Prop}{N:St->Hp->Prop}
 {acc:List AV} (w:Wf H1 O1 M1) (e:Er H1 O1 M1 σ ρ) (o:O1 D) (m:M1 D=none) (hd:H1 D=some (.lst ys)) (r:zk H1 O1 M1 ys acc) (q:QU ag at_ atr G N' l acc ρ M1)
  (k:∀ acc' ρ' M' σ' H' O' ys',N' acc' ρ' M'->vy D H1 O1 M1 H' O' M'->Wf H' O' M'->Er H' O' M' σ' ρ'->O' D->M' D=none->H' D=some (.lst ys')->zk H' O' M' ys' acc'->N σ' H'):CL J g tt tr N σ H1:=by
 obtain ⟨Pv,p0,ps,pd⟩:=q
 refine ⟨fun i n σ H=>n=l.length - i/\i<=l.length/\∃ O ρ M acc ys,Wf H O M/\Er H O M σ ρ/\vy D H1 O1 M1 H O M/\O D/\M D=none/\H D=some (.lst ys)/\zk H O M ys acc/\Pv i acc ρ M,
  ⟨l.length,by simp,cV _,O1,ρ,M1,acc,ys,w,e,Ext.refl.x,o,m,hd,r,p0⟩,?_⟩
 rintro i n σ H ⟨rfl,hi,O,ρ,M,acc,ys,w,e,x,o,m,hd,r,hf⟩
 by_cases hil:i<l.length
 ·have hy:l[i]?=some l[i]:=au hil
  obtain ⟨hG,q2⟩:=ps i l[i] acc ρ M hy hf
  obtain ⟨j1,j2⟩:=(hj H O M x.fix x.mst w hG i).2 l[i] hy
  refine .inr ⟨j1,fun σ' H'=>∃ O ρ M acc ys,Wf H' O M/\Er H' O M σ' ρ/\vy D H1 O1 M1 H' O M/\O D/\M D=none/\H' D=some (.lst ys)/\zk H' O M ys acc/\Pv (i+1) acc ρ M,fun σ' H' z=>⟨l.length - (i+1),by omega,rfl,hil,z⟩,fun v H' hv=>?_⟩
  obtain ⟨k2,w2,r2⟩:=j2 v H' hv
  refine hg.go w2 (e.ext k2) r2 q2 fun σ3 H3 O3 ρ3 M3 q3 k3 w3 e3=>?_
  refine ht.go w3 e3 q3 fun b M4 H4 O4 q4 k4 w4=>?_
  have k24:=(k2.trans k3).trans k4
  obtain ⟨d4,o4,m4⟩:=k24.prv D o m
  have r4:=r.ext k24
  cases b with
  | true=>
   exact hr.go w4 (e3.ext k4) o4 m4 (d4.trans hd) r4 q4 fun acc' ρ' M' σ' H' O' ys' q5 k5 w5 e5 o5 m5 d5 r5=>⟨O',ρ',M',acc',ys',w5,e5,(x.trans k24.x).trans k5,o5,m5,d5,r5,q5⟩
  | false=>
   exact ⟨O4,ρ3,M4,acc,ys,w4,e3.ext k4,x.trans k24.x,o4,m4,d4.trans hd,r4,q4⟩
 ·have e0:i=l.length:=by omega
  subst e0
  obtain ⟨hG,q2⟩:=pd acc ρ M hf
  exact .inl ⟨(hj H O M x.fix x.mst w hG l.length).1 rfl,k _ _ _ _ _ _ _ q2 x w e o m hd r⟩
noncomputable def BS (ts:List Nat)(ai:AI)(ag:AG)(at_:AT)(atr:ATR):AF:=fun ρ M Q=>ai ρ M fun l G M1=>QU ag at_ atr G (fun acc _ M'=>Q acc M') l [] (Gh ts ρ) M1
theorem KW {tr:ay->TR} (hi:Jr wi ai)(hg:vB g ag)(ht:xp tt at_)(hr:∀ D,XG D (tr D) atr):JT (By ts wi g tt tr) (BS ts ai ag at_ atr):=⟨fun {σ H O ρ M Q Q'} w e q k=>by
 refine hi.go w e q fun l G M1 J H1 O1 q1 k1 w1 hj D hD=>?_
 have kp:=qP w1 hD (.lst [])
 have hj':yL J (upd H1 D (.lst [])) (yf O1 D) M1 l G:=fun H' O' M' fix mst w' hG=>hj H' O' M' (fun a o ha ho=>fix a o (kp.fix a o ha ho).2 (kp.fix a o ha ho).1) mst w' hG
 refine Hl hg ht (hr D) hj' (kM w1 hD _ (fun _ z=>nomatch z)) (((e.ext k1).clr ts).ext kp) (.inl rfl) (w1.fresh hD).2 zl .nil q1 fun acc' ρ' M' σ' H' O' ys' q5 k5 w5 e5 o5 m5 d5 r5=>?_
 have hH:=yq w1 k1 hD
 refine k _ _ _ _ _ _ q5 ⟨fun a o ha ho=>?_,fun a ha hm=>?_,fun a hm=>k5.mst a (k1.mst a hm)⟩ w5 o5 m5 hH d5 r5
 ·obtain ⟨x1,x2⟩:=(k1.trans kp).fix a o ha ho
  exact k5.fix a o x2 x1
 ·obtain ⟨x1,x2,x3⟩:=(k1.trans kp).prv a ha hm
  obtain ⟨y1,y2,y3⟩:=k5.prv a (fun z=>w.ne a ha (by rw [z];exact hH)) x2 x3
  exact ⟨y1.trans x1,y2,y3⟩⟩
variable {ae:AE}
theorem Vf (hi:Jr wi ai)(hg:vB g ag)(ht:xp tt at_)(he:zK te ae):JT (JU ts wi g tt te) (BS ts ai ag at_ (yz ae)):=
 ⟨fun w e q k=>(KW (ts:=ts) (tr:=K9 te) hi hg ht fun D=>Jj he).go w e q k⟩
noncomputable def aI0 (g:Int->Int->Dat):AR2:=fun x y M Q=>∃ i j,x=.d (.int i)/\y=.d (.int j)/\Q (.d (g i j)) M
theorem EF {f:Int->Int->Int}:vz (rI0 fun i j=>.int (f i j)) (aI0 fun i j=>.int (f i j)):=⟨fun w r1 r2 ⟨i,j,e1,e2,q⟩ k=>by
 subst e1 e2;exact ⟨i,j,zX r1,zX r2,k _ _ _ _ _ q .refl w .int⟩⟩
theorem DY {f:Int->Int->Bool}:vz (rI0 fun i j=>.bl (f i j)) (aI0 fun i j=>.bl (f i j)):=⟨fun w r1 r2 ⟨i,j,e1,e2,q⟩ k=>by
 subst e1 e2;exact ⟨i,j,zX r1,zX r2,k _ _ _ _ _ q .refl w .bl⟩⟩
theorem ER {f:Int->Int->Int}:GR (ipI f) (aI0 fun i j=>.int (f i j)):=⟨fun w r1 r2 ⟨i,j,e1,e2,q⟩ k=>by
 subst e1 e2;exact ⟨i,j,zX r1,zX r2,k _ _ _ _ _ q .refl w .int⟩⟩
noncomputable def aU (g:Int->Dat):AV->MH->AK->Prop:=fun x M Q=>∃ i,x=.d (.int i)/\Q (.d (g i)) M
theorem HE {f:Int->Int}:MW (rU fun i=>.int (f i)) (aU fun i=>.int (f i)):=⟨fun w r1 ⟨i,e1,q⟩ k=>by
 subst e1;exact ⟨i,zX r1,k _ _ _ _ _ q .refl w .int⟩⟩
noncomputable def eqS:Dat->Dat->Option Bool
 | .non,.non=>some true | .non,.int _=>some false | .int _,.non=>some false | .non,.bl _=>some false | .bl _,.non=>some false | .non,.str _=>some false | .str _,.non=>some false
 | .int i,.int j=>some (decide (i=j)) | .bl a,.bl b=>some (decide (a=b)) | .str a,.str b=>some (decide (a=b))
 | .int _,.str _=>some false | .str _,.int _=>some false | .bl _,.str _=>some false | .str _,.bl _=>some false
 | _,_=>none
noncomputable def j7:AV->Bool
 | .d .non=>true
 | _=>false
theorem JV {H:Hp}{O:Own}{M:MH}{v:V}{x:AV}(r:zt H O M v x):decide (v=V.non)=j7 x:=by
 cases x with
 | ref a=>rw [r.1];rfl
 | tp l=>obtain ⟨_,_,e,_⟩:=r;rw [e];rfl
 | d x=>cases (show Rep H O v x from r) <;> rfl
noncomputable def Y7 (f:Bool->Bool):AR2:=fun x y M Q=>y=.d .non/\Q (.d (.bl (f (j7 x)))) M
theorem FG:vz (fun x y H Q=>y=V.non/\Q (V.bl (decide (x=V.non))) H) (Y7 id):=⟨fun w r1 r2 ⟨e,q⟩ k=>by
 subst e;exact ⟨vZ r2,by rw [JV r1];exact k _ _ _ _ _ q .refl w .bl⟩⟩
theorem Dh:vz (fun x y H Q=>y=V.non/\Q (V.bl (!decide (x=V.non))) H) (Y7 not):=⟨fun w r1 r2 ⟨e,q⟩ k=>by
 subst e;exact ⟨vZ r2,by rw [JV r1];exact k _ _ _ _ _ q .refl w .bl⟩⟩
theorem Yv {H:Hp}{O:Own}{M:MH}{xs:List V}{l:List AV}(r:zk H O M xs l){i:Int}{x:AV}(h:atI l i=some x):∃ v,atI xs i=some v/\zt H O M v x:=by
 unfold atI at h ⊢
 rw [r.1]
 cases e:ixN l.length i with
 | none=>rw [e] at h;cases h
 | some j=>rw [e] at h;exact r.get h
noncomputable def aIx (s:AV->MH->Option (List AV)):AR2:=fun x y M Q=>∃ l i z,s x M=some l/\y=.d (.int i)/\atI l i=some z/\Q z M
theorem FY:vz (Gf K) (aIx qv):=⟨fun w r1 r2 ⟨l,i,z,h,e,hz,q⟩ k=>by
 subst e
 obtain ⟨a,xs,rfl,h1,r⟩:=qA w r1 h
 obtain ⟨v,hv,rv⟩:=Yv r hz
 exact ⟨a,xs,i,v,rfl,zX r2,SqL.of h1,hv,k _ _ _ _ _ q .refl w rv⟩⟩
theorem Ao:vz (Yt K) (aIx qF):=⟨fun w r1 r2 ⟨l,i,z,h,e,hz,q⟩ k=>by
 subst e
 obtain ⟨a,xs,rfl,h1,r⟩:=QF w r1 h
 obtain ⟨v,hv,rv⟩:=Yv r hz
 exact ⟨a,xs,i,v,rfl,zX r2,h1.elim (fun h=>.inl (SqL.of h)) (fun h=>.inr (SqT.of h)),hv,k _ _ _ _ _ q .refl w rv⟩⟩
structure DI (r:R2)(a:AV->AV->MH->(List AV->Prop)->Prop):Prop where
 go:∀ {x y:V} {dx dy:AV} {H:Hp} {O:Own} {M:MH} {Q:VK} {Q':List AV->Prop},Wf H O M->zt H O M x dx->zt H O M y dy->a dx dy M Q'->(∀ l ys,Q' l->zk H O M ys l->∀ p,H p=none->Q (.ref p) (upd H p (.lst ys)))->r x y H Q
noncomputable def fOp (r:AV->AV->MH->(List AV->Prop)->Prop)(a b:AE):AF:=fun ρ M Q=>a ρ M fun x M1=>b ρ M1 fun y M2=>r x y M2 fun l=>Q l M2
theorem Qt {ra:AV->AV->MH->(List AV->Prop)->Prop}{t u:TE}{a b:AE}(hr:DI r ra)(h1:zK t a)(h2:zK u b):JT (tOp r t u) (fOp ra a b):=
 ⟨fun w e q k=>h1.go w e q fun x M1 v H1 O1 q1 k1 w1 r1=>h2.go w1 (e.ext k1) q1 fun y M2 u H2 O2 q2 k2 w2 r2=>hr.go w2 (r1.ext k2) r2 q2 fun l ys q3 r3 p hp=>
  k l M2 p ys _ _ q3 ((k1.trans k2).trans (qP w2 hp _)) (kM w2 hp _ (fun _ z=>nomatch z)) (.inl rfl) (w2.fresh hp).2 (yq w2 (k1.trans k2) hp) zl (r3.ext (qP w2 hp _))⟩
noncomputable def Hz:AV->AV->MH->(List AV->Prop)->Prop:=fun x y M Q=>∃ l m,qv x M=some l/\qv y M=some m/\l.length+m.length<=aQ/\Q (l ++ m)
theorem JS:DI EM Hz:=⟨fun w r1 r2 ⟨l,m,h1,h2,hs,q⟩ k=>by
 obtain ⟨a,xs,rfl,e1,p1⟩:=qA w r1 h1
 obtain ⟨b,ys,rfl,e2,p2⟩:=qA w r2 h2
 exact ⟨a,b,xs,ys,rfl,rfl,e1,e2,by rw [p1.1,p2.1];exact hs,k _ _ q (p1.append p2)⟩⟩
theorem zk.rep {H:Hp}{O:Own}{M:MH}{xs:List V}{l:List AV}(a:zk H O M xs l):∀ k:Nat,zk H O M (aH k xs).flatten (aH k l).flatten
 | 0=>.nil
 | k+1=>by rw [dh,dh,ej,ej];exact a.append (zk.rep a k)
noncomputable def IN:AV->AV->MH->(List AV->Prop)->Prop:=fun x y M Q=>∃ l k,qv x M=some l/\y=.d (.int k)/\-(2 ^ 63)<=k/\k<2 ^ 63/\l.length * k.toNat<=aQ/\Q (aH k.toNat l).flatten
theorem QI:DI Fw IN:=⟨fun w r1 r2 ⟨l,n,h1,e,b1,b2,hs,q⟩ k=>by
 subst e
 obtain ⟨a,xs,rfl,e1,p1⟩:=qA w r1 h1
 exact ⟨a,n,xs,rfl,zX r2,e1,b1,b2,by rw [p1.1];exact hs,k _ _ q (p1.rep _)⟩⟩
abbrev AO:=ASt->MH->(Option Int->MH->Prop)->Prop
structure VZ (t:TO)(a:AO):Prop where
 go:∀ {σ:St} {H:Hp} {O:Own} {ρ:ASt} {M:MH} {Q:Option Int->Hp->Prop} {Q':Option Int->MH->Prop},Wf H O M->Er H O M σ ρ->a ρ M Q'->(∀ x M' H' O',Q' x M'->Ext H O M H' O' M'->Wf H' O' M'->Q x H')->t σ H Q
noncomputable def Mg:AO:=fun _ M Q=>Q none M
noncomputable def Gu (a:AE):AO:=fun ρ M Q=>a ρ M fun x M1=>∃ i,x=.d (.int i)/\Q (some i) M1
theorem FT:VZ Z9 Mg:=⟨fun w _ q k=>k _ _ _ _ q .refl w⟩
theorem Ar {t:TE}{a:AE}(h:zK t a):VZ (B6 t) (Gu a):=⟨fun w e q k=>h.go w e q fun x M1 v H1 O1 ⟨i,e1,q1⟩ k1 w1 r1=>by
 subst e1;exact ⟨i,zX r1,k _ _ _ _ q1 k1 w1⟩⟩
noncomputable def xb {α:Type}(xs:List α)(lo hi:Option Int):List α:=(xs.drop (HT.sIx xs.length 0 lo)).take (HT.sIx xs.length xs.length hi - HT.sIx xs.length 0 lo)
theorem zk.cut (a:zk H O M xs l)(lo hi:Option Int):zk H O M (Zc xs lo hi) (xb l lo hi):=by
 unfold Zc xb
 rw [a.1]
 exact (a.drop _).take _
theorem yr {α β:Type}(f:α->β)(l:List α)(lo hi:Option Int):xb (l.map f) lo hi=(xb l lo hi).map f:=by
 unfold xb
 rw [aw,<- List.map_drop,<- List.map_take]
noncomputable def fSl (a:AE)(lo hi:AO):AF:=fun ρ M Q=>a ρ M fun x M1=>lo ρ M1 fun i M2=>hi ρ M2 fun j M3=>∃ l,qv x M3=some l/\Q (xb l i j) M3
variable {tl th:TO} {lo hi:AO}
theorem FO {t:TE} {a:AE} (h1:zK t a)(h2:VZ tl lo)(h3:VZ th hi):JT (tSl (Lp K) t tl th) (fSl a lo hi):=
 ⟨fun w e q k=>h1.go w e q fun x M1 v H1 O1 q1 k1 w1 r1=>h2.go w1 (e.ext k1) q1 fun i M2 H2 O2 q2 k2 w2=>h3.go w2 (e.ext (k1.trans k2)) q2 fun j M3 H3 O3 ⟨l,hl,q3⟩ k3 w3=>by
  obtain ⟨a,xs,rfl,e1,p1⟩:=qA w3 (r1.ext (k2.trans k3)) hl
  exact ⟨a,xs,rfl,SqL.of e1,fun p hp=>k _ _ p _ _ _ q3 (((k1.trans k2).trans k3).trans (qP w3 hp _)) (kM w3 hp _ (fun _ z=>nomatch z)) (.inl rfl) (w3.fresh hp).2 (yq w3 ((k1.trans k2).trans k3) hp) zl ((p1.cut i j).ext (qP w3 hp _))⟩⟩
theorem XH (w:Wf H O M) (hp:H p=none) {l:List Dat}(r:zk H O M xs (l.map .d)):zt (upd H p (.tup xs)) O M (.ref p) (.d (.tup l)):=
 have r2:=r.pure
 Rep.tup (w.fresh hp).1 zl r2.1 fun i x d e1 e2=>(r2.2 i x d e1 e2).ext (jj w hp _)
noncomputable def Mj (a:AE)(lo hi:AO):AE:=fun ρ M Q=>a ρ M fun x M1=>lo ρ M1 fun i M2=>hi ρ M2 fun j M3=>∃ l,x=.d (.tup l)/\¬ (HT.sIx l.length 0 i=0/\HT.sIx l.length l.length j=l.length)/\Q (.d (.tup (xb l i j))) M3
theorem Fp {t:TE} {a:AE} (h1:zK t a)(h2:VZ tl lo)(h3:VZ th hi):zK (tSl (MJ K) t tl th) (Mj a lo hi):=
 ⟨fun w e q k=>h1.go w e q fun x M1 v H1 O1 q1 k1 w1 r1=>h2.go w1 (e.ext k1) q1 fun i M2 H2 O2 q2 k2 w2=>h3.go w2 (e.ext (k1.trans k2)) q2 fun j M3 H3 O3 ⟨l,hl,hn,q3⟩ k3 w3=>by
  subst hl
  obtain ⟨a,xs,rfl,e1,p1⟩:=jR (l:=l.map .d) (r1.ext (k2.trans k3)) rfl
  have l1:=p1.1
  rw [aw] at l1
  refine ⟨a,xs,rfl,SqT.of e1,by rw [l1];exact hn,fun p hp=>?_⟩
  have p2:=p1.cut i j
  rw [yr] at p2
  exact k _ _ _ _ _ q3 (((k1.trans k2).trans k3).trans (jj w3 hp _)) (yc w3 hp _) (XH w3 hp p2)⟩
mutual
noncomputable def eqD:Dat->Dat->Bool
 | .non,.non=>true
 | .bl a,.bl b=>a == b
 | .bl a,.int b=>(if a then 1 else 0) == b
 | .int a,.bl b=>a == (if b then 1 else 0)
 | .int a,.int b=>a == b
 | .str a,.str b=>a == b
 | .lst a,.lst b=>vC a b
 | .tup a,.tup b=>vC a b
 | _,_=>false
noncomputable def vC:List Dat->List Dat->Bool
 | [],[]=>true
 | a :: r,b :: r'=>eqD a b && vC r r'
 | _,_=>false
end
mutual
noncomputable def dp:Dat->Nat
 | .lst l=>dps l+1
 | .tup l=>dps l+1
 | .rng _ _ _=>1000
 | .scr _ _=>1000
 | .ty _=>1000
 | _=>0
noncomputable def dps:List Dat->Nat
 | []=>0
 | a :: r=>max (dp a) (dps r)
end
theorem yN {l:List Dat}{n:Nat}(h:∀ d ∈ l,dp d<=n):dps l<=n:=by
 induction l with
 | nil=>exact cV _
 | cons a r ih=>rw [dps];exact ff.mpr ⟨h a (by simp),ih fun d hd=>h d (by simp [hd])⟩
theorem qH {l:List Dat}{d:Dat}(h:d ∈ l):dp d<=dps l:=by
 induction l with
 | nil=>cases h
 | cons a r ih=>
  rw [dps]
  rcases aF.mp h with rfl | h
  ·exact lp _ _
  ·exact bz (ih h) (iR _ _)
theorem xk:∀ (l m:List Dat),l.length=m.length->vC l m=(b8 l.length).all fun j=>eqD (l.getD j .non) (m.getD j .non)
 | [],[],_=>rfl
 | a :: r,b :: r',h=>by
  rw [vC,xk r r' (by simpa using h),ba,List.range_succ_eq_map,dW,mM];rfl
 | [],_ :: _,h=>by simp at h
 | _ :: _,[],h=>by simp at h
theorem xB:∀ (l m:List Dat),l.length ≠ m.length->vC l m=false
 | [],[],h=>absurd rfl h
 | a :: r,b :: r',h=>by rw [vC,xB r r' (fun z=>h (by simp [z])),gb]
 | [],_ :: _,h=>by simp [vC]
 | _ :: _,[],h=>by simp [vC]
theorem WS (l m:List Dat):eqD (.lst l) (.tup m)=false:=by simp [eqD]
theorem DU (l m:List Dat):eqD (.tup l) (.lst m)=false:=by simp [eqD]
theorem Ga {p:Dat->Prop}(h:∀ a,(∀ b,dp b<dp a->p b)->p a)(a:Dat):p a:=by
 have:∀ n a,dp a<=n->p a:=fun n=>by
  induction n with
  | zero=>intro a ha;exact h a fun b hb=>absurd hb (by omega)
  | succ n ih=>intro a ha;exact h a fun b hb=>ih b (by omega)
 exact this (dp a) a (aM _)
theorem ZR {l:List Dat}(h:∀ d ∈ l,eqD d d=true):vC l l=true:=by
 induction l with
 | nil=>rfl
 | cons a r ih=>rw [vC,h a (by simp),ih fun d hd=>h d (by simp [hd])];rfl
theorem B5 {a:Dat}:dp a<1000->eqD a a=true:=by
 refine Ga (p:=fun a=>dp a<1000->eqD a a=true) (fun a ih ha=>?_) a
 cases a with
 | non=>rfl
 | bl b=>rw [eqD];simp
 | int i=>rw [eqD];simp
 | str x=>rw [eqD];simp
 | lst l=>
  rw [eqD]
  rw [dp] at ha ih
  exact ZR fun d hd=>ih d (by have:=qH hd;omega) (by have:=qH hd;omega)
 | tup l=>
  rw [eqD]
  rw [dp] at ha ih
  exact ZR fun d hd=>ih d (by have:=qH hd;omega) (by have:=qH hd;omega)
 | rng a b c=>rw [dp] at ha;omega
 | scr _ l=>rw [dp] at ha;omega
 | ty l=>rw [dp] at ha;omega
theorem Rep.fn {H:Hp}{O O':Own}{v:V}{a b:Dat}(r:Rep H O v a):Rep H O' v b->dp a<1000->dp b<1000->a=b:=by
 induction r generalizing b with
 | non=>intro r' _ _;cases r';rfl
 | bl=>intro r' _ _;cases r';rfl
 | int=>intro r' _ _;cases r';rfl
 | str=>intro r' _ _;cases r';rfl
 | ty=>intro r' h _;rw [dp] at h;omega
 | rng _ _=>intro r' h _;rw [dp] at h;omega
 | scr _ _=>intro r' h _;rw [dp] at h;omega
 | scrK _=>intro r' h _;rw [dp] at h;omega
 | @lst a xs l o1 h1 l1 r1 ih=>
  intro r' ha hb
  cases r' with
  | @lst _ ys m o2 h2 l2 r2=>
   rw [h1] at h2;cases h2
   congr 1
   refine gu (l1.symm.trans l2) fun i i1 i2=>?_
   have i0:i<xs.length:=by omega
   rw [dp] at ha hb
   refine ih i xs[i] l[i] (by simp [i0]) (by simp [i1]) (r2 i xs[i] m[i] (by simp [i0]) (by simp [i2])) ?_ ?_
   ·have:=qH (bv i1);omega
   ·have:=qH (bv i2);omega
  | @tup _ ys m o2 h2=>rw [h1] at h2;cases h2
  | rng o2 h2=>rw [dp] at hb;omega
  | scr o2 h2=>rw [dp] at hb;omega
  | scrK _=>rw [dp] at hb;omega
 | @tup a xs l o1 h1 l1 r1 ih=>
  intro r' ha hb
  cases r' with
  | @tup _ ys m o2 h2 l2 r2=>
   rw [h1] at h2;cases h2
   congr 1
   refine gu (l1.symm.trans l2) fun i i1 i2=>?_
   have i0:i<xs.length:=by omega
   rw [dp] at ha hb
   refine ih i xs[i] l[i] (by simp [i0]) (by simp [i1]) (r2 i xs[i] m[i] (by simp [i0]) (by simp [i2])) ?_ ?_
   ·have:=qH (bv i1);omega
   ·have:=qH (bv i2);omega
  | @lst _ ys m o2 h2=>rw [h1] at h2;cases h2
  | rng o2 h2=>rw [dp] at hb;omega
  | scr o2 h2=>rw [dp] at hb;omega
  | scrK _=>rw [dp] at hb;omega
section
variable {X:Cx}{pins:List (ay × Obj)}{s:az}{σ:St}{H:Hp}
theorem xi {us:List aj}(r:zJ xs us) (h:j<us.toArray.size):∃ x,xs[j]?=some x/\zG x us.toArray[j]:=by
 have h':j<us.length:=by simpa using h
 have hx:j<xs.length:=by rw [r.length];exact h'
 obtain ⟨u,hu,ru⟩:=r.get (i:=j) (au hx)
 have e:us.toArray[j]=u:=by
  have:=(aG.mp hu).2
  simpa using this
 exact ⟨xs[j],au hx,by rw [e];exact ru⟩
theorem BN (I : Inv X pins σ H s){A : bg}{p q : ay}{O O' : Own}{a b : Dat}(ih : ∀ (c d : Dat) (v u : V) (v' u' : aj), dp c < dp a -> Rep H O v c -> Rep H O' u d -> dp d < 1000 -> zG v v' -> zG u u' -> bF A.in1 s v' u' (eqD c d))
    (ra:Rep H O (.ref p) a) (rb:Rep H O' (.ref q) b) (ha:dp a<1000) (hb:dp b<1000) (hu:A.units<g0):gv A s (.ref p) (.ref q) (eqD a b):=by
  cases ra with
  | @lst _ xs l o1 h1 l1 r1=>
    obtain ⟨us,u1,p1,z1⟩:=I.list (SqL.of h1)
    cases rb with
    | @lst _ ys m o2 h2 l2 r2=>
      obtain ⟨ws,u2,p2,z2⟩:=I.list (SqL.of h2)
      have s1:us.toArray.size=l.length:=by rw [aJ,<- u1.length,l1]
      have s2:ws.toArray.size=m.length:=by rw [aJ,<- u2.length,l2]
      by_cases e:l.length=m.length
      · have h := gv.lists (A := A) (e := fun j => eqD (l.getD j .non) (m.getD j .non)) p1.isList p2.isList (by rw [s1, s2, e]) hu (fun j j1 j2 => by
          obtain ⟨x,hx,rx⟩:=xi u1 j1
          obtain ⟨y,hy,ry⟩:=xi u2 j2
          have k1:j<l.length:=by rw [<- s1];exact j1
          have k2:j<m.length:=by rw [<- s2];exact j2
          rw [dp] at ha hb ih
          refine ih _ _ x y _ _ ?_ (r1 j x _ hx ?_) (r2 j y _ hy ?_) ?_ rx ry
          · rw [aD,au k1]
            have:=qH (bv k1);show dp l[j]<_;omega
          · rw [aD,au k1];rfl
          · rw [aD,au k2];rfl
          · rw [aD,au k2]
            have:=qH (bv k2);show dp m[j]<_;omega)
        rw [s1,<- xk l m e] at h
        rw [eqD];exact h
      · rw [eqD,xB l m e]
        exact gv.lists_lengths p1.isList p2.isList (by rw [s1,s2];simpa using e) hu
    | @tup _ ys m o2 h2 l2 r2=>
      obtain ⟨ws,u2,p2,z2⟩:=I.tuple (SqT.of h2)
      rw [WS]
      exact gv.list_tuple p1.isList p2 hu
    | rng o2 h2=>rw [dp] at hb;omega
    | scr o2 h2=>rw [dp] at hb;omega
    | scrK _=>rw [dp] at hb;omega
  | @tup _ xs l o1 h1 l1 r1=>
    obtain ⟨us,u1,p1,z1⟩:=I.tuple (SqT.of h1)
    cases rb with
    | @tup _ ys m o2 h2 l2 r2=>
      obtain ⟨ws,u2,p2,z2⟩:=I.tuple (SqT.of h2)
      have s1:us.toArray.size=l.length:=by rw [aJ,<- u1.length,l1]
      have s2:ws.toArray.size=m.length:=by rw [aJ,<- u2.length,l2]
      have h := gv.tuples (A := A) (e := fun j => eqD (l.getD j .non) (m.getD j .non)) (show s.heap.IsTuple p us.toArray from p1) (show s.heap.IsTuple q ws.toArray from p2) hu (fun j j1 j2 => by
          obtain ⟨x,hx,rx⟩:=xi u1 j1
          obtain ⟨y,hy,ry⟩:=xi u2 j2
          have k1:j<l.length:=by rw [<- s1];exact j1
          have k2:j<m.length:=by rw [<- s2];exact j2
          rw [dp] at ha hb ih
          refine ih _ _ x y _ _ ?_ (r1 j x _ hx ?_) (r2 j y _ hy ?_) ?_ rx ry
          · rw [aD,au k1]
            have:=qH (bv k1);show dp l[j]<_;omega
          · rw [aD,au k1];rfl
          · rw [aD,au k2];rfl
          · rw [aD,au k2]
            have:=qH (bv k2);show dp m[j]<_;omega)
      rw [s1,s2] at h
      rw [eqD]
      by_cases e:l.length=m.length
      · rw [<- e,i7,beq_self_eq_true,Bool.and_true,<- xk l m e] at h
        exact h
      · rw [xB l m e]
        rw [show (l.length == m.length)=false by simpa using e,gb] at h
        exact h
    | @lst _ ys m o2 h2 l2 r2=>
      obtain ⟨ws,u2,p2,z2⟩:=I.list (SqL.of h2)
      rw [DU]
      exact gv.tuple_list p1 p2.isList hu
    | rng o2 h2=>rw [dp] at hb;omega
    | scr o2 h2=>rw [dp] at hb;omega
    | scrK _=>rw [dp] at hb;omega
  | rng o2 h2=>rw [dp] at ha;omega
  | scr o2 h2=>rw [dp] at ha;omega
  | scrK _=>rw [dp] at ha;omega
theorem Nc (I:Inv X pins σ H s) (h:H a=some (.lst xs)):∃ us,s.heap.IsList a us:=let ⟨_,_,p,_⟩:=I.list (SqL.of h);⟨_,p.isList⟩
theorem Na (I:Inv X pins σ H s) (h:H a=some (.tup xs)):∃ us,s.heap.IsTuple a us:=let ⟨_,_,p,_⟩:=I.tuple (SqT.of h);⟨_,p⟩
local macro_rules | `(tactic| walk_at "sc")=>`(tactic| first
 | with_reducible exact .same _ | with_reducible exact .none_none | with_reducible exact .none_bool _ | with_reducible exact .none_int _ _ | with_reducible exact .none_str _ _ | with_reducible exact .bool_none _ | with_reducible exact .bool_bool _ _ | with_reducible exact .bool_int _ _ _ | with_reducible exact .bool_str _ _ _ | with_reducible exact .int_none _ _ | with_reducible exact .int_bool _ _ _ | with_reducible exact .int_int _ _ _ _ | with_reducible exact .int_str _ _ _ _ | with_reducible exact .str_none _ _ | with_reducible exact .str_bool _ _ _ | with_reducible exact .str_int _ _ _ _ | with_reducible exact .str_str _ _ _ _)
theorem ls_ (I:Inv X pins σ H s) (h:H a=some (.lst xs)):s.heap.IsList a (iP (Nc I h)):=ls _
theorem ts_ (I:Inv X pins σ H s) (h:H a=some (.tup xs)):s.heap.IsTuple a (iP (Na I h)):=ls _
local macro_rules | `(tactic| walk_at "sq")=>`(tactic| first
 | with_reducible exact .none_list (ls_ (by assumption) (by assumption)) (by assumption) | with_reducible exact .bool_list _ (ls_ (by assumption) (by assumption)) (by assumption) | with_reducible exact .int_list _ _ (ls_ (by assumption) (by assumption)) (by assumption) | with_reducible exact .str_list _ _ (ls_ (by assumption) (by assumption)) (by assumption) | with_reducible exact .list_none (ls_ (by assumption) (by assumption)) (by assumption) | with_reducible exact .list_bool _ (ls_ (by assumption) (by assumption)) (by assumption) | with_reducible exact .list_int _ _ (ls_ (by assumption) (by assumption)) (by assumption) | with_reducible exact .list_str _ _ (ls_ (by assumption) (by assumption)) (by assumption)
 | with_reducible exact .none_tuple (ts_ (by assumption) (by assumption)) (by assumption) | with_reducible exact .bool_tuple _ (ts_ (by assumption) (by assumption)) (by assumption) | with_reducible exact .int_tuple _ _ (ts_ (by assumption) (by assumption)) (by assumption) | with_reducible exact .str_tuple _ _ (ts_ (by assumption) (by assumption)) (by assumption) | with_reducible exact .tuple_none (ts_ (by assumption) (by assumption)) (by assumption) | with_reducible exact .tuple_bool _ (ts_ (by assumption) (by assumption)) (by assumption) | with_reducible exact .tuple_int _ _ (ts_ (by assumption) (by assumption)) (by assumption) | with_reducible exact .tuple_str _ _ (ts_ (by assumption) (by assumption)) (by assumption))
theorem Xt (I : Inv X pins σ H s){O O' : Own}(A : bg)(hu : A.units < g0)(a b : Dat)(v u : V)(v' u' : aj)(ha : dp a < 1000)(ra : Rep H O v a)(rb : Rep H O' u b)(hb : dp b < 1000)(rv : zG v v')(ru : zG u u')
    (ih:∀ (c d:Dat) (v u:V) (v' u':aj),dp c<dp a->Rep H O v c->Rep H O' u d->dp d<1000->zG v v'->zG u u'->bF A.in1 s v' u' (eqD c d)):bF A s v' u' (eqD a b):=by
  by_cases hr:∃ p q,v=.ref p/\u=.ref q
  · obtain ⟨p,q,rfl,rfl⟩:=hr
    cases rv
    cases ru
    by_cases e:p=q
    · subst e
      rw [<- ra.fn rb ha hb,B5 ha]
      exact .same _
    · exact .of_refs e (BN I ih ra rb ha hb hu)
  · cases ra <;> cases rb <;> first
      | with_reducible exact absurd ⟨_,_,rfl,rfl⟩ hr
      | (rw [dp] at ha;omega)
      | (rw [dp] at hb;omega)
      | ((first | (obtain ⟨t0,rfl⟩:=rv) | cases rv);(first | (obtain ⟨t1,rfl⟩:=ru) | cases ru);simp only [eqD,lD,iC];first | walk_at "sc" | walk_at "sq")
theorem Wr (I:Inv X pins σ H s){O O':Own}:∀ (n:Nat) (A:bg),A.units+n<g0->∀ (a b:Dat) (v u:V) (v' u':aj),dp a<=n->n<1000->Rep H O v a->Rep H O' u b->dp b<1000->zG v v'->zG u u'->bF A s v' u' (eqD a b):=by
 intro n
 induction n with
 | zero=>
  intro A hu a b v u v' u' ha _ ra rb hb rv ru
  exact Xt I A (by omega) a b v u v' u' (by omega) ra rb hb rv ru fun _ _ _ _ _ _ h=>absurd h (by omega)
 | succ n ih=>
  intro A hu a b v u v' u' ha hn ra rb hb rv ru
  exact Xt I A (by omega) a b v u v' u' (by omega) ra rb hb rv ru fun c d x y x' y' hc rc rd hd rx ry=>ih A.in1 (by show A.units+1+n<_;omega) c d x y x' y' (by omega) (by omega) rc rd hd rx ry
noncomputable def LO (f:Bool->Bool):R2:=fun x y H Q=>∃ O O' a b,Rep H O x a/\Rep H O' y b/\dp a<=40/\dp b<=40/\Q (.bl (f (eqD a b))) H
theorem Ho (I:Inv X pins σ H s) (A:bg)(hu:A.units+41<g0)(a b:Dat)(v u:V)(v' u':aj)(ha:dp a<=40)(ra:Rep H O v a)(rb:Rep H O' u b)(hb:dp b<=40)(rv:zG v v')(ru:zG u u'):gv A s v' u' (eqD a b):=by
  have ih:∀ (c d:Dat) (v u:V) (v' u':aj),dp c<dp a->Rep H O v c->Rep H O' u d->dp d<1000->zG v v'->zG u u'->bF A.in1 s v' u' (eqD c d):=fun c d v u v' u' hc rc rd hd rv ru=>Wr I 40 A.in1 (by show A.units+1+40<_;omega) c d v u v' u' (by omega) (by omega) rc rd hd rv ru
  replace hu:A.units<g0:=by omega
  by_cases hr:∃ p q,v=.ref p/\u=.ref q
  · obtain ⟨p,q,rfl,rfl⟩:=hr
    cases rv
    cases ru
    exact BN I ih ra rb (by omega) (by omega) hu
  · cases ra <;> cases rb <;> first
      | with_reducible exact absurd ⟨_,_,rfl,rfl⟩ hr
      | (rw [dp] at ha;omega)
      | (rw [dp] at hb;omega)
      | ((first | (obtain ⟨t0,rfl⟩:=rv) | cases rv);(first | (obtain ⟨t1,rfl⟩:=ru) | cases ru);simp only [eqD,lD,iC];first | walk_at "sc" | walk_at "sq")
theorem A4 (I : Inv X pins σ H s){A : bg}{p q : ay}{O O' : Own}{a b : Dat}(ih : ∀ (c d : Dat) (v u : V) (v' u' : aj), dp c < dp a -> Rep H O v c -> Rep H O' u d -> dp d < 1000 -> zG v v' -> zG u u' -> bF A.in1 s v' u' (eqD c d))
    (ra:Rep H O (.ref p) a) (rb:Rep H O' (.ref q) b) (ha:dp a<1000) (hb:dp b<1000) (hu:A.units<g0):fk A s (.ref p) (.ref q) (!(eqD a b)):=by
  cases ra with
  | @lst _ xs l o1 h1 l1 r1=>
    obtain ⟨us,u1,p1,z1⟩:=I.list (SqL.of h1)
    cases rb with
    | @lst _ ys m o2 h2 l2 r2=>
      obtain ⟨ws,u2,p2,z2⟩:=I.list (SqL.of h2)
      have s1:us.toArray.size=l.length:=by rw [aJ,<- u1.length,l1]
      have s2:ws.toArray.size=m.length:=by rw [aJ,<- u2.length,l2]
      by_cases e:l.length=m.length
      · have h := fk.lists (A := A) (e := fun j => eqD (l.getD j .non) (m.getD j .non)) p1.isList p2.isList (by rw [s1, s2, e]) hu (fun j j1 j2 => by
          obtain ⟨x,hx,rx⟩:=xi u1 j1
          obtain ⟨y,hy,ry⟩:=xi u2 j2
          have k1:j<l.length:=by rw [<- s1];exact j1
          have k2:j<m.length:=by rw [<- s2];exact j2
          rw [dp] at ha hb ih
          refine ih _ _ x y _ _ ?_ (r1 j x _ hx ?_) (r2 j y _ hy ?_) ?_ rx ry
          · rw [aD,au k1]
            have:=qH (bv k1);show dp l[j]<_;omega
          · rw [aD,au k1];rfl
          · rw [aD,au k2];rfl
          · rw [aD,au k2]
            have:=qH (bv k2);show dp m[j]<_;omega)
        rw [s1,<- xk l m e] at h
        rw [eqD];exact h
      · rw [eqD,xB l m e]
        exact fk.lists_lengths p1.isList p2.isList (by rw [s1,s2];simpa using e) hu
    | @tup _ ys m o2 h2 l2 r2=>
      obtain ⟨ws,u2,p2,z2⟩:=I.tuple (SqT.of h2)
      rw [WS]
      exact fk.list_tuple p1.isList p2 hu
    | rng o2 h2=>rw [dp] at hb;omega
    | scr o2 h2=>rw [dp] at hb;omega
    | scrK _=>rw [dp] at hb;omega
  | @tup _ xs l o1 h1 l1 r1=>
    obtain ⟨us,u1,p1,z1⟩:=I.tuple (SqT.of h1)
    cases rb with
    | @tup _ ys m o2 h2 l2 r2=>
      obtain ⟨ws,u2,p2,z2⟩:=I.tuple (SqT.of h2)
      have s1:us.toArray.size=l.length:=by rw [aJ,<- u1.length,l1]
      have s2:ws.toArray.size=m.length:=by rw [aJ,<- u2.length,l2]
      have h := fk.tuples (A := A) (e := fun j => eqD (l.getD j .non) (m.getD j .non)) (show s.heap.IsTuple p us.toArray from p1) (show s.heap.IsTuple q ws.toArray from p2) hu (fun j j1 j2 => by
          obtain ⟨x,hx,rx⟩:=xi u1 j1
          obtain ⟨y,hy,ry⟩:=xi u2 j2
          have k1:j<l.length:=by rw [<- s1];exact j1
          have k2:j<m.length:=by rw [<- s2];exact j2
          rw [dp] at ha hb ih
          refine ih _ _ x y _ _ ?_ (r1 j x _ hx ?_) (r2 j y _ hy ?_) ?_ rx ry
          · rw [aD,au k1]
            have:=qH (bv k1);show dp l[j]<_;omega
          · rw [aD,au k1];rfl
          · rw [aD,au k2];rfl
          · rw [aD,au k2]
            have:=qH (bv k2);show dp m[j]<_;omega)
      rw [s1,s2] at h
      rw [eqD]
      by_cases e:l.length=m.length
      · rw [<- e,i7,beq_self_eq_true,Bool.and_true,<- xk l m e] at h
        exact h
      · rw [xB l m e]
        rw [show (l.length == m.length)=false by simpa using e,gb] at h
        exact h
    | @lst _ ys m o2 h2 l2 r2=>
      obtain ⟨ws,u2,p2,z2⟩:=I.list (SqL.of h2)
      rw [DU]
      exact fk.tuple_list p1 p2.isList hu
    | rng o2 h2=>rw [dp] at hb;omega
    | scr o2 h2=>rw [dp] at hb;omega
    | scrK _=>rw [dp] at hb;omega
  | rng o2 h2=>rw [dp] at ha;omega
  | scr o2 h2=>rw [dp] at ha;omega
  | scrK _=>rw [dp] at ha;omega
theorem Bo (I:Inv X pins σ H s) (A:bg)(hu:A.units+41<g0)(a b:Dat)(v u:V)(v' u':aj)(ha:dp a<=40)(ra:Rep H O v a)(rb:Rep H O' u b)(hb:dp b<=40)(rv:zG v v')(ru:zG u u'):fk A s v' u' (!(eqD a b)):=by
  have ih:∀ (c d:Dat) (v u:V) (v' u':aj),dp c<dp a->Rep H O v c->Rep H O' u d->dp d<1000->zG v v'->zG u u'->bF A.in1 s v' u' (eqD c d):=fun c d v u v' u' hc rc rd hd rv ru=>Wr I 40 A.in1 (by show A.units+1+40<_;omega) c d v u v' u' (by omega) (by omega) rc rd hd rv ru
  replace hu:A.units<g0:=by omega
  by_cases hr:∃ p q,v=.ref p/\u=.ref q
  · obtain ⟨p,q,rfl,rfl⟩:=hr
    cases rv
    cases ru
    exact A4 I ih ra rb (by omega) (by omega) hu
  · cases ra <;> cases rb <;> first
      | with_reducible exact absurd ⟨_,_,rfl,rfl⟩ hr
      | (rw [dp] at ha;omega)
      | (rw [dp] at hb;omega)
      | ((first | (obtain ⟨t0,rfl⟩:=rv) | cases rv);(first | (obtain ⟨t1,rfl⟩:=ru) | cases ru);simp only [eqD,lD,iC];first | walk_at "sc" | walk_at "sq")
theorem zY (hu:X.A.units+64<g0):OpR X (dC .Eq) (LO id):=by
 intro pins s σ H x y v u Q I rx ry h
 obtain ⟨O,O',a,b,ra,rb,ha,hb,k⟩:=h
 exact Ho I X.A (by omega) a b x y v u ha ra rb hb rx ry _ _ _ _ ⟨.bl _,H,I,rfl,k⟩
theorem ka (hu:X.A.units+64<g0):OpR X (dC .NotEq) (LO not):=by
 intro pins s σ H x y v u Q I rx ry h
 obtain ⟨O,O',a,b,ra,rb,ha,hb,k⟩:=h
 exact Bo I X.A (by omega) a b x y v u ha ra rb hb rx ry _ _ _ _ ⟨.bl _,H,I,rfl,k⟩
end
noncomputable def yl (x:AV)(M:MH):Option Dat:=match x with
 | .d x=>some x
 | .ref a=>match M a with
  | some (.lst l)=>(pur l).map .lst
  | _=>none
 | .tp _=>none
theorem IB (x:Dat)(M:MH):yl (.d x) M=some x:=rfl
theorem QW {H:Hp}{O:Own}{M:MH}{v:V}{x:AV}{d:Dat}(w:Wf H O M)(r:zt H O M v x)(h:yl x M=some d):∃ O',Rep H O' v d:=by
 cases x with
 | tp l=>cases h
 | d x=>cases h;exact ⟨O,r⟩
 | ref a=>
  unfold yl at h
  dsimp only at h
  cases e:M a with
  | none=>rw [e] at h;cases h
  | some o=>
   rw [e] at h
   cases o with
   | lst l=>
    dsimp only at h
    cases ep:pur l with
    | none=>rw [ep] at h;cases h
    | some ds=>
     rw [ep] at h
     cases h
     obtain ⟨xs,hx,rx⟩:=w.mo a _ e
     rw [ky ep] at rx
     have rp:=rx.pure
     refine ⟨Z7 O a,?_⟩
     rw [r.1]
     exact Rep.lst (fun z=>z.1 rfl) hx rp.1 fun i x d e1 e2=>(rp.2 i x d e1 e2).imp (xL a)
   | _=>cases h
noncomputable def Ze (f:Bool->Bool):AR2:=fun x y M Q=>∃ a b,yl x M=some a/\yl y M=some b/\dp a<=40/\dp b<=40/\Q (.d (.bl (f (eqD a b)))) M
theorem D8 {f:Bool->Bool}:vz (LO f) (Ze f):=⟨fun w r1 r2 ⟨a,b,e1,e2,h1,h2,q⟩ k=>by
 obtain ⟨O1,p1⟩:=QW w r1 e1
 obtain ⟨O2,p2⟩:=QW w r2 e2
 exact ⟨O1,O2,a,b,p1,p2,h1,h2,k _ _ _ _ _ q .refl w .bl⟩⟩
theorem kX (i:Int):dp (.int i)=0:=by simp [dp]
variable {vs:List V}
theorem kg {x:AV}(r:zk H O M vs [x]):∃ v,vs=[v]/\zt H O M v x:=by
 obtain ⟨v1,r',rfl,a1,r2⟩:=r.cons_inv
 rw [r2.nil_inv];exact ⟨v1,rfl,a1⟩
theorem xZ {x y:AV}(r:zk H O M vs [x,y]):∃ v u,vs=[v,u]/\zt H O M v x/\zt H O M u y:=by
 obtain ⟨v1,r',rfl,a1,r2⟩:=r.cons_inv
 obtain ⟨v2,rfl,a2⟩:=kg r2
 exact ⟨v1,v2,rfl,a1,a2⟩
noncomputable def YU:List AV->MH->AK->Prop:=fun xs M Q=>∃ x l,xs=[x]/\qF x M=some l/\Q (.d (.int (l.length:Nat))) M
theorem Fx:QZ (fun xs H Q=>∃ p ys,xs=[V.ref p]/\(SqL K H p ys \/ SqT K H p ys)/\Q (V.int ys.length) H) YU:=⟨fun w r ⟨x,l,e,h,q⟩ k=>by
 subst e
 obtain ⟨v,rfl,rv⟩:=kg r
 obtain ⟨a,xs,rfl,h1,r1⟩:=QF w rv h
 exact ⟨a,xs,rfl,h1.elim (fun h=>.inl (SqL.of h)) (fun h=>.inr (SqT.of h)),by rw [r1.1];exact k _ _ _ _ _ q .refl w .int⟩⟩
noncomputable def bI2 (f:Int->Int->Int):List AV->MH->AK->Prop:=fun xs M Q=>∃ i j,xs=[.d (.int i),.d (.int j)]/\Q (.d (.int (f i j))) M
theorem II {f:Int->Int->Int}:QZ (fun xs H Q=>∃ i j,xs=[V.int i,V.int j]/\Q (V.int (f i j)) H) (bI2 f):=⟨fun w r ⟨i,j,e,q⟩ k=>by
 subst e
 obtain ⟨v,u,rfl,rv,ru⟩:=xZ r
 exact ⟨i,j,by rw [zX rv,zX ru],k _ _ _ _ _ q .refl w .int⟩⟩
noncomputable def WH:List AV->MH->AK->Prop:=fun xs M Q=>∃ x l ds,xs=[x]/\qF x M=some l/\pur l=some ds/\Q (.d (.tup ds)) M
theorem Y8:QZ (fun xs H Q=>∃ p ys,xs=[V.ref p]/\((SqL K H p ys/\∀ l,H l=none->Q (V.ref l) (upd H l (HO.tup ys))) \/ SqT K H p ys/\Q (V.ref p) H)) WH:=⟨fun w r ⟨x,l,ds,e,h,hp,q⟩ k=>by
 subst e
 obtain ⟨v,rfl,rv⟩:=kg r
 rw [ky hp] at h
 rcases kE h with h' | ⟨m,rfl,e2⟩
 ·obtain ⟨a,xs,rfl,h1,r1⟩:=qA w rv h'
  exact ⟨a,xs,rfl,.inl ⟨SqL.of h1,fun p hp=>k _ _ _ _ _ q (jj w hp _) (yc w hp _) (XH w hp r1)⟩⟩
 ·obtain rfl:ds=m:=by have:=congrArg pur e2;rw [zT,zT] at this;cases this;rfl
  obtain ⟨a,xs,rfl,h1,r1⟩:=jR (l:=ds.map .d) rv rfl
  exact ⟨a,xs,rfl,.inr ⟨SqT.of h1,k _ _ _ _ _ q .refl w rv⟩⟩⟩
structure AN (r:List V->Hp->VK->Prop)(a:List AV->MH->(List AV->Prop)->Prop):Prop where
 go:∀ {vs:List V} {xs:List AV} {H:Hp} {O:Own} {M:MH} {Q:VK} {Q':List AV->Prop},Wf H O M->zk H O M vs xs->a xs M Q'->(∀ l ys,Q' l->zk H O M ys l->∀ p,H p=none->Q (.ref p) (upd H p (.lst ys)))->r vs H Q
noncomputable def fCB (r:List AV->MH->(List AV->Prop)->Prop)(b:AA):AF:=fun ρ M Q=>b ρ M fun xs M1=>r xs M1 fun l=>Q l M1
theorem Qj {r:List V->Hp->VK->Prop}{ra:List AV->MH->(List AV->Prop)->Prop} {b:AA}(hr:AN r ra)(h:jo u b):JT (tCB r u) (fCB ra b):=
 ⟨fun w e q k=>h.go w e q fun x M1 v H1 O1 q1 k1 w1 r1=>hr.go w1 r1 q1 fun l ys q3 r3 p hp=>
  k l M1 p ys _ _ q3 (k1.trans (qP w1 hp _)) (kM w1 hp _ (fun _ z=>nomatch z)) (.inl rfl) (w1.fresh hp).2 (yq w1 k1 hp) zl (r3.ext (qP w1 hp _))⟩
noncomputable def Al:List AV->MH->(List AV->Prop)->Prop:=fun xs M Q=>∃ x l,xs=[x]/\qF x M=some l/\Q l
theorem ZE:AN (fun xs H Q=>∃ p ys,xs=[V.ref p]/\(SqL K H p ys \/ SqT K H p ys)/\∀ l,H l=none->Q (V.ref l) (upd H l (HO.lst ys))) Al:=⟨fun w r ⟨x,l,e,h,q⟩ k=>by
 subst e
 obtain ⟨v,rfl,rv⟩:=kg r
 obtain ⟨a,xs,rfl,h1,r1⟩:=QF w rv h
 exact ⟨a,xs,rfl,h1.elim (fun h=>.inl (SqL.of h)) (fun h=>.inr (SqT.of h)),k _ _ q r1⟩⟩
theorem yB {H:Hp}{O:Own}{M:MH}:∀ {ns:List Int} {xs:List V},zk H O M xs (ns.map fun i=>AV.d (.int i))->xs=ns.map V.int
 | [],xs,r=>r.nil_inv
 | i :: ns,xs,r=>by
  obtain ⟨v,r',rfl,a1,r2⟩:=r.cons_inv
  rw [zX a1,yB r2];rfl
noncomputable def tyA (x:AV)(M:MH):Option String:=match x with
 | .d .non=>some "NoneType"
 | .d (.bl _)=>some "bool"
 | .d (.int _)=>some "int"
 | .d (.str _)=>some "str"
 | .d (.lst _)=>some "list"
 | .d (.tup _)=>some "tuple"
 | .tp _=>some "tuple"
 | .ref a=>match M a with
  | some (.lst _)=>some "list"
  | some (.dK _)=>some "dict"
  | some (.dT _)=>some "dict"
  | _=>none
 | _=>none
theorem WN {K:aA}{H:Hp}{O:Own}{M:MH}{v:V}{x:AV}{t:String}(w:Wf H O M)(r:zt H O M v x)(h:tyA x M=some t):xg K H v (.type t):=by
 cases x with
 | tp l=>obtain ⟨a,xs,e,_,h1,_⟩:=r;rw [e];cases h;exact .tup h1
 | d x=>
  cases (show Rep H O v x from r) with
  | non=>cases h;exact .non
  | bl=>cases h;exact .bl _
  | int=>cases h;exact .int _
  | str=>cases h;exact .str _
  | lst o e=>cases h;exact .lst e
  | tup o e=>cases h;exact .tup e
  | ty=>cases h
  | rng _ _=>cases h
  | scr _ _=>cases h
  | scrK _=>cases h
 | ref a=>
  unfold tyA at h
  dsimp only at h
  rw [r.1]
  cases e:M a with
  | none=>rw [e] at h;cases h
  | some o=>
   rw [e] at h
   have:=w.mo a o e
   cases o with
   | lst l=>cases h;obtain ⟨xs,hx,_⟩:=this;exact .lst hx
   | dK l=>cases h;obtain ⟨xs,hx,_⟩:=this;exact .dK hx
   | dT l=>cases h;obtain ⟨xs,hx,_⟩:=this;exact .dT hx
   | dN l=>cases h
   | ins C fs=>cases h
   | exc C fs=>cases h
   | tb R=>cases h
noncomputable def Kc:List AV->MH->AK->Prop:=fun xs M Q=>∃ x t c b,xs=[x,.d (.ty c)]/\tyA x M=some t/\isT t c=some b/\Q (.d (.bl b)) M
theorem Gg:QZ (fun xs H Q=>∃ x t c b,xs=[x,V.ty c]/\xg K H x (aj.type t)/\isT t c=some b/\Q (V.bl b) H) Kc:=⟨fun w r ⟨x,t,c,b,e,h,hb,q⟩ k=>by
 subst e
 obtain ⟨v,u,rfl,rv,ru⟩:=xZ r
 exact ⟨v,t,c,b,by rw [Da ru],WN w rv h,hb,k _ _ _ _ _ q .refl w .bl⟩⟩
theorem Yw {H:Hp}{O:Own}{M:MH}:∀ {ns:List String} {xs:List V},zk H O M xs ((ns.map Dat.ty).map .d)->xs=ns.map V.ty
 | [],xs,r=>r.nil_inv
 | i :: ns,xs,r=>by
  obtain ⟨v,r',rfl,a1,r2⟩:=r.cons_inv
  rw [Da a1,Yw r2];rfl
noncomputable def Q6:List Dat->Option (List String)
 | []=>some []
 | .ty n :: r=>(Q6 r).map (n :: ·)
 | _=>none
theorem X0:∀ {l:List Dat} {cs:List String},Q6 l=some cs->l=cs.map Dat.ty
 | [],cs,h=>by cases h;rfl
 | .ty n :: r,cs,h=>by
  unfold Q6 at h
  cases e:Q6 r with
  | none=>rw [e] at h;cases h
  | some m=>rw [e] at h;cases h;rw [X0 e];rfl
 | .non :: _,_,h=>by cases h
 | .bl _ :: _,_,h=>by cases h
 | .int _ :: _,_,h=>by cases h
 | .str _ :: _,_,h=>by cases h
 | .lst _ :: _,_,h=>by cases h
 | .tup _ :: _,_,h=>by cases h
 | .rng _ _ _ :: _,_,h=>by cases h
 | .scr _ _ :: _,_,h=>by cases h
noncomputable def GO:List AV->MH->AK->Prop:=fun xs M Q=>∃ x t l cs b,xs=[x,.d (.tup l)]/\Q6 l=some cs/\tyA x M=some t/\wN t cs=some b/\Q (.d (.bl b)) M
theorem BW:QZ (fun xs H Q=>∃ x t p cs b,xs=[x,V.ref p]/\H p=some (HO.tup (cC V.ty cs))/\xg K H x (aj.type t)/\wN t cs=some b/\Q (V.bl b) H) GO:=⟨fun w r ⟨x,t,l,cs,b,e,hc,h,hb,q⟩ k=>by
 subst e
 obtain ⟨v,u,rfl,rv,ru⟩:=xZ r
 rw [X0 hc] at ru
 obtain ⟨a,xs,rfl,h1,r1⟩:=jR (l:=(cs.map Dat.ty).map .d) ru rfl
 rw [Yw r1] at h1
 exact ⟨v,t,a,cs,b,rfl,h1,WN w rv h,hb,k _ _ _ _ _ q .refl w .bl⟩⟩
theorem Yx {H:Hp}{O:Own}{M:MH}:∀ {ns:List Bool} {xs:List V},zk H O M xs (ns.map fun i=>AV.d (.bl i))->xs=ns.map V.bl
 | [],xs,r=>r.nil_inv
 | i :: ns,xs,r=>by
  obtain ⟨v,r',rfl,a1,r2⟩:=r.cons_inv
  rw [xu a1,Yx r2];rfl
noncomputable def MK (f:List Bool->Bool):List AV->MH->AK->Prop:=fun xs M Q=>∃ x bs,xs=[x]/\qv x M=some (cC (fun b=>AV.d (.bl b)) bs)/\Q (.d (.bl (f bs))) M
theorem F4 {f:List Bool->Bool}:QZ (fun xs H Q=>∃ p bs,xs=[V.ref p]/\SqL K H p (cC V.bl bs)/\Q (V.bl (f bs)) H) (MK f):=⟨fun w r ⟨x,bs,e,h,q⟩ k=>by
 subst e
 obtain ⟨v,rfl,rv⟩:=kg r
 obtain ⟨a,xs,rfl,h1,r1⟩:=qA w rv h
 rw [Yx r1] at h1
 exact ⟨a,bs,rfl,SqL.of h1,k _ _ _ _ _ q .refl w .bl⟩⟩
noncomputable def Gv:List AV->MH->AK->Prop:=fun xs M Q=>∃ b,xs=[.d (.int b)]/\Q (.d (.rng 0 b 1)) M
theorem WG:QZ (fun xs H Q=>∃ b,xs=[V.int b]/\∀ (p:ay),H p=none->Q (V.ref p) (upd H p (Q9 p 0 b 1))) Gv:=⟨fun w r ⟨b,e,q⟩ k=>by
 subst e
 obtain ⟨v,rfl,rv⟩:=kg r
 exact ⟨b,by rw [zX rv],fun p hp=>k _ _ _ _ _ q (jj w hp _) (yc w hp _) (Rep.rng (w.fresh hp).1 zl)⟩⟩
noncomputable def B7:List AV->MH->(List AV->Prop)->Prop:=fun xs M Q=>∃ a b c n,xs=[.d (.rng a b c)]/\fA a b c=true/\dF a b c=((n:Nat):Int)/\n<=100000/\Q ((z0 a c n).map fun i=>AV.d (.int i))
theorem Zm:AN (fun xs H Q=>∃ p a b c n,xs=[.ref p]/\H p=some (Q9 p a b c)/\fA a b c=true/\dF a b c=((n:Nat):Int)/\n<=100000/\∀ l,H l=none->Q (.ref l) (upd H l (.lst ((z0 a c n).map V.int)))) B7:=⟨fun {vs xs H O M Q Q'} w r ⟨a,b,c,n,e,h1,h2,h3,q⟩ k=>by
 subst e
 obtain ⟨v,rfl,rv⟩:=kg r
 cases (show Rep H O v (.rng a b c) from rv) with
 | rng o h=>exact ⟨_,a,b,c,n,rfl,h,h1,h2,h3,k _ _ q (K1 _)⟩⟩
noncomputable def flD:Dat->Option V
 | .non=>some .non
 | .bl b=>some (.bl b)
 | .int i=>some (.int i)
 | .str s=>some (.str s)
 | _=>none
noncomputable def Xf:List AV->Option (List V)
 | []=>some []
 | .d x :: r=>match flD x,Xf r with
  | some v,some l=>some (v :: l)
  | _,_=>none
 | _=>none
theorem Qm {v x:V} (r:Rep H O v d)(h:flD d=some x):v=x/\jW v=true:=by
 cases r <;> cases h <;> exact ⟨rfl,rfl⟩
theorem vN {H:Hp}{O:Own}{M:MH}:∀ {l:List AV} {xs vs:List V},zk H O M xs l->Xf l=some vs->xs=vs/\xs.all jW=true
 | [],xs,vs,r,h=>by cases h;rw [r.nil_inv];exact ⟨rfl,rfl⟩
 | .d d :: l,xs,vs,r,h=>by
  obtain ⟨v,r',rfl,a1,r2⟩:=r.cons_inv
  unfold Xf at h
  cases e1:flD d with
  | none=>rw [e1] at h;cases h
  | some z=>
   cases e2:Xf l with
   | none=>rw [e1,e2] at h;cases h
   | some zs=>
    rw [e1,e2] at h
    cases h
    obtain ⟨h1,h2⟩:=Qm a1 e1
    obtain ⟨h3,h4⟩:=vN r2 e2
    subst h1 h3
    exact ⟨rfl,by rw [dW,h2,h4];rfl⟩
 | .ref a :: l,xs,vs,r,h=>by cases h
noncomputable def aIn (neg:Bool):AR2:=fun x y M Q=>∃ d v l vs,x=.d d/\flD d=some v/\qF y M=some l/\Xf l=some vs/\Q (.d (.bl (if neg then !inV v vs else inV v vs))) M
theorem IS {neg:Bool}:vz (rIn K neg) (aIn neg):=⟨fun w r1 r2 ⟨d,v,l,vs,e,hv,hl,hs,q⟩ k=>by
 subst e
 obtain ⟨a,xs,rfl,h1,p1⟩:=QF w r2 hl
 obtain ⟨rfl,f1⟩:=Qm r1 hv
 obtain ⟨rfl,f2⟩:=vN p1 hs
 exact ⟨a,xs,rfl,h1.elim (fun h=>.inl (SqL.of h)) (fun h=>.inr (SqT.of h)),f1,f2,k _ _ _ _ _ q .refl w .bl⟩⟩
structure Bg (r:V->List V->Hp->VK->Prop)(a:AV->List AV->MH->AK->Prop):Prop where
 go:∀ {x:V} {dx:AV} {vs:List V} {xs:List AV} {H:Hp} {O:Own} {M:MH} {Q:VK} {Q':AK},Wf H O M->zt H O M x dx->zk H O M vs xs->a dx xs M Q'->(∀ x M' v H' O',Q' x M'->Ext H O M H' O' M'->Wf H' O' M'->zt H' O' M' v x->Q v H')->r x vs H Q
noncomputable def aBM (r:AV->List AV->MH->AK->Prop)(a:AE)(b:AA):AE:=fun ρ M Q=>a ρ M fun x M1=>(∃ l,qv x M1=some l)/\b ρ M1 fun xs M2=>r x xs M2 Q
theorem Ip {r:V->List V->Hp->VK->Prop}{ra:AV->List AV->MH->AK->Prop}{t:TE} {a:AE}{b:AA}(hr:Bg r ra)(h1:zK t a)(h2:jo u b):zK (tBM K "list" r t u) (aBM ra a b):=
 ⟨fun w e q k=>h1.go w e q fun x M1 v H1 O1 ⟨⟨l,hl⟩,q1⟩ k1 w1 r1=>⟨by
  obtain ⟨a,xs,rfl,hx,_⟩:=qA w1 r1 hl
  exact .inl ⟨rfl,xs,SqL.of hx⟩,h2.go w1 (e.ext k1) q1 fun y M2 u H2 O2 q2 k2 w2 r2=>hr.go w2 (r1.ext k2) r2 q2 fun z M3 v3 H3 O3 q3 k3 w3 r3=>k z M3 v3 H3 O3 q3 ((k1.trans k2).trans k3) w3 r3⟩⟩
theorem A1 {xs':List V}(w:Wf H O M)(hm:M p=some (.lst l))(r:zk H O M xs' l'):Ext H O M (upd H p (.lst xs')) O (mup M p (.lst l'))/\Wf (upd H p (.lst xs')) O (mup M p (.lst l')):=
 have np:=zU hm
 ⟨ki w np _ _,Z6 w np (fun _ z=>nomatch z) ⟨_,zl,r.ext (ki w np _ _)⟩⟩
noncomputable def X5:AV->List AV->MH->AK->Prop:=fun x xs M Q=>∃ p l y,x=.ref p/\xs=[y]/\M p=some (.lst l)/\l.length<aQ/\Q (.d .non) (mup M p (.lst (l ++ [y])))
theorem Kb:Bg vJ X5:=⟨fun w r1 r2 ⟨p,l,y,e1,e2,hm,hs,q⟩ k=>by
 subst e1 e2
 obtain ⟨v,rfl,rv⟩:=kg r2
 obtain ⟨xs,hx,rx⟩:=w.mo p _ hm
 obtain ⟨k1,w1⟩:=A1 w hm (rx.snoc rv)
 exact ⟨p,xs,v,r1.1,rfl,hx,by rw [rx.1];exact hs,k _ _ _ _ _ q k1 w1 .non⟩⟩
noncomputable def AX:AV->List AV->MH->AK->Prop:=fun x xs M Q=>∃ l vs d v,qv x M=some l/\xs=[.d d]/\Xf l=some vs/\flD d=some v/\Q (.d (.int ((vs.countP fun y=>eqV y v:Nat)))) M
theorem YO:Bg Kn AX:=⟨fun w r1 r2 ⟨l,vs,d,v,hl,e,hs,hv,q⟩ k=>by
 subst e
 obtain ⟨u,rfl,ru⟩:=kg r2
 obtain ⟨a,xs,rfl,h1,p1⟩:=qA w r1 hl
 obtain ⟨rfl,f1⟩:=Qm ru hv
 obtain ⟨rfl,f2⟩:=vN p1 hs
 exact ⟨a,xs,u,rfl,rfl,h1,f2,f1,k _ _ _ _ _ q .refl w .int⟩⟩
noncomputable def DO:AV->List AV->MH->AK->Prop:=fun x xs M Q=>∃ ns i j,qv x M=some (cC (fun i=>AV.d (.int i)) ns)/\xs=[.d (.int i)]/\j<ns.length/\ns.getD j 0=i/\(∀ m,m<j->ns.getD m 0 ≠ i)/\Q (.d (.int (j:Nat))) M
theorem Vb:Bg Xb DO:=⟨fun w r1 r2 ⟨ns,i,j,hl,e,h1,h2,h3,q⟩ k=>by
 subst e
 obtain ⟨u,rfl,ru⟩:=kg r2
 obtain ⟨a,xs,rfl,hx,p1⟩:=qA w r1 hl
 rw [yB p1] at hx
 exact ⟨a,ns,i,j,rfl,by rw [zX ru],hx,h1,h2,h3,k _ _ _ _ _ q .refl w .int⟩⟩
noncomputable def wg (r:ay):MO->Prop
 | .lst l=>∃ x ∈ l,x.Has r
 | .dK kvs=>∃ x ∈ kvs.map (·.2),x.Has r
 | .dT kvs=>∃ x ∈ kvs.map (·.2),x.Has r
 | .dN kvs=>∃ x ∈ kvs.map (·.2),x.Has r
 | .ins _ fs=>∃ x ∈ fs.map (·.2),x.Has r
 | .exc _ _=>False
 | .tb _=>False
inductive Dee (M M2:MH):AV->Dat->Prop
 | d {x:Dat}:Dee M M2 (.d x) x
 | lst {p:ay} {l:List AV} {ds:List Dat}:M p=some (.lst l)->M2 p=none->l.length=ds.length->(∀ (i:Nat) a b,l[i]?=some a->ds[i]?=some b->Dee M M2 a b)->Dee M M2 (.ref p) (.lst ds)
structure vG (M0 M':MH)(x x':AV)(M'':MH):Prop where
 sub:∀ q,M'' q=M' q \/ (M0 q=none/\M'' q=none)
 cl:∀ q o,M'' q=some o->M0 q=some o \/ ∀ r,wg r o->M'' r ≠ none
 res:(x'=x/\∀ p,x.Has p->M'' p ≠ none) \/ (∃ p l ds,x=.ref p/\M' p=some (.lst l)/\pur l=some ds/\M'' p=none/\x'=.d (.lst ds)) \/ ∃ d,Dee M' M'' x d/\x'=.d d
theorem Dee.rep {H:Hp}{O:Own}{M M2:MH}(w:Wf H O M){x:AV}{d:Dat}(h:Dee M M2 x d):∀ {v:V},zt H O M v x->Rep H (fun a=>O a/\¬ (M a ≠ none/\M2 a=none)) v d:=by
 induction h with
 | d=>exact fun r=>Rep.imp (fun a u h e=>⟨e,fun z=>h z.1⟩) r
 | @lst p l ds hm hn hl _ ih=>
  intro v r
  obtain ⟨xs,hx,rx⟩:=w.mo p _ hm
  rw [r.1]
  refine Rep.lst (fun z=>z.2 ⟨zU hm,hn⟩) hx (rx.1.trans hl) fun i x d e1 e2=>?_
  have hi:=(aG.mp e2).1
  have ha:l[i]?=some (l[i]'(by omega)):=au (by omega)
  exact ih i _ d ha e2 (rx.2 i x _ e1 ha)
theorem Qx {H0 H : Hp}{O0 O : Own}{M0 M' M'' : MH}{x x' : AV}{v : V}(w0 : Wf H0 O0 M0)(w : Wf H O M')(k : Ext H0 O0 M0 H O M')(r : zt H O M' v x)(f : vG M0 M' x x' M'') :
    ∃ O'',Wf H O'' M''/\Ext H0 O0 M0 H O'' M''/\zt H O'' M'' v x'/\∀ a,O a->M' a=none->O'' a/\M'' a=none:=by
  have ks:∀ a u,¬ O a->H a=some u->H a=some u/\¬ (O a/\¬ (M' a ≠ none/\M'' a=none)):=fun a u h e=>⟨e,fun z=>h z.1⟩
  have k0:∀ a,M0 a ≠ none->M'' a=M' a:=fun a h=>(f.sub a).elim (fun z=>z) (fun z=>absurd z.1 h)
  have m0:∀ a,M0 a ≠ none->M'' a ≠ none:=fun a h=>by rw [k0 a h];exact k.mst a h
  have tpk:∀ {v:V} {m:List (Dat ⊕ ay)},zt H O M' v (.tp m)->(∀ r,bG r ∈ m->M'' r ≠ none)->zt H (fun a=>O a/\¬ (M' a ≠ none/\M'' a=none)) M'' v (.tp m):=fun {v m} ⟨a,xs,h1,h2,h3,h4,h5⟩ hr=>⟨a,xs,h1,fun z=>h2 z.1,h3,h4,fun i y d e1 e2=>by
    have:=h5 i y d e1 e2
    cases d with
    | inl d=>exact Rep.imp ks this
    | inr q=>exact ⟨this.1,hr q (bf e2)⟩⟩
  have avs:∀ {xs:List V} {l:List AV},zk H O M' xs l->(∀ r,(∃ x ∈ l,x.Has r)->M'' r ≠ none)->zk H (fun a=>O a/\¬ (M' a ≠ none/\M'' a=none)) M'' xs l:=fun {xs l} rr hr=>⟨rr.1,fun i y d e1 e2=>by
    have:=rr.2 i y d e1 e2
    cases d with
    | d d=>exact Rep.imp ks this
    | ref a=>exact ⟨this.1,hr a ⟨_,bf e2,rfl⟩⟩
    | tp m=>exact tpk this fun r h=>hr r ⟨_,bf e2,h⟩⟩
  have refs0:∀ q o,M0 q=some o->∀ r,wg r o->M0 r ≠ none:=fun q o e r hr=>by
    have:=w0.mo q o e
    cases o with
    | lst l=>
      obtain ⟨xs,_,rr⟩:=this
      obtain ⟨x,hx,hh⟩:=hr
      obtain ⟨i,hi⟩:=bC hx
      obtain ⟨y,_,ry⟩:=rr.get hi
      exact ry.has hh
    | dK l=>
      obtain ⟨xs,_,rr⟩:=this
      obtain ⟨x,hx,hh⟩:=hr
      obtain ⟨i,hi⟩:=bC hx
      obtain ⟨y,_,ry⟩:=rr.2.get hi
      exact ry.has hh
    | dN l=>
      obtain ⟨xs,_,rr,_⟩:=this
      obtain ⟨x,hx,hh⟩:=hr
      obtain ⟨i,hi⟩:=bC hx
      obtain ⟨y,_,ry⟩:=rr.2.get hi
      exact ry.has hh
    | dT l=>
      obtain ⟨xs,_,rr⟩:=this
      obtain ⟨x,hx,hh⟩:=hr
      obtain ⟨i,hi⟩:=bC hx
      obtain ⟨y,_,ry⟩:=rr.2.get hi
      exact ry.has hh
    | ins C l=>
      obtain ⟨dx,xs,_,rr,_⟩:=this
      obtain ⟨x,hx,hh⟩:=hr
      obtain ⟨i,hi⟩:=bC hx
      obtain ⟨y,_,ry⟩:=rr.2.get hi
      exact ry.has hh
    | exc C l=>exact hr.elim
    | tb R=>exact hr.elim
  refine ⟨fun a=>O a/\¬ (M' a ≠ none/\M'' a=none),⟨fun q o e=>?_,fun a h=>?_,fun a h=>w.al a h.1⟩,⟨fun a u h e=>?_,fun a h e=>?_,m0⟩,?_,fun a h e=>⟨⟨h,fun z=>z.1 e⟩,(f.sub a).elim (fun z=>z.trans e) (fun z=>z.2)⟩⟩
  · have e' : M' q = some o := by
      rcases f.sub q with z | z
      · rw [<- z];exact e
      · rw [z.2] at e;cases e
    have hr:∀ r,wg r o->M'' r ≠ none:=by
      rcases f.cl q o e with z | z
      · exact fun r hr=>m0 r (refs0 q o z r hr)
      · exact z
    have:=w.mo q o e'
    cases o with
    | lst l=>obtain ⟨xs,h1,rr⟩:=this;exact ⟨xs,h1,avs rr hr⟩
    | dK l=>obtain ⟨xs,h1,rr⟩:=this;exact ⟨xs,h1,rr.1,avs rr.2 hr⟩
    | dT l=>obtain ⟨xs,h1,rr⟩:=this;exact ⟨xs,h1,rr.1,avs rr.2 hr⟩
    | dN l=>obtain ⟨xs,h1,rr,hp⟩:=this;exact ⟨xs,h1,⟨rr.1,avs rr.2 hr⟩,fun x hx=>(hp x hx).imp ks⟩
    | ins C l=>
      obtain ⟨dx,xs,h1,rr,h2,h3,h4⟩:=this
      refine ⟨dx,xs,h1,⟨rr.1,avs rr.2 hr⟩,⟨h2,fun z=>z.1 h3⟩,?_,h4⟩
      rcases f.sub dx with z | z
      · rw [z];exact h3
      · exact z.2
    | exc C l=>
      obtain ⟨d,h1,h2⟩:=this
      refine ⟨d,h1,?_⟩
      rcases h2 with h2 | ⟨dx,e1,h2,h3,h4⟩
      · exact .inl h2
      · refine .inr ⟨dx,e1,h2,⟨h3,fun z=>z.1 h4⟩,?_⟩
        rcases f.sub dx with z | z
        · rw [z];exact h4
        · exact z.2
    | tb R=>obtain ⟨ps,h1,h2⟩:=this;exact ⟨ps,h1,h2.imp id fun ⟨c,oc,u,a1,a2,a3⟩=>⟨c,oc,u,a1,fun z=>a2 z.1,a3⟩⟩
  · refine ⟨w.own a ?_,fun z=>h z.2⟩
    rcases f.sub a with z | z
    · rw [<- z];exact h
    · exact absurd z.2 h
  · obtain ⟨x1,x2⟩:=k.fix a u h e
    exact ⟨x1,fun z=>x2 z.1⟩
  · obtain ⟨x1,x2,x3⟩:=k.prv a h e
    refine ⟨x1,⟨x2,fun z=>z.1 x3⟩,?_⟩
    rcases f.sub a with z | z
    · rw [z];exact x3
    · exact z.2
  · rcases f.res with ⟨rfl,hp⟩ | ⟨p,l,ds,rfl,hm,hp,hn,rfl⟩ | ⟨d,hd,rfl⟩
    · cases x' with
      | d d=>exact Rep.imp ks r
      | ref a=>exact ⟨r.1,hp a rfl⟩
      | tp m=>exact tpk r hp
    · obtain ⟨xs,hx,rx⟩:=w.mo p _ hm
      rw [ky hp] at rx
      have rp:=rx.pure
      rw [r.1]
      exact Rep.lst (fun z=>z.2 ⟨zU hm,hn⟩) hx rp.1 fun i x d e1 e2=>(rp.2 i x d e1 e2).imp ks
    · exact hd.rep w r
theorem xq {M0 M' M'':MH}{x x':AV} (w0:Wf H0 O0 M0)(w:Wf H O M')(k:Ext H0 O0 M0 H O M')(r:zt H O M' v x)(f:vG M0 M' x x' M'') :
  ∃ O'',Wf H O'' M''/\Ext H0 O0 M0 H O'' M''/\zt H O'' M'' v x':=let ⟨O2,a,b,c,_⟩:=Qx w0 w k r f;⟨O2,a,b,c⟩
def Fr (M0 M:MH):Prop:=∀ q,M0 q ≠ none->M q=M0 q
theorem Fr.refl:Fr M M:=fun _ _=>rfl
theorem Fr.mup {M0 M:MH}(f:Fr M0 M){p:ay}(h:M0 p=none)(o:MO):Fr M0 (mup M p o):=fun q hq=>by rw [zi (fun z=>hq (by rw [z];exact h))];exact f q hq
theorem Fr.sub {M0 M:MH}(f:Fr M0 M)(q:ay):M0 q=M q \/ (M0 q=none/\M0 q=none):=by
 cases e:M0 q with
 | none=>exact .inr ⟨rfl,rfl⟩
 | some o=>exact .inl (by rw [f q (by rw [e];exact fun z=>nomatch z),e])
variable {M0:MH}
theorem qD (f:Fr M0 M)(d:Dat):vG M0 M (.d d) (.d d) M0:=⟨f.sub,fun q o e=>.inl e,.inl ⟨rfl,fun p z=>nomatch z⟩⟩
variable {ds:List Dat}
theorem Em (f:Fr M0 M) (h0:M0 p=none)(h:M p=some (.lst l))(hp:pur l=some ds):vG M0 M (.ref p) (.d (.lst ds)) M0:=⟨f.sub,fun q o e=>.inl e,.inr (.inl ⟨p,l,ds,rfl,h,hp,h0,rfl⟩)⟩
theorem yG (h:pur l=some ds)(r:ay):¬ ∃ x ∈ l,x.Has r:=by
 rw [ky h];rintro ⟨x,z,k⟩
 obtain ⟨d,_,e⟩:=bE.mp z
 subst e;exact k
noncomputable def zM (N:List Str)(xs:List AV):ASt:=xs.map some ++ aH (N.length - xs.length) none
theorem xy {xs:List AV}(r:zk H O M vs xs)(N:List Str):Er H O M (start N vs) (zM N xs):=by
 unfold start zM
 refine ⟨by simp [r.1],fun i x h=>?_⟩
 by_cases c:i<xs.length
 ·rw [cz (by simpa using c),aK] at h
  cases e:xs[i]? with
  | none=>rw [e] at h;cases h
  | some y=>
   rw [e] at h
   cases h
   obtain ⟨v,hv,rv⟩:=r.get e
   exact ⟨v,by rw [cz (by rw [aw,r.1];exact c),aK,hv];rfl,rv⟩
 ·rw [dg (by simp;omega),iJ] at h
  split at h <;> cases h
noncomputable def rtA (M0:MH)(Q:AK):AK:=fun x M'=>∃ x' M'',vG M0 M' x x' M''/\Q x' M''
theorem dfA {x:Str} {k:Nat}{a:ASp}(at_:At K mg x st)(S:zr N ps (zg st))
  (hb:∀ (kV doc pm:aj) (an:Option ay) (cdv ct:aj) (us:List aj),us.length=ps.length->eM (bJ x x (qx st) (zQ st) (zg st) .none kV doc pm an cdv ct) ⟨us,[]⟩=pure (ps.zip us))
  (len:∀ xs M Q,a xs M Q->xs.length=ps.length)
  (hbody:∀ (f:ay) (cdv:aj) (A:bg) (outer:List Env) (s:az) (H:Hp) (E:XK),qu k (A.deeper (e8 x (zg st) s.heap.objs.size f cdv)) ->
   ∃ t,PSs (jS CX0 P w K mg base N x (zg st) f cdv A outer s H E).nox (zQ st) t/\∃ b,jq t b/\∀ xs M Q,a xs M Q->b M { nx:=fun _ M'=>rtA M Q (.d .non) M',rt:=rtA M Q } (zM N xs) M):Df P w K mg base x ps (k+1) (cSp a):=by
 refine wj at_ S hb (fun vs H Q E h=>?_) (fun f cdv A outer s H vs Q E hr h=>?_)
 ·obtain ⟨xs,M,O,Q',w,r,q,_⟩:=h
  rw [r.1];exact len xs M Q' q
 ·obtain ⟨t,ht,b,hb,hq⟩:=hbody f cdv A outer s H E hr
  refine ⟨t,ht,?_⟩
  obtain ⟨xs,M,O,Q',w,r,q,kk⟩:=h
  refine hb.go w w (xy r N) .refl (hq xs M Q' q) ⟨fun σ H' O' ρ M' w' e' x' q'=>?_,fun v y H' O' M' w' x' r' q'=>?_,fun _ _ _ _ _ _ _ _ z=>z.elim,fun _ _ _ _ _ _ _ _ z=>z.elim⟩
  ·obtain ⟨y',M'',f,q2⟩:=q'
   obtain ⟨O'',w2,k2,r2⟩:=xq w w' x' (show zt H' O' M' .non (.d .non) from .non) f
   exact kk _ _ _ _ _ q2 k2 w2 r2
  ·obtain ⟨y',M'',f,q2⟩:=q'
   obtain ⟨O'',w2,k2,r2⟩:=xq w w' x' r' f
   exact kk _ _ _ _ _ q2 k2 w2 r2
structure MY (tr:ay->TR)(a:ATR):Prop where
 go:∀ D,XG D (tr D) a
theorem Ba {t u:TE}{a b:AE}(h1:zK t a)(h2:zK u b):zK (tOp EM t u) (aFz (fOp Hz a b)):=yC (Qt JS h1 h2)
theorem Bw {t u:TE}{a b:AE}(h1:zK t a)(h2:zK u b):zK (tOp Fw t u) (aFz (fOp IN a b)):=yC (Qt QI h1 h2)
theorem Y3 {b:AA}(h:jo u b):zK (tCB (fun xs H Q=>∃ p ys,xs=[V.ref p]/\(SqL K H p ys \/ SqT K H p ys)/\∀ l,H l=none->Q (V.ref l) (upd H l (HO.lst ys))) u) (aFz (fCB Al b)):=yC (Qj ZE h)
theorem YV {b:AA}(h:jo u b):zK (tCB (fun xs H Q=>∃ p a b c n,xs=[.ref p]/\H p=some (Q9 p a b c)/\fA a b c=true/\dF a b c=((n:Nat):Int)/\n<=100000/\∀ l,H l=none->Q (.ref l) (upd H l (.lst ((z0 a c n).map V.int)))) u) (aFz (fCB B7 b)):=yC (Qj Zm h)
variable {q:AS->Prop}
theorem ex2 {t:TS} {b:AS}(h:jq t b)(k:q b):∃ b,jq t b/\q b:=⟨b,h,k⟩
section
variable {X:Cx}{K:aA}
end
theorem Ah {τ:Type}(R:τ->ASt)(f:AV->AV) {N:List AV->ASt->MH->Prop} (h0:∃ o,ρ=R o)(hG:G M)(hl:l.length<=100000)
  (hs:∀ (o:τ) (x:AV) (Q:AV->ASt->MH->Prop),x ∈ l->(∀ o',Q (f x) (R o') M)->ag x (R o) M fun ρ2 M2=>ae ρ2 M2 fun y M3=>Q y ρ2 M3) (hN:∀ o,N (l.map f) (R o) M):QU ag Zw (yz ae) G N l [] ρ M:=by
 have hsl:100000<aQ:=by rw [cH];decide
 refine ⟨fun i acc ρ' M'=>i<=l.length/\acc=(l.take i).map f/\M'=M/\∃ o,ρ'=R o,⟨cV _,rfl,rfl,h0⟩,?_,?_⟩
 ·rintro i x acc ρ' M' hx ⟨hi,rfl,rfl,o,rfl⟩
  have hil:=(aG.mp hx).1
  refine ⟨hG,?_⟩
  refine hs o x (fun y ρ2 M3=>((l.take i).map f).length<aQ/\(i+1<=l.length/\(l.take i).map f ++ [y]=(l.take (i+1)).map f/\M3=M'/\∃ o,ρ2=R o)) (bf hx) fun o'=>⟨by rw [aw,bI];omega,hil,?_,rfl,o',rfl⟩
  rw [iq,hx,bO];rfl
 ·rintro acc ρ' M' ⟨_,rfl,rfl,o,rfl⟩
  rw [gw]
  exact ⟨hG,hN o⟩
theorem FX {τ:Type}(R:τ->ASt)(f:Nat->AV) {N:List AV->ASt->MH->Prop} (h0:∃ o,ρ=R o)(hG:G M)(hl:l.length<=100000)
  (hs:∀ (o:τ) (i:Nat) (x:AV) (Q:AV->ASt->MH->Prop),l[i]?=some x->(∀ o',Q (f i) (R o') M)->ag x (R o) M fun ρ2 M2=>ae ρ2 M2 fun y M3=>Q y ρ2 M3) (hN:∀ o,N ((b8 l.length).map f) (R o) M):QU ag Zw (yz ae) G N l [] ρ M:=by
 have hsl:100000<aQ:=by rw [cH];decide
 refine ⟨fun i acc ρ' M'=>i<=l.length/\acc=(b8 i).map f/\M'=M/\∃ o,ρ'=R o,⟨cV _,rfl,rfl,h0⟩,?_,?_⟩
 ·rintro i x acc ρ' M' hx ⟨hi,rfl,rfl,o,rfl⟩
  have hil:=(aG.mp hx).1
  refine ⟨hG,?_⟩
  refine hs o i x (fun y ρ2 M3=>((b8 i).map f).length<aQ/\(i+1<=l.length/\(b8 i).map f ++ [y]=(b8 (i+1)).map f/\M3=M'/\∃ o,ρ2=R o)) hx fun o'=>⟨by rw [aw,dH];omega,hil,?_,rfl,o',rfl⟩
  rw [List.range_succ,bO];rfl
 ·rintro acc ρ' M' ⟨_,rfl,rfl,o,rfl⟩
  exact ⟨hG,hN o⟩
theorem WI {α:Type}(F:α->Dat)(l:List α):pur (l.map fun a=>AV.d (F a))=some (l.map F):=by
 have:(l.map fun a=>AV.d (F a))=(l.map F).map .d:=by rw [aZ];rfl
 rw [this,zT]
theorem VG {τ:Type}(R:τ->ASt)(p:AV->Bool)(f:AV->AV) {N:List AV->ASt->MH->Prop} (h0:∃ o,ρ=R o)(hG:G M)(hl:l.length<=100000)
  (hs:∀ (o:τ) (x:AV) (Q:Option AV->ASt->MH->Prop),x ∈ l->(∀ o',Q (if p x then some (f x) else none) (R o') M)->ag x (R o) M fun ρ2 M2=>at_ ρ2 M2 fun b M3=>if b=true then ae ρ2 M3 fun y M4=>Q (some y) ρ2 M4 else Q none ρ2 M3)
  (hN:∀ o,N ((l.filter p).map f) (R o) M):QU ag at_ (yz ae) G N l [] ρ M:=by
 have hsl:100000<aQ:=by rw [cH];decide
 refine ⟨fun i acc ρ' M'=>i<=l.length/\acc=((l.take i).filter p).map f/\M'=M/\∃ o,ρ'=R o,⟨cV _,rfl,rfl,h0⟩,?_,?_⟩
 ·rintro i x acc ρ' M' hx ⟨hi,rfl,rfl,o,rfl⟩
  have hil:=(aG.mp hx).1
  have tk:l.take (i+1)=l.take i ++ [x]:=by rw [iq,hx];rfl
  have hlen:(((l.take i).filter p).map f).length<=i:=by
   rw [aw]
   exact bz (eU _ _) (by rw [bI];omega)
  refine ⟨hG,?_⟩
  refine hs o x (fun y ρ2 M3=>match y with | some y=>(((l.take i).filter p).map f).length<aQ/\(i+1<=l.length/\((l.take i).filter p).map f ++ [y]=((l.take (i+1)).filter p).map f/\M3=M'/\∃ o,ρ2=R o) | none=>i+1<=l.length/\((l.take i).filter p).map f=((l.take (i+1)).filter p).map f/\M3=M'/\∃ o,ρ2=R o) (bf hx) fun o'=>?_
  rw [tk,List.filter_append]
  cases e:p x with
  | true=>rw [if_pos rfl];exact ⟨by omega,hil,by rw [List.filter_cons_of_pos e,bO];rfl,rfl,o',rfl⟩
  | false=>rw [if_neg (by decide)];exact ⟨hil,by rw [List.filter_cons_of_neg (by rw [e];decide),List.filter_nil,bW],rfl,o',rfl⟩
 ·rintro acc ρ' M' ⟨_,rfl,rfl,o,rfl⟩
  rw [gw]
  exact ⟨hG,hN o⟩
theorem La:isT "int" "int"=some true:=by decide +kernel
theorem Ld:isT "int" "bool"=some false:=by decide +kernel
theorem Br:isT "int" "str"=some false:=by decide +kernel
theorem HP:isT "int" "list"=some false:=by decide +kernel
theorem Bh:isT "int" "tuple"=some false:=by decide +kernel
theorem Hw:isT "bool" "int"=some true:=by decide +kernel
theorem Lf:isT "bool" "bool"=some true:=by decide +kernel
theorem V8:isT "bool" "str"=some false:=by decide +kernel
theorem G3:isT "bool" "list"=some false:=by decide +kernel
theorem BH:isT "bool" "tuple"=some false:=by decide +kernel
theorem IG:isT "str" "int"=some false:=by decide +kernel
theorem G7:isT "str" "bool"=some false:=by decide +kernel
theorem Wd:isT "str" "str"=some true:=by decide +kernel
theorem Ii:isT "str" "list"=some false:=by decide +kernel
theorem WO:isT "str" "tuple"=some false:=by decide +kernel
theorem HA:isT "NoneType" "int"=some false:=by decide +kernel
theorem IK:isT "NoneType" "bool"=some false:=by decide +kernel
theorem W0:isT "NoneType" "str"=some false:=by decide +kernel
theorem ID:isT "NoneType" "list"=some false:=by decide +kernel
theorem B4:isT "NoneType" "tuple"=some false:=by decide +kernel
theorem Ic:isT "list" "int"=some false:=by decide +kernel
theorem G4:isT "list" "bool"=some false:=by decide +kernel
theorem WD:isT "list" "str"=some false:=by decide +kernel
theorem Ia:isT "list" "list"=some true:=by decide +kernel
theorem Dv:isT "list" "tuple"=some false:=by decide +kernel
theorem Hi:isT "tuple" "int"=some false:=by decide +kernel
theorem Ib:isT "tuple" "bool"=some false:=by decide +kernel
theorem WT:isT "tuple" "str"=some false:=by decide +kernel
theorem Le:isT "tuple" "list"=some false:=by decide +kernel
theorem Wj:isT "tuple" "tuple"=some true:=by decide +kernel
theorem LB:wN "int" ["list","tuple"]=some false:=by decide +kernel
theorem IZ:wN "bool" ["list","tuple"]=some false:=by decide +kernel
theorem Hm:wN "str" ["list","tuple"]=some false:=by decide +kernel
theorem HK:wN "NoneType" ["list","tuple"]=some false:=by decide +kernel
theorem Ha:wN "list" ["list","tuple"]=some true:=by decide +kernel
theorem Ly:wN "tuple" ["list","tuple"]=some true:=by decide +kernel
theorem Bs:Q6 []=some []:=rfl
theorem V4 {n:String}{r:List Dat}:Q6 (.ty n :: r)=(Q6 r).map (n :: ·):=rfl
theorem L4 (M:MH):tyA (.d .non) M=some "NoneType":=rfl
theorem MG (b:Bool)(M:MH):tyA (.d (.bl b)) M=some "bool":=rfl
theorem LU (i:Int)(M:MH):tyA (.d (.int i)) M=some "int":=rfl
theorem MQ (s:Str)(M:MH):tyA (.d (.str s)) M=some "str":=rfl
theorem Mv (l:List Dat)(M:MH):tyA (.d (.lst l)) M=some "list":=rfl
theorem Me (l:List Dat)(M:MH):tyA (.d (.tup l)) M=some "tuple":=rfl
theorem VW (x:Dat)(r:List AV):pur (.d x :: r)=match pur r with | some l=>some (x :: l) | none=>none:=rfl
theorem G8 (i j:Int):eqS (.int i) (.int j)=some (decide (i=j)):=rfl
theorem IE (i j:Bool):eqS (.bl i) (.bl j)=some (decide (i=j)):=rfl
theorem LQ (i j:Str):eqS (.str i) (.str j)=some (decide (i=j)):=rfl
theorem FA:j7 (.d .non)=true:=rfl
theorem F9 (i:Int):j7 (.d (.int i))=false:=rfl
theorem FF (i:List Dat):j7 (.d (.lst i))=false:=rfl
theorem FR (i:List Dat):j7 (.d (.tup i))=false:=rfl
theorem EI (i:ay):j7 (.ref i)=false:=rfl
theorem F6 (i:Str):j7 (.d (.str i))=false:=rfl
theorem Ez (i:Bool):j7 (.d (.bl i))=false:=rfl
theorem WU (w:Wf H O M)(k:Kp [] H H'):Ext H O M H' O M/\Wf H' O M:=by
 have e:Ext H O M H' O M:=⟨fun a o h e=>⟨k a o (by simp) e,h⟩,fun a h e=>⟨by
  obtain ⟨o,ho,_⟩:=w.al a h
  rw [ho];exact k a o (by simp) ho,h,e⟩,fun _ h=>h⟩
 refine ⟨e,⟨fun a o h=>jm.ext e ?_ (w.mo a o h),w.own,fun a h=>?_⟩⟩
 ·obtain ⟨u,hu,_⟩:=w.al a (w.own a (by rw [h];exact fun z=>nomatch z))
  rw [hu];exact k a u (by simp) hu
 ·obtain ⟨o,ho,hn⟩:=w.al a h
  exact ⟨o,k a o (by simp) ho,hn⟩
theorem HJ (w:Wf H O M) (hb:M b=some (.lst l))(k:Kp [b] H H') (h:H' b=some (.lst (ns.map V.int))) :
  Ext H O M H' O (mup M b (.lst (ns.map fun i=>.d (.int i))))/\Wf H' O (mup M b (.lst (ns.map fun i=>.d (.int i)))):=by
 have hOb:=w.own b (zU hb)
 have kk:∀ a o,a ≠ b->H a=some o->H' a=some o:=fun a o ha e=>k a o (by simpa using ha) e
 have e:Ext H O M H' O (mup M b (.lst (ns.map fun i=>.d (.int i)))):=⟨fun a o h e=>⟨kk a o (fun z=>h (by rw [z];exact hOb)) e,h⟩,fun a ha e=>by
  have hne:a ≠ b:=fun z=>by rw [z,hb] at e;cases e
  obtain ⟨o,ho,_⟩:=w.al a ha
  exact ⟨by rw [ho];exact kk a o hne ho,ha,by rw [zi hne];exact e⟩,fun a ha=>by
  by_cases c:a=b
  ·rw [c,zf];exact fun z=>nomatch z
  ·rw [zi c];exact ha⟩
 refine ⟨e,⟨fun a o ho=>?_,fun a ha=>?_,fun a ha=>?_⟩⟩
 ·by_cases c:a=b
  ·subst c;rw [zf] at ho;cases ho;exact ⟨_,h,K1 ns⟩
  ·rw [zi c] at ho
   refine jm.ext e ?_ (w.mo a o ho)
   obtain ⟨u,hu,_⟩:=w.al a (w.own a (zU ho))
   rw [hu];exact kk a u c hu
 ·by_cases c:a=b
  ·rw [c];exact hOb
  ·rw [zi c] at ha;exact w.own a ha
 ·by_cases c:a=b
  ·rw [c];exact ⟨_,h,fun xs z=>nomatch z⟩
  ·obtain ⟨o,ho,hn⟩:=w.al a ha
   exact ⟨o,kk a o c ho,hn⟩
theorem DC (ho:¬ O p)(h:H p=some (.lst (ns.map V.int))):Rep H O (.ref p) (.lst (ns.map .int)):=
 Rep.lst ho h (by simp) fun i x d e1 e2=>by
  rw [aK] at e1 e2
  cases e:ns[i]? with
  | none=>rw [e] at e1;cases e1
  | some n=>rw [e] at e1 e2;cases e1;cases e2;exact .int
theorem AM {x:AV} (w:Wf H O M)(r:zt H O M v x)(h:qv x M=some (ns.map fun i=>.d (.int i))):∃ a,v=.ref a/\H a=some (.lst (ns.map V.int)):=by
 obtain ⟨a,xs,rfl,h1,r1⟩:=qA w r h
 rw [yB r1] at h1
 exact ⟨a,rfl,h1⟩
theorem Df.imp' {x:Str} {sp sp':Sp}{k:Nat}(D:Df P w K mg base x ps k sp)(h:∀ vs H Q E,sp' vs H Q E->sp vs H Q E):Df P w K mg base x ps k sp':=
 let ⟨f,fd,F,r⟩:=D
 ⟨f,fd,F.imp h,r⟩
mutual
noncomputable def wdt:Dat->Nat
 | .lst l=>max l.length (J8 l)
 | .tup l=>max l.length (J8 l)
 | _=>0
noncomputable def J8:List Dat->Nat
 | []=>0
 | a :: r=>max (wdt a) (J8 r)
end
theorem Xu {l:List Dat}{n:Nat}(h:∀ d ∈ l,wdt d<=n):J8 l<=n:=by
 induction l with
 | nil=>exact cV _
 | cons a r ih=>rw [J8];exact ff.mpr ⟨h a (by simp),ih fun d hd=>h d (by simp [hd])⟩
theorem Ye {l:List Dat}{d:Dat}(h:d ∈ l):wdt d<=J8 l:=by
 induction l with
 | nil=>cases h
 | cons a r ih=>
  rw [J8]
  rcases aF.mp h with rfl | h
  ·exact lp _ _
  ·exact bz (ih h) (iR _ _)
def jp (n:Nat)(d:Dat):Prop:=dp d<=n/\wdt d<=100000
theorem jp.mono {n m:Nat} (h:jp n d)(k:n<=m):jp m d:=⟨bz h.1 k,h.2⟩
theorem QS {l:List Dat}(hl:l.length<=100000)(h:∀ d ∈ l,jp n d):jp (n+1) (.lst l):=⟨by rw [dp];exact eG (yN fun d hd=>(h d hd).1),by rw [wdt];exact ff.mpr ⟨hl,Xu fun d hd=>(h d hd).2⟩⟩
theorem jv {l:List Dat}(hl:l.length<=100000)(h:∀ d ∈ l,jp n d):jp (n+1) (.tup l):=⟨by rw [dp];exact eG (yN fun d hd=>(h d hd).1),by rw [wdt];exact ff.mpr ⟨hl,Xu fun d hd=>(h d hd).2⟩⟩
theorem jJ (n:Nat)(i:Int):jp n (.int i):=⟨by simp [dp],by simp [wdt]⟩
theorem jN (n:Nat)(i:Str):jp n (.str i):=⟨by simp [dp],by simp [wdt]⟩
theorem JG (n:Nat):jp n .non:=⟨by simp [dp],by simp [wdt]⟩
theorem ZJ (h:ns.length<=100000):jp 1 (.lst (ns.map .int)):=QS (by simpa using h) fun d hd=>by obtain ⟨i,_,rfl⟩:=bE.mp hd;exact jJ 0 i
theorem xY (h:ns.length<=100000):jp 1 (.tup (ns.map .int)):=jv (by simpa using h) fun d hd=>by obtain ⟨i,_,rfl⟩:=bE.mp hd;exact jJ 0 i
theorem jp.lst {l:List Dat}(h:jp (n+1) (.lst l)):l.length<=100000/\∀ d ∈ l,jp n d:=by
 obtain ⟨h1,h2⟩:=h
 rw [dp] at h1
 rw [wdt] at h2
 exact ⟨(ff.mp h2).1,fun d hd=>⟨by have:=qH hd;omega,bz (Ye hd) (ff.mp h2).2⟩⟩
theorem jp.tup {l:List Dat}(h:jp (n+1) (.tup l)):l.length<=100000/\∀ d ∈ l,jp n d:=by
 obtain ⟨h1,h2⟩:=h
 rw [dp] at h1
 rw [wdt] at h2
 exact ⟨(ff.mp h2).1,fun d hd=>⟨by have:=qH hd;omega,bz (Ye hd) (ff.mp h2).2⟩⟩
theorem jp.no_l {l:List Dat}(h:jp 0 (.lst l)):False:=by have:=h.1;rw [dp] at this;omega
theorem jp.no_t {l:List Dat}(h:jp 0 (.tup l)):False:=by have:=h.1;rw [dp] at this;omega
theorem QJ {x:AV}{M:MH}{l:List Dat}(h:yl x M=some (.lst l)):qv x M=some (l.map .d)/\qF x M=some (l.map .d)/\tyA x M=some "list"/\j7 x=false:=by
 cases x with
 | tp l=>cases h
 | d x=>cases h;exact ⟨rfl,rfl,rfl,rfl⟩
 | ref a=>
  unfold yl at h
  dsimp only at h
  cases e:M a with
  | none=>rw [e] at h;cases h
  | some o=>
   rw [e] at h
   cases o with
   | lst m=>
    dsimp only at h
    cases ep:pur m with
    | none=>rw [ep] at h;cases h
    | some ds=>
     rw [ep] at h
     cases h
     rw [ky ep] at e
     exact ⟨qY e,zF e,by unfold tyA;dsimp only;rw [e],rfl⟩
   | _=>cases h
theorem qG {x:AV}{M:MH}{d:Dat}(h:yl x M=some d)(hd:∀ l,d ≠ .lst l):x=.d d:=by
 cases x with
 | tp l=>cases h
 | d x=>cases h;rfl
 | ref a=>
  unfold yl at h
  dsimp only at h
  cases e:M a with
  | none=>rw [e] at h;cases h
  | some o=>
   rw [e] at h
   cases o with
   | lst m=>
    dsimp only at h
    cases ep:pur m with
    | none=>rw [ep] at h;cases h
    | some ds=>rw [ep] at h;cases h;exact absurd rfl (hd ds)
   | _=>cases h
theorem L8 (b:Bool):dp (.bl b)=0:=by simp [dp]
theorem zZ (b:Str):dp (.str b)=0:=by simp [dp]
theorem Ih:dp .non=0:=by simp [dp]
theorem Lc (a b:Bool):eqD (.bl a) (.bl b)=decide (a=b):=by rw [eqD];cases a <;> cases b <;> rfl
theorem y6 (a b:Int):eqD (.int a) (.int b)=decide (a=b):=by rw [eqD];by_cases h:a=b <;> simp [h]
theorem qo (a b:Str):eqD (.str a) (.str b)=decide (a=b):=by rw [eqD];by_cases h:a=b <;> simp [h]
theorem Li:eqD .non .non=true:=by simp [eqD]
theorem Aw (i:Int):eqD .non (.int i)=false:=by simp [eqD]
theorem LC (i:Int):eqD (.int i) .non=false:=by simp [eqD]
theorem LF (i:Int)(s:Str):eqD (.int i) (.str s)=false:=by simp [eqD]
theorem LK (i:Int)(s:Str):eqD (.str s) (.int i)=false:=by simp [eqD]
theorem Il (s:Str):eqD (.str s) .non=false:=by simp [eqD]
theorem HS (s:Str):eqD .non (.str s)=false:=by simp [eqD]
theorem XU (ns:List Int):cC AV.d (cC Dat.int ns)=cC (fun i=>AV.d (.int i)) ns:=by rw [aZ];rfl
theorem GL (ns:List Bool):cC AV.d (cC Dat.bl ns)=cC (fun i=>AV.d (.bl i)) ns:=by rw [aZ];rfl
theorem qV (ns:List Int):pur (cC (fun i=>AV.d (.int i)) ns)=some (ns.map Dat.int):=by rw [<- XU,zT]
theorem Eo (ns:List Bool):pur (cC (fun i=>AV.d (.bl i)) ns)=some (ns.map Dat.bl):=by rw [<- GL,zT]
theorem Ec {α β:Type}(f:α->β)(l:List α)(i:Int):atI (l.map f) i=(atI l i).map f:=by
 unfold atI
 rw [aw]
 cases ixN l.length i with
 | none=>rfl
 | some j=>exact aK ..
theorem jc {i:Int}(h0:0<=i)(h1:i<n):ixN n i=some i.toNat:=by unfold ixN;rw [if_pos h0,if_pos h1]
theorem Hr {α:Type}{l:List α}{i:Int}(h0:0<=i)(h1:i<l.length)(d:α):atI l i=some (l.getD i.toNat d):=by
 unfold atI
 rw [jc h0 h1]
 show l[i.toNat]?=_
 rw [aD,au (by omega)];rfl
theorem vf {α:Type}(xs:List α)(k:Nat):xb xs (some (k:Int)) none=xs.drop k:=by
 unfold xb
 rw [HT.sIx_nat,HT.sIx_none,gg (by rw [cw];omega)]
 by_cases h:k<=xs.length
 ·rw [Nat.min_eq_left h]
 ·rw [m8 (by omega),List.drop_length,gh (by omega)]
theorem Fo {α:Type}(xs:List α)(k:Nat):xb xs none (some (k:Int))=xs.take k:=by
 unfold xb
 rw [HT.sIx_nat,HT.sIx_none,List.drop_zero,Nat.sub_zero]
 by_cases h:k<=xs.length
 ·rw [Nat.min_eq_left h]
 ·rw [m8 (by omega),gg (aM _),gg (by omega)]
theorem zd {a qR:AS}{B:MH}{D:jn} (h:∀ r,r=qR->yj a r B D ρ M):yj a qR B D ρ M:=h qR rfl
theorem Fr.non {M M':MH}(f:Fr M M'){p:ay}(h:M' p=none):M p=none:=by
 cases e:M p with
 | none=>rfl
 | some o=>rw [f p (by rw [e];exact fun z=>nomatch z),e] at h;cases h
noncomputable abbrev ilD (os:List Int):Dat:=.lst (os.map .int)
theorem F2 (ns:List Int)(M:MH):qv (.d (ilD ns)) M=some (ns.map fun i=>.d (.int i)):=by rw [AL,XU]
def BxM (M:MH)(b:ay)(N:Nat):Prop:=∃ x y z:Int,M b=some (.lst [.d (.int x),.d (.int y),.d (.int z)])/\0<=x/\0<=y/\y<2147483648/\0<=z/\z<=N
theorem BxM.mono {N N':Nat}(h:BxM M b N)(hn:N<=N'):BxM M b N':=by
 obtain ⟨x,y,z,h1,h2,h3,h4,h5,h6⟩:=h
 exact ⟨x,y,z,h1,h2,h3,h4,h5,by omega⟩
theorem BxM.ne {N:Nat}(h:BxM M b N):M b ≠ none:=by obtain ⟨x,y,z,h1,_⟩:=h;exact zU h1
theorem BxM.bx {N:Nat}(w:Wf H O M)(h:BxM M b N):Bx H b N:=by
 obtain ⟨x,y,z,h1,h2⟩:=h
 obtain ⟨xs,hx,rx⟩:=w.mo b _ h1
 rw [yB (ns:=[x,y,z]) rx] at hx
 exact ⟨x,y,z,hx,h2⟩
def BxS (M M':MH)(b:ay)(N:Nat):Prop:=BxM M' b N/\∃ o,M'=mup M b o
theorem BxS.trans {M M1 M2:MH} {N1 N2:Nat}(h:BxS M M1 b N1)(h':BxS M1 M2 b N2):BxS M M2 b N2:=by
 obtain ⟨_,o,rfl⟩:=h
 obtain ⟨h2,o',rfl⟩:=h'
 exact ⟨h2,o',xQ⟩
theorem BxS.at {N:Nat}(h:BxS M M' b N){q:ay}(hq:q ≠ b):M' q=M q:=by
 obtain ⟨_,o,rfl⟩:=h
 exact zi hq
theorem Fr.bx (f:Fr M0 M) {N:Nat}(h:BxS M M' b N)(hb:M0 b=none):Fr M0 M':=fun q hq=>by rw [h.at (fun z=>hq (by rw [z];exact hb))];exact f q hq
theorem BV (w:Wf H O M) {N N':Nat}(hb:BxM M b N)(k:Kp [b] H H')(h:Bx H' b N'):∃ M',BxS M M' b N'/\Ext H O M H' O M'/\Wf H' O M':=by
 obtain ⟨x,y,z,h1,_⟩:=hb
 obtain ⟨x',y',z',g1,g2⟩:=h
 obtain ⟨e1,e2⟩:=HJ w h1 k (ns:=[x',y',z']) g1
 exact ⟨_,⟨⟨x',y',z',zf,g2⟩,_,rfl⟩,e1,e2⟩
mutual
noncomputable def pdD:Dat->dO
 | .bl b=>.bool b
 | .int i=>.int i
 | .str x=>.str x
 | .lst l=>.list (ZW l)
 | .tup l=>.tuple (ZW l)
 | _=>.none
noncomputable def ZW:List Dat->List dO
 | []=>[]
 | a :: r=>pdD a :: ZW r
end
section
variable {X:Cx}{pins:List (ay × Obj)}{s:az}{σ:St}{H:Hp}{O:Own}
mutual
theorem Iq:∀ d:Dat,(pdD d).hasDict=false
 | .non=>by simp [pdD,dA]
 | .bl _=>by simp [pdD,dA]
 | .int _=>by simp [pdD,dA]
 | .str _=>by simp [pdD,dA]
 | .ty _=>by simp [pdD,dA]
 | .rng _ _ _=>by simp [pdD,dA]
 | .scr _ _=>by simp [pdD,dA]
 | .lst l=>by rw [pdD,dA];exact QB l
 | .tup l=>by rw [pdD,dA];exact QB l
theorem QB:∀ l:List Dat,dO.hasDictAll (ZW l)=false
 | []=>by simp [ZW,dO.hasDictAll]
 | a :: r=>by rw [ZW,dO.hasDictAll,Iq a,QB r];rfl
end
mutual
theorem W5:∀ d:Dat,(pdD d).depth<=dp d
 | .non=>by simp [pdD,dO.depth]
 | .bl _=>by simp [pdD,dO.depth]
 | .int _=>by simp [pdD,dO.depth]
 | .str _=>by simp [pdD,dO.depth]
 | .ty _=>by simp [pdD,dO.depth]
 | .rng _ _ _=>by simp [pdD,dO.depth]
 | .scr _ _=>by simp [pdD,dO.depth]
 | .lst l=>by rw [pdD,dO.depth,dp];exact eG (yQ l)
 | .tup l=>by rw [pdD,dO.depth,dp];exact eG (yQ l)
theorem yQ:∀ l:List Dat,dO.depthAll (ZW l)<=dps l
 | []=>by simp [ZW,dO.depthAll]
 | a :: r=>by rw [ZW,dO.depthAll,dps];exact ff.mpr ⟨bz (W5 a) (lp _ _),bz (yQ r) (iR _ _)⟩
end
end
section
variable {X:Cx}
end
structure Sh (b:Nat)(d:Dat):Prop where
 s:(pdD d).showable=true
 l:(pdD d).shown.length<=b
def XM (ρ:ASt)(j:Nat)(p:ay):Prop:=match ρ[j]? with
 | some (some y)=>y.Has p
 | _=>False
noncomputable def Ma (i:Nat)(t:TS):TS:=t
theorem EG {ss:List cg}{t:TS}(i:Nat)(h:PSs X ss t):PSs X ss (Ma i t):=h
noncomputable def Iy (i:Nat)(a:AS):AS:=fun B D ρ M=>∃ p l ds,ρ[i]?=some (some (.ref p))/\M p=some (.lst l)/\pur l=some ds/\B p=none/\(∀ j:Nat,j ≠ i->¬ XM ρ j p)/\(∀ q o,q ≠ p->M q=some o->B q=some o \/ ¬ wg p o)/\a B D (ρ.set i (some (.d (.lst ds)))) (Xk M p)
theorem Bi {t:TS}{a:AS}(h:jq t a):jq (Ma i t) (Iy i a):=⟨fun {H0 O0 M0 D D' σ H O ρ M} w0 w e x q E=>by
 obtain ⟨p,l,ds,hi,hm,hp,hb,ho,hr,q⟩:=q
 obtain ⟨xs,hx,rx⟩:=w.mo p _ hm
 have rx0:=rx
 rw [ky hp] at rx
 have rp:=rx.pure
 have ks:=xL (H:=H) (O:=O) p
 have refs0:∀ q o,M0 q=some o->¬ wg p o:=fun q o eq hr'=>by
  have:=w0.mo q o eq
  cases o with
  | lst l=>obtain ⟨xs,_,rr⟩:=this;obtain ⟨x,hx',hh⟩:=hr';obtain ⟨i,hi⟩:=bC hx';obtain ⟨y,_,ry⟩:=rr.get hi;exact ry.has hh hb
  | dK l=>obtain ⟨xs,_,rr⟩:=this;obtain ⟨x,hx',hh⟩:=hr';obtain ⟨i,hi⟩:=bC hx';obtain ⟨y,_,ry⟩:=rr.2.get hi;exact ry.has hh hb
  | dT l=>obtain ⟨xs,_,rr⟩:=this;obtain ⟨x,hx',hh⟩:=hr';obtain ⟨i,hi⟩:=bC hx';obtain ⟨y,_,ry⟩:=rr.2.get hi;exact ry.has hh hb
  | dN l=>obtain ⟨xs,_,rr,_⟩:=this;obtain ⟨x,hx',hh⟩:=hr';obtain ⟨i,hi⟩:=bC hx';obtain ⟨y,_,ry⟩:=rr.2.get hi;exact ry.has hh hb
  | ins C l=>obtain ⟨dx,xs,_,rr,_⟩:=this;obtain ⟨x,hx',hh⟩:=hr';obtain ⟨i,hi⟩:=bC hx';obtain ⟨y,_,ry⟩:=rr.2.get hi;exact ry.has hh hb
  | exc C l=>exact hr'.elim
  | tb R=>exact hr'.elim
 have av:∀ {v:V} {y:AV},zt H O M v y->¬ y.Has p->zt H (Z7 O p) (Xk M p) v y:=fun {v y} r hy=>by
  cases y with
  | d y=>exact Rep.imp ks r
  | ref a=>exact ⟨r.1,by rw [kY (fun z=>hy (show a=p from z))];exact r.2⟩
  | tp m=>
   obtain ⟨a,xs,h1,h2,h3,h4,h5⟩:=r
   refine ⟨a,xs,h1,fun z=>h2 z.2,h3,h4,fun i x d e1 e2=>?_⟩
   have:=h5 i x d e1 e2
   cases d with
   | inl d=>exact Rep.imp ks this
   | inr q=>exact ⟨this.1,by rw [kY (fun z=>hy (by rw [<- z];exact bf e2))];exact this.2⟩
 have avs:∀ {vs:List V} {ys:List AV},zk H O M vs ys->(¬ ∃ x ∈ ys,x.Has p)->zk H (Z7 O p) (Xk M p) vs ys:=fun r hy=>⟨r.1,fun i v y e1 e2=>av (r.2 i v y e1 e2) fun z=>hy ⟨_,bf e2,z⟩⟩
 have hOd:∀ dx b,O dx->M dx=none->H dx=some b->(∀ xs,b ≠ .lst xs)->Z7 O p dx/\Xk M p dx=none:=fun dx b h1 h2 h3 h4=>⟨⟨Jq h3 hx (h4 _),h1⟩,by unfold Xk;split;rfl;exact h2⟩
 refine h.go w0 ⟨fun q o eq=>?_,fun a ha=>?_,fun a (ha:Z7 O p a)=>w.al a ha.2⟩ ⟨?_,fun j y hj=>?_⟩ ⟨fun a o ha eo=>⟨(x.fix a o ha eo).1,fun (z:Z7 O p a)=>(x.fix a o ha eo).2 z.2⟩,fun a ha eo=>?_,fun a ha=>?_⟩ q E
 ·have hq:q ≠ p:=fun z=>by rw [z,Zh] at eq;cases eq
  rw [kY hq] at eq
  have hno:¬ wg p o:=(hr q o hq eq).elim (fun z=>refs0 q o z) (fun z=>z)
  have:=w.mo q o eq
  cases o with
  | lst l=>obtain ⟨xs,h1,rr⟩:=this;exact ⟨xs,h1,avs rr hno⟩
  | dK l=>obtain ⟨xs,h1,rr⟩:=this;exact ⟨xs,h1,rr.1,avs rr.2 hno⟩
  | dT l=>obtain ⟨xs,h1,rr⟩:=this;exact ⟨xs,h1,rr.1,avs rr.2 hno⟩
  | dN l=>obtain ⟨xs,h1,rr,hp⟩:=this;exact ⟨xs,h1,⟨rr.1,avs rr.2 hno⟩,fun x hx=>(hp x hx).imp ks⟩
  | ins C l=>obtain ⟨dx,xs,h1,rr,h2,h3,h4⟩:=this;exact ⟨dx,xs,h1,⟨rr.1,avs rr.2 hno⟩,(hOd dx _ h2 h3 h4 (fun _ z=>nomatch z)).1,(hOd dx _ h2 h3 h4 (fun _ z=>nomatch z)).2,h4⟩
  | exc C l=>
   obtain ⟨d,h1,h2⟩:=this
   refine ⟨d,h1,?_⟩
   rcases h2 with h2 | ⟨dx,e1,h2,h3,h4⟩
   ·exact .inl h2
   ·exact .inr ⟨dx,e1,h2,(hOd dx _ h3 h4 h2 (fun _ z=>nomatch z)).1,(hOd dx _ h3 h4 h2 (fun _ z=>nomatch z)).2⟩
  | tb R=>obtain ⟨ps,h1,h2⟩:=this;exact ⟨ps,h1,h2.imp id fun ⟨c,oc,u,a1,a2,a3⟩=>⟨c,oc,u,a1,fun z=>a2 z.2,a3⟩⟩
 ·have hq:a ≠ p:=fun z=>ha (by rw [z,Zh])
  rw [kY hq] at ha
  exact ⟨hq,w.own a ha⟩
 ·rw [bN];exact e.len
 ·rw [dG] at hj
  by_cases c:i=j
  ·rw [if_pos c] at hj
   split at hj
   ·cases hj
    obtain ⟨v,hv,rv⟩:=e.get i _ hi
    rw [<- c]
    exact ⟨v,hv,by rw [rv.1];exact Rep.lst (fun z=>z.1 rfl) hx rp.1 fun i x d e1 e2=>(rp.2 i x d e1 e2).imp ks⟩
   ·cases hj
  ·rw [if_neg c] at hj
   obtain ⟨v,hv,rv⟩:=e.get j y hj
   exact ⟨v,hv,av rv (fun z=>ho j (fun z'=>c z'.symm) (by unfold XM;rw [hj];exact z))⟩
 ·obtain ⟨x1,x2,x3⟩:=x.prv a ha eo
  have hne:a ≠ p:=fun z=>by rw [z,hm] at x3;cases x3
  exact ⟨x1,⟨hne,x2⟩,by rw [kY hne];exact x3⟩
 ·have hq:a ≠ p:=fun z=>ha (by rw [z];exact hb)
  rw [kY hq];exact x.mst a ha⟩
theorem BxM.refs {N:Nat}(h:BxM M b N){o:MO}(e:M b=some o)(r:ay):¬ wg r o:=by
 obtain ⟨x,y,z,h1,_⟩:=h
 rw [h1] at e
 cases e
 exact yG (l:=[AV.d (.int x),AV.d (.int y),AV.d (.int z)]) (ds:=[.int x,.int y,.int z]) rfl r
structure SB (M0 M:MH)(b:ay)(N:Nat):Prop where
 bx:BxM M b N
 fr:∀ q,M0 q ≠ none->q ≠ b->M q=M0 q
 b0:M0 b ≠ none
theorem SB.refl {N:Nat}(h:BxM M b N):SB M M b N:=⟨h,fun _ _ _=>rfl,h.ne⟩
theorem SB.go {N N':Nat}(s:SB M0 M b N)(t:BxS M M' b N'):SB M0 M' b N':=⟨t.1,fun q hq hb=>(t.at hb).trans (s.fr q hq hb),s.b0⟩
theorem SB.mono {N N':Nat}(s:SB M0 M b N)(h:N<=N'):SB M0 M b N':=⟨s.bx.mono h,s.fr,s.b0⟩
theorem BxM.put {N:Nat}(h:BxM M b N)(n:b ≠ p)(o:MO):BxM (mup M p o) b N:=by
 obtain ⟨x,y,z,h1,h2⟩:=h
 exact ⟨x,y,z,by rw [zi n];exact h1,h2⟩
theorem SB.new {M0 M:MH}{b p:ay}{N:Nat}(s:SB M0 M b N)(hp:M p=none):M0 p=none/\p ≠ b:=by
 have hb:p ≠ b:=fun z=>s.bx.ne (by rw [<- z];exact hp)
 refine ⟨?_,hb⟩
 cases e:M0 p with
 | none=>rfl
 | some o=>rw [s.fr p (by rw [e];exact fun z=>nomatch z) hb,e] at hp;cases hp
theorem SB.put {N:Nat}(s:SB M0 M b N)(h0:M0 p=none)(hb:p ≠ b)(o:MO):SB M0 (mup M p o) b N:=
 ⟨s.bx.put (Ne.symm hb) o,fun q hq hqb=>by rw [zi (fun z=>hq (by rw [z];exact h0))];exact s.fr q hq hqb,s.b0⟩
theorem SB.fin {N:Nat}(s:SB M0 M b N)(d:Dat):∃ M'',vG M0 M (.d d) (.d d) M''/\BxS M0 M'' b N:=by
 obtain ⟨x,y,z,h1,h2⟩:=s.bx
 refine ⟨mup M0 b (.lst [.d (.int x),.d (.int y),.d (.int z)]),⟨fun q=>?_,fun q o e=>?_,.inl ⟨rfl,fun p z=>nomatch z⟩⟩,⟨x,y,z,zf,h2⟩,_,rfl⟩
 ·by_cases c:q=b
  ·rw [c,zf,h1];exact .inl rfl
  ·rw [zi c]
   cases e:M0 q with
   | none=>exact .inr ⟨rfl,rfl⟩
   | some o=>exact .inl (by rw [s.fr q (by rw [e];exact fun z=>nomatch z) c,e])
 ·by_cases c:q=b
  ·rw [c,zf] at e
   cases e
   exact .inr fun r hr=>absurd hr (yG (ds:=[.int x,.int y,.int z]) rfl r)
  ·rw [zi c] at e;exact .inl e
theorem SB.rt {N:Nat}{Q:AK} (s:SB M0 M b N)(q:∀ M',BxS M0 M' b N->Q (.d d) M'):rtA M0 Q (.d d) M:=by
 obtain ⟨M'',f,t⟩:=s.fin d
 exact ⟨_,_,f,q M'' t⟩
theorem kC {Q:AK} (f:Fr M0 M)(q:Q (.d d) M0):rtA M0 Q (.d d) M:=⟨_,_,qD f d,q⟩
theorem M8 {l:List Dat}{i:Int}(h0:0<=i)(h1:i<l.length):∃ d ∈ l,atI (l.map AV.d) i=some (.d d):=by
 have h2:i.toNat<l.length:=by omega
 refine ⟨l[i.toNat],bv h2,?_⟩
 rw [Ec,Hr h0 h1 .non,aD,au h2];rfl
section
variable {X:Cx}
end
section
open PySem.SeqAt
open PySem.AutoSeq1 (wpAny_loadPart')
open PySem.MeetsSeq PySem.MeetsSeq2 PySem.MeetsSeq3 PySem.SeqRoads2
end
section
variable {X:Cx}
end
section
variable {X:Cx}{pins:List (ay × Obj)}{σ:St}{H:Hp}{s:az}{a b:ay}{kvs:List (List Key × V)}{k:List Key}{v:V}{r:aj}{A:bg}{E:aj->az->Prop}
end
section
variable {prog:aX}{w:bu}{A:bg}{E:aj->az->Prop}{s:az}
end
section
variable {X:Cx}
end
theorem F7 {α τ:Type}(R:τ->ASt)(g f:α->AV)(xs:List α) {N:List AV->ASt->MH->Prop} (h0:∃ o,ρ=R o)(hG:G M)(hl:xs.length<=100000)
  (hs:∀ (o:τ) (x:α) (Q:AV->ASt->MH->Prop),x ∈ xs->(∀ o',Q (f x) (R o') M)->ag (g x) (R o) M fun ρ2 M2=>ae ρ2 M2 fun y M3=>Q y ρ2 M3) (hN:∀ o,N (xs.map f) (R o) M):QU ag Zw (yz ae) G N (xs.map g) [] ρ M:=by
 have hsl:100000<aQ:=by rw [cH];decide
 refine ⟨fun i acc ρ' M'=>i<=xs.length/\acc=(xs.take i).map f/\M'=M/\∃ o,ρ'=R o,⟨cV _,rfl,rfl,h0⟩,?_,?_⟩
 ·rintro i x acc ρ' M' hx ⟨hi,rfl,rfl,o,rfl⟩
  rw [aK] at hx
  cases e:xs[i]? with
  | none=>rw [e] at hx;cases hx
  | some y=>
   rw [e] at hx
   cases hx
   have hil:=(aG.mp e).1
   refine ⟨hG,?_⟩
   refine hs o y (fun z ρ2 M3=>((xs.take i).map f).length<aQ/\(i+1<=xs.length/\(xs.take i).map f ++ [z]=(xs.take (i+1)).map f/\M3=M'/\∃ o,ρ2=R o)) (bf e) fun o'=>⟨by rw [aw,bI];omega,hil,?_,rfl,o',rfl⟩
   rw [iq,e,bO];rfl
 ·rintro acc ρ' M' ⟨_,rfl,rfl,o,rfl⟩
  rw [aw,gw]
  exact ⟨hG,hN o⟩
noncomputable def fl2 (o:Obj):Option aj:=match o.data with
 | .fields vs=>vs[2]?
 | _=>none
def SmD (h h':Heap):Prop:=∀ b o,h.get? b=some o->∃ o',h'.get? b=some o'/\o'.dict=o.dict/\fl2 o'=fl2 o
theorem SmD.refl (h:Heap):SmD h h:=fun _ o e=>⟨o,e,rfl,rfl⟩
theorem SmD.trans {h h1 h2:Heap}(a:SmD h h1)(b:SmD h1 h2):SmD h h2:=fun c o e=>
 let ⟨_,e1,d1,f1⟩:=a c o e
 let ⟨o2,e2,d2,f2⟩:=b c _ e1
 ⟨o2,e2,d2.trans d1,f2.trans f1⟩
theorem SmD.push (h:Heap)(o:Obj):SmD h (h.push o):=fun _ u e=>⟨u,aE _ e,rfl,rfl⟩
theorem SmD.up {h:Heap} {f:Obj->Obj}(k:∀ o,(f o).dict=o.dict/\fl2 (f o)=fl2 o/\(o.isFreed=false->(f o).isFreed=false)):SmD h (h.update a f):=fun b o e=>by
 by_cases c:a=b
 ·subst c
  exact ⟨_,bK f e ((k o).2.2 (Heap.get?_some_iff.mp e).2),(k o).1,(k o).2.1⟩
 ·exact ⟨o,(dP _ _ c).trans e,rfl,rfl⟩
structure Kd {α:Type}(t:Sem α):Prop where
 out:∀ (M:ni) (G:PySem.Ctx) (R:α->Pos->az->Prop) (Ee:aj->Pos->az->Prop) (p:Pos) (s:az),Sem.wp M G t R Ee p s->Sem.wp M G t (fun a p' s'=>R a p' s'/\SmD s.heap s'.heap) Ee p s
section
variable {α β:Type}
theorem Qp (a:α):Kd (Pure.pure a:Sem α):=⟨fun _ _ _ _ _ s h=>⟨h,SmD.refl _⟩⟩
theorem IL (x:String):Kd (unsupported x:Sem α):=⟨fun _ _ _ _ _ _ h=>h⟩
theorem Yr {m:Sem α}{f:α->Sem β}(hm:Kd m)(hf:∀ a,Kd (f a)):Kd (m >>= f):=⟨fun M G R Ee p s h=>by
 rw [Sem.wp_bind'] at h ⊢
 refine Sem.wp_mono M G m (fun a p1 s1 h1=>?_) (fun _ _ _ z=>z) p s (hm.out M G _ Ee p s h)
 refine Sem.wp_mono M G (f a) (fun b p2 s2 h2=>⟨h2.1,h1.2.trans h2.2⟩) (fun _ _ _ z=>z) p1 s1 ((hf a).out M G R Ee p1 s1 h1.1)⟩
theorem Lw {c:Prop}[Decidable c]{t u:Sem α}(ht:Kd t)(hu:Kd u):Kd (if c then t else u):=by split <;> assumption
theorem EV (a:ay):Kd (PySem.load a):=⟨fun _ _ R _ p s h=>by
 unfold PySem.load at h ⊢
 rw [Sem.wp_load] at h ⊢
 obtain ⟨o,e,h⟩:=h
 exact ⟨o,e,h,SmD.refl _⟩⟩
theorem Vo {f:Obj->Obj}(k:∀ o,(f o).dict=o.dict/\fl2 (f o)=fl2 o/\(o.isFreed=false->(f o).isFreed=false)):Kd (PySem.update a f):=⟨fun _ _ R _ p s h=>by
 unfold PySem.update at h ⊢
 rw [Sem.wp_update] at h ⊢
 exact ⟨h.1,h.2,SmD.up k⟩⟩
theorem AB:Kd PySem.stack:=⟨fun M G R Ee p s h=>by
 unfold PySem.stack at h ⊢
 rw [Sem.wp_stack] at h ⊢
 exact ⟨h,SmD.refl _⟩⟩
theorem DQ (o:Obj):Kd (PySem.alloc o):=⟨fun _ _ R _ p s h=>by
 unfold PySem.alloc at h ⊢
 rw [Sem.wp_alloc] at h ⊢
 exact ⟨h,SmD.push _ _⟩⟩
theorem DZ (v:aj)(i:Nat):Kd (PySem.field v i):=⟨fun _ G R Ee p s h=>by
 obtain ⟨a,o,vs,x,e1,e2,e3,e4,q⟩:=(wp_field_iff G v i R Ee p s).mp h
 exact (wp_field_iff G v i _ Ee p s).mpr ⟨a,o,vs,x,e1,e2,e3,e4,q,SmD.refl _⟩⟩
theorem Va (hi:i ≠ 2)(x:aj)(o:Obj):(bB (·.setIfInBounds i x) o).dict=o.dict/\fl2 (bB (·.setIfInBounds i x) o)=fl2 o/\(o.isFreed=false->(bB (·.setIfInBounds i x) o).isFreed=false):=by
 obtain ⟨c,d,dt,sl⟩:=o
 cases dt
 case fields vs=>exact ⟨rfl,Array.getElem?_setIfInBounds_ne hi,fun h=>h⟩
 all_goals exact ⟨rfl,rfl,fun h=>h⟩
theorem JK (v:aj)(i:Nat)(x:aj)(hi:i ≠ 2):Kd (PySem.setField v i x):=⟨fun _ G R Ee p s h=>by
 obtain ⟨a,o,vs,e1,e2,e3,e4,q⟩:=(wp_setField_iff G v i x R Ee p s).mp h
 exact (wp_setField_iff G v i x _ Ee p s).mpr ⟨a,o,vs,e1,e2,e3,e4,q,SmD.up (Va hi x)⟩⟩
end
local macro_rules | `(tactic| walk_at "kd")=>`(tactic| repeat' with_reducible first
  | assumption
  | exact Qp _
  | exact IL _
  | exact DZ _ _
  | exact JK _ _ _ (by decide)
  | exact EV _
  | exact AB
  | exact DQ _
  | apply Lw
  | apply Yr
  | intro _
  | split)
theorem V6 (env:Env)(outer:List Env):Kd (behindIsImport env outer):=by
 unfold behindIsImport
 walk_at "kd"
theorem Y9:Kd underTheClaimsCaller:=by
 unfold underTheClaimsCaller
 walk_at "kd"
theorem Gj (env:Env)(i:Bool)(l:List Env):Kd (keptBack env i l):=by
 have:=Y9
 cases l <;> unfold keptBack <;> walk_at "kd"
theorem Jy:∀ l:List Env,Kd (readyFrames l)
 | []=>Qp _
 | env :: outer=>by
  have ih:=Jy outer
  have h1:=V6 env outer
  have h2:=fun i=>Gj env i outer
  unfold readyFrames
  walk_at "kd"
  all_goals first | exact h2 _ | exact Vo fun o=>⟨rfl,rfl,fun z=>by obtain ⟨c,d,dt,sl⟩:=o;cases dt <;> exact z⟩ | skip
theorem Q2 (l:List Env):Kd (frameObject l):=by
 cases l with
 | nil=>exact Qp _
 | cons env outer=>
  have:=Jy (env :: outer)
  unfold frameObject
  walk_at "kd"
theorem QH:Kd frameEnvs:=by
 unfold frameEnvs
 walk_at "kd"
theorem KL (env:Env):Kd (PySem.frameOf env):=by
 have h1:=QH
 have h2:=Q2
 unfold PySem.frameOf
 walk_at "kd"
 all_goals first | exact h2 _ | skip
theorem BC (f:ay)(b:Bool):Kd (entryPlaceOf f b):=by
 unfold entryPlaceOf
 walk_at "kd"
theorem A7 (a b c d e:aj)(l:List aj):Kd (EntryCells.newEntry a b c d e l):=by
 unfold EntryCells.newEntry newFields newObj newObjAsIs
 walk_at "kd"
theorem Z2 (e:aj)(env:Env):Kd (iM e env):=by
 have h1:=KL env
 have h2:=BC
 have h3:=A7
 unfold iM
 walk_at "kd"
 all_goals first | exact h2 _ _ | exact h3 _ _ _ _ _ _ | skip
theorem xM (e:aj)(f:Option ay):Kd (iS e f):=by
 unfold iS
 walk_at "kd"
theorem wR (env:Env)(e:aj):Kd (leaving env e):=Yr (Z2 e env) fun _=>xM e none
theorem Kd.any {α:Type}{t:Sem α}(k:Kd t){M:ni} {Q:α->az->Prop}{E:aj->az->Prop} (h:aS M A t Q E s):aS M A t (fun a s'=>Q a s'/\SmD s.heap s'.heap) E s:=
 fun G p hG=>k.out M G _ _ p s (h G p hG)
theorem zS.here {P:aX}{w:bu}{H:Hp}{h:Heap}{a:ay}{o:HO}(x:zS P w H h a o):∃ u,h.get? a=some u:=by
 cases o with
 | lst xs=>obtain ⟨_,_,_,_,e⟩:=x;exact ⟨_,e⟩
 | tup xs=>obtain ⟨_,_,_,o,e,_⟩:=x;exact ⟨_,e⟩
 | dK kvs=>obtain ⟨_,_,_,_,o,_,_,e,_⟩:=x;exact ⟨_,e⟩
 | dT kvs=>obtain ⟨_,_,_,_,o,_,_,e,_⟩:=x;exact ⟨_,e⟩
 | set S n=>obtain ⟨o,_,_,_,e,_⟩:=x;exact ⟨_,e⟩
 | ins C dx fs=>obtain ⟨_,_,_,e,_⟩:=x;exact ⟨_,e⟩
 | own y=>exact x
 | xd fs=>obtain ⟨_,⟨_,_,_,e,_⟩,_⟩:=x;exact ⟨_,e⟩
 | rng lo hi=>obtain ⟨_,_,_,e⟩:=x;exact ⟨_,e⟩
 | frz ob u=>obtain ⟨e,_⟩:=x;exact ⟨_,e⟩
 | tbl ps=>exact ⟨_,x⟩
 | met f y=>exact ⟨_,x⟩
 | ext φ=>exact x.2.1
structure yb (P:aX)(w:bu)(outer:List Env)(H:Hp)(s:az)(B:Heap)(H':Hp)(s':az):Prop where
 os:s'.os=s.os
 bare:gQ s'.gens
 stay:B.StaysIn s'.heap
 cov:∀ b o,s.heap.get? b=some o->b ∉ frs outer->∃ o',B.get? b=some o'/\(H b=none->o'=o)
 slot:∀ b o,s.heap.get? b=some o->b ∈ frs outer->∃ sl,s'.heap.get? b=some { o with slots:=sl }
 frf:∀ b ∈ frs outer,H b=none
 free:∀ b o,s.heap.get? b=some o->H b=none->H' b=none
 tups:∀ b xs,H b=some (.tup xs)->H' b=some (.tup xs)
 frzs:∀ b o u,H b=some (.frz o u)->H' b=some (.frz o u)
 tbls:∀ b ps,H b=some (.tbl ps)->∃ more,H' b=some (.tbl (ps ++ more))
 hok:HOk P w H' B
section
variable {P:aX}{w:bu}{outer:List Env}{H H':Hp}{s s':az}{B h':Heap}
theorem yb.un (a:yb P w outer H s B H' s'):Un (frs outer) [] H H' s.heap s'.heap where
 keep:=fun b o e n hb _=>by
  obtain ⟨o',e1,e2⟩:=a.cov b o e hb
  rw [e2 n] at e1
  exact a.stay b o e1
 slot:=fun b o e _ hb _=>a.slot b o e hb
 free:=fun b o e n _=>a.free b o e n
 there:=fun b o e _=>by
  by_cases hb:b ∈ frs outer
  ·obtain ⟨sl,z⟩:=a.slot b o e hb
   exact ⟨_,z⟩
  ·obtain ⟨o',e1,_⟩:=a.cov b o e hb
   exact ⟨_,a.stay b o' e1⟩
 tups:=a.tups
 frzs:=a.frzs
 tbls:=a.tbls
theorem yb.ok (a:yb P w outer H s B H' s'):HOk P w H' s'.heap:=a.hok.kept a.stay
theorem yb.step (a:yb P w outer H s B H' s'){B0:Heap}(fr:s'.heap.FunFrames B0 outer)(k:B.StaysIn h')(u:s'.heap.UpToSlots h'):yb P w outer H s B H' { s' with heap:=h' }:=
 ⟨a.os,a.bare,k,a.cov,fun b o e hb=>by
  obtain ⟨sl,z⟩:=a.slot b o e hb
  obtain ⟨_,o2,e2,nf⟩:=fr.mem hb
  rw [z] at e2;cases e2
  obtain ⟨sl2,z2⟩:=u b _ z nf
  exact ⟨sl2,z2⟩,a.frf,a.free,a.tups,a.frzs,a.tbls,a.hok⟩
end
section
variable {X:Cx}{pins:List (ay × Obj)}{σ:St}{H H':Hp}{s s':az}{B h':Heap}
theorem Inv.ltS (I:Inv X pins σ H s) {o:Obj}(e:X.s₀.heap.get? b=some o):b ≠ X.env.locals:=fun z=>by
 have h:=bw (aI e) I.ok.above
 rw [z] at h
 exact dk _ h
theorem Inv.notStk (I:Inv X pins σ H s) {o:Obj}(e:X.s₀.heap.get? b=some o)(hb:b ∉ frs X.outer):b ∉ frs X.stack:=fun z=>(aF.mp (I.stkSub b z)).elim (I.ltS e) hb
theorem yY {X:Cx}(hs:X.stack=X.env :: X.outer){b:ay}(hb:b ∈ frs X.outer):b ∈ frs X.stack:=by
 rw [hs];unfold frs;rw [fu]
 cases X.env.frame with
 | none=>exact hb
 | some f=>exact bj _ hb
theorem yb.out (I:Inv X pins σ H s)(hs:X.stack=X.env :: X.outer)(hex:X.ex=[])(a:yb X.prog X.w X.stack H s B H' s'):yb X.prog X.w X.outer X.H₀ X.s₀ B H' s':=by
 have nx:∀ b,b ∉ X.ex:=fun b=>by rw [hex];simp
 refine ⟨a.os.trans I.os,a.bare,a.stay,fun b o e hb=>?_,fun b o e hb=>?_,I.ok.frf,fun b o e n=>?_,fun b xs e=>a.tups b xs (I.base.tups b xs e),fun b o u e=>a.frzs b o u (I.base.frzs b o u e),fun b ps e=>?_,a.hok⟩
 ·obtain ⟨o1,e1⟩:=I.base.there b o e (nx b)
  obtain ⟨o',e2,e3⟩:=a.cov b o1 e1 (I.notStk e hb)
  refine ⟨o',e2,fun n=>?_⟩
  have:=I.base.keep b o e n hb (nx b)
  rw [e1] at this;cases this
  exact e3 (I.base.free b o e n (nx b))
 ·obtain ⟨sl,e1⟩:=I.base.slot b o e (I.ok.frf b hb) hb (nx b)
  obtain ⟨sl2,e2⟩:=a.slot b _ e1 (yY hs hb)
  exact ⟨sl2,e2⟩
 ·obtain ⟨o1,e1⟩:=I.base.there b o e (nx b)
  exact a.free b o1 e1 (I.base.free b o e n (nx b))
 ·obtain ⟨m1,e1⟩:=I.base.tbls b ps e
  obtain ⟨m2,e2⟩:=a.tbls b _ e1
  exact ⟨m1 ++ m2,by rw [e2,lU]⟩
noncomputable def jB (X:Cx)(s:az)(x:ay):Heap:=PySem.W.hideAll s.heap (x :: frs X.stack)
theorem XN (I:Inv X pins σ H s){x:ay}(hx:H x=none):HOk X.prog X.w H (jB X s x):=fun a o e=>by
 refine (I.hok a o e).stay (fun b u hb q=>ft _ q fun z=>?_) (fun _ q=>q) fun _ _ q=>q
 have:H b=none:=by
  rcases aF.mp z with rfl | z
  ·exact hx
  ·exact I.stkFree b z
 rcases hb with rfl | hb
 ·rw [e] at this;cases this
 ·rw [hb] at this;cases this
theorem Kz (I:Inv X pins σ H s)(hs:X.stack=X.env :: X.outer)(hex:X.ex=[]){x:ay}(hx0:X.s₀.heap.get? x=none)(hx:H x=none)(st:(jB X s x).StaysIn h')(us:s.heap.UpToSlots h') :
  yb X.prog X.w X.outer X.H₀ X.s₀ (jB X s x) H { s with heap:=h' }:=by
 have nx:∀ b,b ∉ X.ex:=fun b=>by rw [hex];simp
 have hid:∀ b o o',X.s₀.heap.get? b=some o->b ∉ frs X.outer->s.heap.get? b=some o'->(jB X s x).get? b=some o':=fun b o o' e hb e1=>ft _ e1 fun z=>by
  rcases aF.mp z with rfl | z
  ·rw [hx0] at e;cases e
  ·exact I.notStk e hb z
 refine ⟨I.os,I.bare,st,fun b o e hb=>?_,fun b o e hb=>?_,I.ok.frf,fun b o e n=>I.base.free b o e n (nx b),I.base.tups,I.base.frzs,I.base.tbls,XN I hx⟩
 ·obtain ⟨o1,e1⟩:=I.base.there b o e (nx b)
  refine ⟨o1,hid b o o1 e hb e1,fun n=>?_⟩
  have:=I.base.keep b o e n hb (nx b)
  rw [e1] at this;cases this;rfl
 ·obtain ⟨sl,e1⟩:=I.base.slot b o e (I.ok.frf b hb) hb (nx b)
  obtain ⟨_,o2,e2,nf⟩:=I.stack.mem (yY hs hb)
  rw [e1] at e2;cases e2
  obtain ⟨sl2,e3⟩:=us b _ e1 nf
  exact ⟨sl2,e3⟩
end
def Two (d:Option ay)(H:Hp):Prop:=∃ dx fs,d=some dx/\H dx=some (.xd fs)/\2<=fs.length
structure Air (P:aX)(w:bu)(outer:List Env)(H:Hp)(s:az)(x C:ay)(d:Option ay)(H':Hp)(s':az):Prop where
 ex:∃ B a0,yb P w outer H s B H' s'/\fm B outer x (.ref C) a0 s'.heap
 dct:∃ o,s'.heap.get? x=some o/\o.dict=d/\(fl2 o=some .none \/ Two d H')
noncomputable def CX1 (P:aX)(w:bu):CXT:=fun outer H s E e s'=>∃ x C d H',e=.ref x/\Air P w outer H s x C d H' s'/\E (.ref C) d H'
theorem CX1.imp {s s':az}{E E':XK}{e:aj}(h:CX1 P w outer H s E e s')(k:∀ c d H',E c d H'->E' c d H'):CX1 P w outer H s E' e s':=
 let ⟨x,C,d,H',e1,a,q⟩:=h
 ⟨x,C,d,H',e1,a,k _ _ _ q⟩
structure DX (X:Cx)(E:XK):Prop where
 stk:X.stack=X.env :: X.outer
 ex:X.ex=[]
 fr:X.env.frame=some X.env.locals
 xe:X.xe=fun e s'=>aS (aR X.prog X.w) X.A (leaving X.env e) (fun _ s''=>CX1 X.prog X.w X.outer X.H₀ X.s₀ E e s'') (fun e' s''=>CX1 X.prog X.w X.outer X.H₀ X.s₀ E e' s'') s'
section
variable {X:Cx}{E:XK}{pins:List (ay × Obj)}{σ:St}{H H':Hp}{s s':az}
theorem DX.pass (D:DX X E):xl (CX1 X.prog X.w) X E:=by
 intro pins σ H s e s' I h
 obtain ⟨x,C,d,H',rfl,⟨⟨B,a0,a,fl⟩,o,ho,hd,h2⟩,q⟩:=h
 rw [D.xe]
 have hs:=D.stk
 rw [hs] at fl
 refine bn ((wR X.env (.ref x)).any (wpAny_leaves_onW (E:=fun _ _=>False) (Q:=fun _ s2=>∃ h',s2={ s' with heap:=h' }/\fm B X.outer x (.ref C) a0 h'/\s'.heap.UpToSlots h') (by rw [<- hs];exact I.ok.frames) D.fr fl fun h' f1 us=>⟨h',rfl,f1,us⟩)) (fun _ s2 h2=>?_) fun _ _ z=>z.elim
 obtain ⟨⟨h',rfl,f1,us⟩,sd⟩:=h2
 obtain ⟨o',ho',hd',hf'⟩:=sd x o ho
 exact ⟨x,C,d,H',rfl,⟨⟨B,a0,(a.out I hs D.ex).step (B0:=B) (by
  obtain ⟨_,_,f3,_⟩:=fl
  exact f3.2.2) f1.1 us,f1⟩,o',ho',hd'.trans hd,h2.imp (fun z=>hf'.trans z) id⟩,q⟩
theorem DX.raise (D:DX X E)(I:Inv X pins σ H s){x C:ay}{d:Option ay}{oe:Obj}{vs:Array aj}{a0:aj}{h1:Heap}(k:∀ b o,b ≠ x->s.heap.get? b=some o->h1.get? b=some o)(kx:∀ o,s.heap.get? x=some o->∃ vs,o.data=.fields vs)
  (he:h1.get? x=some oe) (hc:oe.cls=.ref C) (hd:oe.dict=d) (hf:oe.data=.fields vs) (hv1:vs[1]?=some .none) (hv0:vs[0]?=some a0) (hv2:vs[2]?=some .none \/ Two d H) (hx0:X.s₀.heap.get? x=none) (hx:H x=none) (q:E (.ref C) d H):X.xe (.ref x) { s with heap:=h1 }:=by
 rw [D.xe]
 have hs:=D.stk
 have st1:(jB X s x).StaysIn h1:=fun b o e=>k b o (fun z=>by rw [z,jB,du _ (bD)] at e;cases e) (gT _ e)
 have us1:s.heap.UpToSlots h1:=fun b o e nf=>by
  by_cases c:b=x
  ·rw [c] at e
   obtain ⟨vs,z⟩:=kx o e
   exact absurd z (nf vs)
  ·exact ⟨o.slots,k b o c e⟩
 have fr0:s.heap.FunFrames (jB X s x) (X.env :: X.outer):=by
  have:=I.stack
  rw [hs] at this
  exact i8 this fun env he b hb=>bj _ (by rw [hs];exact eJ.mpr ⟨env,he,hb⟩)
 have fr1:h1.FunFrames (jB X s x) (X.env :: X.outer):=fr0.of_keeps fun b o e nf=>by
  obtain ⟨sl,z⟩:=us1 b o e nf
  exact ⟨_,z,rfl⟩
 have xn:(jB X s x).get? x=none:=du _ bD
 refine bn ((wR X.env (.ref x)).any (wpAny_leaving_firstW (s:={ s with heap:=h1 }) (E:=fun _ _=>False) (base:=jB X s x) (Q:=fun _ s2=>∃ h',s2={ s with heap:=h' }/\Heap.LeftW (jB X s x) (X.env :: X.outer) x oe.cls a0 h1 h') (by rw [<- hs];exact I.ok.frames) fr1 D.fr he st1 xn hf hv1 hv0 fun h' hl=>⟨h',rfl,hl⟩)) (fun _ s2 h2=>?_) fun _ _ z=>z.elim
 obtain ⟨⟨h',rfl,l1,l2,l3,l4⟩,sd⟩:=h2
 obtain ⟨o',ho',hd',hf'⟩:=sd x oe he
 have hff:fl2 oe=vs[2]?:=by unfold fl2;rw [hf]
 rw [hc] at l3
 exact ⟨x,C,d,H,rfl,⟨⟨jB X s x,a0,Kz I hs D.ex hx0 hx l1 (us1.trans l4),l1,xn,l2.2.2,l3⟩,o',ho',hd'.trans hd,hv2.imp (fun z=>(hf'.trans hff).trans z) id⟩,q⟩
end
def yx (CX:CXT)(X:Cx)(E:St->XK):Prop:=∀ (pins:List (ay × Obj)) (σ:St) (H:Hp) (s:az) (e:aj) (s':az),Inv X pins σ H s->CX X.stack H s (E σ) e s'->X.xe e s'
noncomputable def JZ (sp:Sp)(E:St->XK)(t:TA):TE:=fun σ H Q=>t σ H fun vs H1=>sp vs H1 Q (E σ)
def DfX (P:aX)(w:bu)(K:aA)(mg:Str->Option aj)(base:Heap)(x:Str)(ps:List Str)(k:Nat)(sp:Sp):Prop:=
 ∃ f fd,jK P w K mg base (CX1 P w) k f fd ps sp/\jH K fd ps []/\de K (.ref f)=true/\mg x=some (.ref f)
section
variable {X:Cx}{k:Nat}{x:Str}{ps:List Str}{sp:Sp}{E:St->XK}{p pos:Pos}{e:Expr}{es:List Expr}{t:TA}
theorem YA {CX:CXT}{f:ay}{fd:df}{pins:List (ay × Obj)}{σ:St}{H:Hp}{s:az}{Q:VK}{us:List aj}{vs:List V}(F:jK X.prog X.w X.K X.mg X.base CX k f fd ps sp)(hr:qu k X.A)(hb:jH X.K fd ps [])(hx:yx CX X E)
  (I:Inv X pins σ H s) (r:zJ vs us) (h:sp vs H Q (E σ)):aS (aR X.prog X.w) X.A (call (.ref f) us) (EP X pins σ Q) X.xe s:=by
 have hl:(us ++ []).length=ps.length:=by rw [bW,<- r.length];exact F.len _ _ _ _ h
 have b1:=hb s us I.kIn hl
 rw [bW] at b1
 refine hJ (fj (F.run X.A X.stack s H ⟨us,[]⟩ us vs Q (E σ) hr I.env0 b1 r h) fun r s' hq=>?_)
 cases r with
 | error e=>exact hx pins σ H s e s' I hq
 | ok fl=>
  cases fl with
  | ret u=>exact I.after hq
  | next=>exact bM hq
  | brk=>exact bM hq
  | cont=>exact bM hq
theorem Yh (D:DfX X.prog X.w X.K X.mg X.base x ps k sp)(hr:qu k X.A)(hg:Gl X x)(hx:yx (CX1 X.prog X.w) X E)(ha:PA X (e :: es) t)(hdb:(x == ("__debug__":Str))=false:=by decide)
  (he:aO (e :: es) X.env=(false,eval e X.env) :: aO es X.env:=by rfl) (hpl:(b9 pos (aO es X.env)).any (·.1)=false:=by rfl):PE X (.Call (.Name x p) (e :: es) [] pos) (JZ sp E t):=by
 obtain ⟨f,fd,F,b,kp,m⟩:=D
 intro pins s σ H Q I h
 refine dZ (jY I hg m ?_ hdb)
 refine eK (h₀:=X.base) I.ok.mod.kin kp (thn (ha pos pins s σ H _ I h) fun us s1 ⟨vs,H1,I1,r,q⟩=>⟨I1.kIn,?_⟩) he hpl
 exact YA F hr b hx I1 r q
theorem DX.passX {E0:XK}(D:DX X E0):yx (CX1 X.prog X.w) X fun _=>E0:=fun pins σ H s e s' I h=>D.pass pins σ H s e s' I h
end
theorem Ik {x:Str} {k:Nat} (a:At K mg x st)(S:zr N ps (zg st))
  (hb:∀ (kV doc pm:aj) (an:Option ay) (cdv ct:aj) (us:List aj),us.length=ps.length->eM (bJ x x (qx st) (zQ st) (zg st) .none kV doc pm an cdv ct) ⟨us,[]⟩=pure (ps.zip us))
  (len:∀ vs H Q E,sp vs H Q E->vs.length=ps.length)
  (hbody:∀ (f:ay) (cdv:aj) (A:bg) (outer:List Env) (s:az) (H:Hp) (vs:List V) (Q:VK) (E:XK),qu k (A.deeper (e8 x (zg st) s.heap.objs.size f cdv))->sp vs H Q E ->
   ∃ t,(DX (jS (CX1 P w) P w K mg base N x (zg st) f cdv A outer s H E) E->PSs (jS (CX1 P w) P w K mg base N x (zg st) f cdv A outer s H E) (zQ st) t)/\t { nx:=fun _ H'=>Q .non H',rt:=Q } (start N vs) H):DfX P w K mg base x ps (k+1) sp:=by
 obtain ⟨f,fd,F,m⟩:=a
 refine ⟨f,fd,?_,F.binds hb,F.kp,m⟩
 obtain ⟨oc,od,kV,doc,pm,an,cdv,ct,osl,rfl,lk,hcd⟩:=F.ex
 refine DK lk hcd S len fun A outer s H vs Q E hr hsp=>?_
 obtain ⟨t,ht,q⟩:=hbody f cdv A outer s H vs Q E hr hsp
 exact ⟨t,ht ⟨rfl,rfl,rfl,rfl⟩,q⟩
abbrev yW:List aj:=[.type "ValueError",.type "Exception",.type "BaseException",.type "object"]
section
variable {X:Cx}{E:XK}{C:ay}{x:Str}{np cpos pos:Pos}{e:Expr}{es:List Expr}{t:TA}
end
theorem D6 {h:Heap} {d:Option ay}{o:Obj}{vs:Array aj}(e:h.get? a=some o)(hc:o.cls=.ref C)(hd:o.dict=d)(hf:o.data=.fields vs):zS P w H h a (Za a C d):=
 ⟨⟨o,e,hc,hd,vs,hf⟩,⟨o,e⟩,fun _ _ ⟨o,e,r⟩ k=>⟨o,k o e,r⟩⟩
section
variable {X:Cx}{pins:List (ay × Obj)}{σ:St}{H H':Hp}{s s':az}
theorem Inv.track (I:Inv X pins σ H s){x:ay} (hx:H x=none)(h0:X.s₀.heap.get? x=none)(hl:x ≠ X.env.locals)(hc:∀ y c,X.env.cells.lookup y=some c->c ≠ x)(hp:∀ p ∈ X.pn ++ pins,p.1 ≠ x)(ok:zS X.prog X.w (upd H x o) s.heap x o):Inv X pins σ (upd H x o) s:=by
 refine ⟨I.ok,I.os,I.bare,⟨I.base.keep,I.base.slot,fun b u e n hb=>?_,I.base.there,fun b xs e=>?_,fun b u v e=>?_,fun b ps e=>?_⟩,I.loc,I.cell,?_,fun y c e=>?_,fun p hp'=>?_,fun b u e=>?_,I.len⟩
 ·rw [zj (fun z=>by rw [z,h0] at e;cases e)];exact I.base.free b u e n hb
 ·have:=I.base.tups b xs e;rw [zj (zp this hx)];exact this
 ·have:=I.base.frzs b u v e;rw [zj (zp this hx)];exact this
 ·obtain ⟨m,this⟩:=I.base.tbls b ps e;exact ⟨m,by rw [zj (zp this hx)];exact this⟩
 ·rw [zj (Ne.symm hl)];exact I.free
 ·rw [zj (hc y c e)];exact I.freeC y c e
 ·obtain ⟨e1,e2,e3⟩:=I.pin p hp'
  exact ⟨e1,by rw [zj (hp p hp')];exact e2,e3⟩
 ·by_cases c:b=x
  ·subst c;rw [zl] at e;cases e;exact ok
  ·rw [zj c] at e
   exact (I.hok b u e).stay (fun _ _ _ q=>q) (fun d q=>by rw [zj (zp q hx)];exact q) fun d xs q=>by rw [zj (zp q hx)];exact q
theorem Inv.goes (I:Inv X pins σ H s) {n:Str}{m:Str->Option aj}{v:Option aj}{h':Heap}{t':Nat}(nd:X.N.Nodup)(hi:X.N[i]?=some n)(hm:s.heap.Ns X.env.locals m)(hn:h'.Ns X.env.locals fun y=>if y=n then v else m y)(sb:bX X.env.locals s.heap h'):Inv X pins (σ.set i none) H { s with heap:=h',toks:=t' }:=by
  have kp:∀ b o,b ≠ X.env.locals->s.heap.get? b=some o->h'.get? b=some o:=fun b o hb e=>(sb.2 b hb).trans e
  refine ⟨I.ok,I.os,I.bare,⟨fun b o e n hb hx=>kp b o (I.ltS e) (I.base.keep b o e n hb hx),fun b o e n hb hx=>?_,I.base.free,fun b o e hx=>?_,I.base.tups,I.base.frzs,I.base.tbls⟩,⟨_,hn,fun j y u e1 e2 e3=>?_⟩,fun y c e=>?_,I.free,I.freeC,fun p hp=>?_,fun b u e=>?_,by rw [bN];exact I.len⟩
  · obtain ⟨sl,e1⟩:=I.base.slot b o e n hb hx
    exact ⟨sl,kp b _ (I.ltS e) e1⟩
  · obtain ⟨o',e1⟩:=I.base.there b o e hx
    exact ⟨o',kp b o' (I.ltS e) e1⟩
  · have ij : j ≠ i := fun z => by
      rw [z,dG] at e2
      simp only [if_true] at e2
      split at e2 <;> cases e2
    rw [cU (Ne.symm ij)] at e2
    obtain ⟨m',hm',hl⟩:=I.loc
    have em:∀ y,m' y=m y:=fun y=>by
      obtain ⟨o1,es1,ep1,g1,g2,_,g4⟩:=hm'
      obtain ⟨o2,es2,ep2,g1',g2',_,g4'⟩:=hm
      rw [g1] at g1';cases g1'
      rw [g2] at g2';cases g2'
      rw [<- g4 y,g4' y]
    obtain ⟨w,rw1,lk⟩:=hl j y u e1 e2 e3
    refine ⟨w,rw1,?_⟩
    have yn:y ≠ n:=fun z=>ij (wH nd e1 (z ▸ hi))
    rcases lk with ⟨k,z⟩ | ⟨k,c,e,z⟩
    · refine .inl ⟨k,?_⟩
      show (if y=n then v else m y)=_
      rw [if_neg yn,<- em];exact z
    · refine .inr ⟨k,c,e,?_⟩
      obtain ⟨o,ho,hd⟩:=z
      exact ⟨o,kp c o (I.cne y c e) ho,hd⟩
  · obtain ⟨v',o,ho,hd⟩:=I.cell y c e
    exact ⟨v',o,kp c o (I.cne y c e) ho,hd⟩
  · obtain ⟨e,n,ne,nf,d⟩:=I.pin p hp
    exact ⟨kp _ _ ne e,n,ne,nf,d⟩
  · refine (I.hok b u e).stay (fun c v hc q=>kp c v (fun z=>?_) q) (fun _ q=>q) fun _ _ q=>q
    have:=I.free
    rw [<- z] at this
    rcases hc with rfl | hc
    · rw [e] at this;cases this
    · rw [hc] at this;cases this
end
noncomputable abbrev Cx.tried (X:Cx)(pins:List (ay × Obj))(xe:aj->az->Prop):Cx:={ X with pn:=X.pn ++ pins,xe:=xe }
noncomputable abbrev Cx.inside (X:Cx)(x:ay):Cx:={ X with A:=X.A.mark (some (.ref x)),calm:=false,xe:=fun _ _=>False }
theorem Cx.Ok.tried (ok:X.Ok)(pins:List (ay × Obj))(xe:aj->az->Prop):(X.tried pins xe).Ok:=
 ⟨ok.mod,ok.kind,ok.glob,ok.blt,ok.above,ok.inj,ok.has,ok.cab,ok.hd,ok.frames,ok.stk,ok.exf,ok.bs,ok.bsz,ok.noex,ok.exfs,ok.funs,ok.frf⟩
variable {xe:aj->az->Prop}
theorem Cx.Ok.untried (ok:(X.tried pins xe).Ok):X.Ok:=
 ⟨ok.mod,ok.kind,ok.glob,ok.blt,ok.above,ok.inj,ok.has,ok.cab,ok.hd,ok.frames,ok.stk,ok.exf,ok.bs,ok.bsz,ok.noex,ok.exfs,ok.funs,ok.frf⟩
theorem Cx.Ok.inside (ok:X.Ok)(x:ay):(X.inside x).Ok:=
 ⟨ok.mod,ok.kind,ok.glob,ok.blt,ok.above,ok.inj,ok.has,ok.cab,(fun z=>nomatch z),ok.frames,ok.stk,ok.exf,ok.bs,ok.bsz,ok.noex,ok.exfs,ok.funs,ok.frf⟩
section
variable {X:Cx}{pins pins':List (ay × Obj)}{σ:St}{H:Hp}{s s':az}{xe:aj->az->Prop}
theorem Inv.tried (I:Inv X pins σ H s)(xe:aj->az->Prop):Inv (X.tried pins xe) [] σ H s:=⟨I.ok.tried pins xe,I.os,I.bare,I.base,I.loc,I.cell,I.free,I.freeC,fun p hp=>I.pin p (by rw [bW] at hp;exact hp),I.hok,I.len⟩
theorem Inv.untried (I:Inv (X.tried pins xe) pins' σ H s):Inv X pins σ H s:=⟨I.ok.untried,I.os,I.bare,I.base,I.loc,I.cell,I.free,I.freeC,fun p hp=>I.pin p (gB _ hp),I.hok,I.len⟩
theorem Inv.inside (I:Inv X pins σ H s)(x:ay):Inv (X.inside x) pins σ H s:=⟨I.ok.inside x,I.os,I.bare,I.base,I.loc,I.cell,I.free,I.freeC,I.pin,I.hok,I.len⟩
theorem Inv.outside {x:ay}(ok:X.Ok)(I:Inv (X.inside x) pins σ H s):Inv X pins σ H s:=⟨ok,I.os,I.bare,I.base,I.loc,I.cell,I.free,I.freeC,I.pin,I.hok,I.len⟩
theorem SP.untried {D:xf}{f:Flow}(h:SP (X.tried pins xe) [] D f s'):SP X pins D f s':=by
 cases f with
 | next=>obtain ⟨σ',H',I,q⟩:=h;exact ⟨σ',H',I.untried,q⟩
 | brk=>obtain ⟨σ',H',I,q⟩:=h;exact ⟨σ',H',I.untried,q⟩
 | cont=>obtain ⟨σ',H',I,q⟩:=h;exact ⟨σ',H',I.untried,q⟩
 | ret u=>obtain ⟨v,σ',H',I,r,q⟩:=h;exact ⟨v,σ',H',I.untried,r,q⟩
theorem Air.here (I:Inv X pins σ H s)(hs:X.stack=X.env :: X.outer)(hf:X.env.frame=some X.env.locals)(hex:X.ex=[]){B:Heap}{a0:aj}{x C:ay}{d:Option ay} (a:yb X.prog X.w X.stack H s B H' s')(fl:fm B X.stack x (.ref C) a0 s'.heap)(hd:∃ o,s'.heap.get? x=some o/\o.dict=d/\(fl2 o=some .none \/ Two d H')) :
  H' x=none/\Inv X pins σ (upd H' x (Za x C d)) s':=by
 obtain ⟨f1,f2,f3,oe,vs,T,oT,ts,he,⟨hc,_⟩,hdt,_⟩:=fl
 obtain ⟨o',ho',hd',_⟩:=hd
 rw [he] at ho';cases ho'
 have hx:H' x=none:=by
  cases z:H' x with
  | none=>rfl
  | some o=>obtain ⟨u,e⟩:=(a.hok x o z).here;rw [f2] at e;cases e
 have I1:Inv X pins σ H' s':=I.call' (ch:=[]) a.os a.un a.ok a.bare (fun b z=>absurd z (by simp))
 have nB:∀ b o,s.heap.get? b=some o->b ∉ frs X.stack->b ≠ x:=fun b o e hb z=>by
  obtain ⟨o',e1,_⟩:=a.cov b o e hb
  rw [z,f2] at e1;cases e1
 refine ⟨hx,I1.track hx ?_ (fun z=>?_) (fun y c e z=>?_) (fun p hp z=>?_) (D6 he hc hd' hdt)⟩
 ·cases z:X.s₀.heap.get? x with
  | none=>rfl
  | some o=>
   obtain ⟨o1,e1⟩:=I.base.there x o z (by rw [hex];simp)
   by_cases hb:x ∈ frs X.stack
   ·obtain ⟨_,o2,e2,nf⟩:=f3.mem hb
    rw [he] at e2;cases e2
    exact absurd hdt (nf vs)
   ·exact absurd rfl (nB x o1 e1 hb)
 ·obtain ⟨m,⟨o,es,ep,ho,hdd,_⟩,_⟩:=I1.loc
  rw [<- z,he] at ho;cases ho
  rw [hdt] at hdd;cases hdd
 ·obtain ⟨v,o,ho,hdd⟩:=I1.cell y c e
  rw [z,he] at ho;cases ho
  rw [hdt] at hdd;cases hdd
 ·obtain ⟨e1,e2,e3,e4,_⟩:=I.pin p hp
  refine nB p.1 p.2 e1 (fun w=>?_) z
  rcases aF.mp (I.stkSub p.1 w) with q | q
  ·exact e3 q
  ·exact e4 q
end
noncomputable def Gm (i:Nat)(D:xf):xf:={ nx:=fun σ H=>D.nx (σ.set i none) H,rt:=D.rt,bk:=fun σ H=>D.bk (σ.set i none) H,ct:=fun σ H=>D.ct (σ.set i none) H }
noncomputable def eh1 (K:aA)(i:Nat)(T:ay)(th:TS)(D:xf):St->XK:=fun σ1 c d H1=>∃ C,c=.ref C/\cf K (.ref C) (.ref T)=some true/\∀ x,H1 x=none->th (Gm i D) (σ1.set i (some (.ref x))) (upd H1 x (Za x C d))
noncomputable def HF (K:aA)(i:Nat)(T:ay)(tb:(St->XK)->TS)(th:TS):TS:=fun D σ H=>tb (eh1 K i T th D) D σ H
def vo (X:Cx)(H:Hp)(s:az)(B:Heap)(x C:ay)(d:Option ay)(a0:aj)(H':Hp)(s':az):Prop:=
 yb X.prog X.w X.stack H s B H' s'/\fm B X.stack x (.ref C) a0 s'.heap/\∃ o,s'.heap.get? x=some o/\o.dict=d/\(fl2 o=some .none \/ Two d H')
section
variable {X:Cx}{pins:List (ay × Obj)}{σ:St}{H H':Hp}{s s':az}{B:Heap}{x C:ay}{d:Option ay}{a0:aj}
theorem vo.lands {M:ni}{E:aj->az->Prop}{Q:Unit->az->Prop}(h:vo X H s B x C d a0 H' s')(k:∀ s2,vo X H s B x C d a0 H' s2->Q () s2):aS M A (iS (.ref x) none) Q E s':=by
 obtain ⟨a,fl,o,ho,hd,h2f⟩:=h
 refine bn ((xM (.ref x) none).any (lands_againW (E:=E) (Q:=fun _ s2=>∃ h',s2={ s' with heap:=h' }/\fm B X.stack x (.ref C) a0 h'/\s'.heap.UpToSlots h') fl fun h' f1 us=>⟨h',rfl,f1,us⟩)) (fun _ s2 h2=>?_) fun _ _ z=>z
 obtain ⟨⟨h',rfl,f1,us⟩,sd⟩:=h2
 obtain ⟨o',ho',hd',hf'⟩:=sd x o ho
 exact k _ ⟨a.step fl.2.2.1 f1.1 us,f1,o',ho',hd'.trans hd,h2f.imp (fun z=>hf'.trans z) id⟩
theorem vo.noted {E:aj->az->Prop}{Q:Unit->az->Prop}(ok:X.Ok)(hs:X.stack=X.env :: X.outer)(hf:X.env.frame=some X.env.locals)(h:vo X H s B x C d a0 H' s')(k:∀ s2,vo X H s B x C d a0 H' s2->Q () s2) :
  aS (aR X.prog X.w) X.A (iM (.ref x) X.env) (fun _ s2=>aS (aR X.prog X.w) X.A (iS (.ref x) none) Q E s2) E s':=by
 obtain ⟨a,fl,o,ho,hd,h2f⟩:=h
 have fl':=fl
 rw [hs] at fl'
 refine bn ((Z2 (.ref x) X.env).any (wpAny_looks_onW (E:=E) (Q:=fun _ s2=>∃ h',s2={ s' with heap:=h' }/\Heap.HeldW B (X.env :: X.outer) x (.ref C) a0 X.env.locals h'/\s'.heap.UpToSlots h') (by rw [<- hs];exact ok.frames) hf fl' fun h' f1 us=>⟨h',rfl,f1,us⟩)) (fun _ s2 h2=>?_) fun _ _ z=>z
 obtain ⟨⟨h',rfl,f1,us⟩,sd⟩:=h2
 obtain ⟨o',ho',hd',hf'⟩:=sd x o ho
 have a2:=a.step fl.2.2.1 f1.1 us
 refine bn ((xM (.ref x) none).any (wpAny_landsW (E:=E) (Q:=fun _ s3=>∃ h'',s3={ s' with heap:=h'' }/\fm B (X.env :: X.outer) x (.ref C) a0 h''/\h'.UpToSlots h'') f1 fun h'' f2 us2=>⟨h'',rfl,f2,us2⟩)) (fun _ s3 h3=>?_) fun _ _ z=>z
 obtain ⟨⟨h'',rfl,f2,us2⟩,sd2⟩:=h3
 obtain ⟨o'',ho'',hd'',hf''⟩:=sd2 x o' ho'
 refine k _ ⟨a2.step (s':={ s' with heap:=h' }) (by rw [hs];exact f1.2.2.1) f2.1 us2,by rw [hs];exact f2,o'',ho'',(hd''.trans hd').trans hd,h2f.imp (fun z=>(hf''.trans hf').trans z) id⟩
theorem Fb {D:xf}{E:aj->az->Prop}{i:Nat}{n:Str}{hpos:Pos}{f:Flow}(ok:X.Ok)(nd:X.N.Nodup)(hi:X.N[i]?=some n)(hl:X.env.kindOf n=some .local)(h:SP (X.inside x) pins (Gm i D) f s) :
  aS (aR X.prog X.w) X.A (do fD X.env n .none;unbindBehindTheSuite X.env n hpos) (fun _ s2=>SP X pins D f s2) E s:=by
 have hp:(X.env.scope.kind == .class || (X.env.scope.kind == .module && X.env.locals != X.env.globals))=false:=by rw [ok.kind];rfl
 cases f with
 | next=>
  obtain ⟨σ',H',I,q⟩:=h
  have I':=I.outside ok
  obtain ⟨m,hm,_⟩:=id I'.loc
  exact el hl hm hp fun h' v hn sb=>⟨_,H',I'.goes nd hi hm hn sb,q⟩
 | brk=>
  obtain ⟨σ',H',I,q⟩:=h
  have I':=I.outside ok
  obtain ⟨m,hm,_⟩:=id I'.loc
  exact el hl hm hp fun h' v hn sb=>⟨_,H',I'.goes nd hi hm hn sb,q⟩
 | cont=>
  obtain ⟨σ',H',I,q⟩:=h
  have I':=I.outside ok
  obtain ⟨m,hm,_⟩:=id I'.loc
  exact el hl hm hp fun h' v hn sb=>⟨_,H',I'.goes nd hi hm hn sb,q⟩
 | ret u=>
  obtain ⟨v,σ',H',I,r,q⟩:=h
  have I':=I.outside ok
  obtain ⟨m,hm,_⟩:=id I'.loc
  exact el hl hm hp fun h' w hn sb=>⟨v,_,H',I'.goes nd hi hm hn sb,r,q⟩
variable {body suite:List cg}{b₀:cg}{n tx:Str}{i:Nat}{T:ay}{np hpos pos:Pos}{tb:(St->XK)->TS}{th:TS}
theorem Et (hs:X.stack=X.env :: X.outer)(hf:X.env.frame=some X.env.locals)(hex:X.ex=[])(nd:X.N.Nodup)(hi:X.N[i]?=some n)(hl:X.env.kindOf n=some .local)(hg:Gl X tx)(hm:X.mg tx=some (.ref T))
  (hb:∀ (pins:List (ay × Obj)) (xe:aj->az->Prop) (Eh:St->XK),yx (CX1 X.prog X.w) (X.tried pins xe) Eh->PSs (X.tried pins xe) body (tb Eh)) (hh:∀ x,PSs (X.inside x) (b₀ :: suite) th)
  (hdb:(tx == ("__debug__":Str))=false:=by decide):PS X (.Try body [.ExceptHandler (some (.Name tx np)) (some n) (b₀ :: suite) hpos] [] [] pos) (HF X.K i T tb th):=by
 intro pins s σ H D I h
 refine wpAny_Try_except (bn (hb pins (fun e s'=>∃ σ1 H1 s1,Inv X pins σ1 H1 s1/\CX1 X.prog X.w X.stack H1 s1 (eh1 X.K i T th D σ1) e s') (eh1 X.K i T th D) (fun pins' σ1 H1 s1 e s' I1 c=>⟨σ1,H1,s1,I1.untried,c⟩) [] s σ H D (I.tried _) h) (fun f s1 q=>?_) fun e s1 q=>?_)
 ·have q:=q.untried
  cases f with
  | next=>exact fG q
  | brk=>exact q
  | cont=>exact q
  | ret u=>exact q
 ·obtain ⟨σ1,H1,s1',I1,x,C,d,H',rfl,⟨⟨B,a0,a,fl⟩,hd⟩,C',eC,hx,q⟩:=q
  cases eC
  refine vo.noted I.ok hs hf ⟨a,fl,hd⟩ fun s3 h3=>?_
  obtain ⟨hx0,I3⟩:=Air.here I1 hs hf hex h3.1 h3.2.1 h3.2.2
  refine wpAny_handleBy_cons (codeAny_handlers_test (jY (I3.inside x) hg hm ?_ hdb)) (by intro z;cases z)
  obtain ⟨oe,vs,he,hc,_⟩:=h3.2.1.first
  have LT:eQ (aR X.prog X.w) s3.heap (typeOf (.ref x)) (.ref C):=hc ▸ (eQ.ld he).andThen .now
  refine (PySem.W.exm_one I3.kIn LT hx).here ?_
  refine h8 (h3.lands fun s4 h4=>?_)
  obtain ⟨_,I4⟩:=Air.here I1 hs hf hex h4.1 h4.2.1 h4.2.2
  refine jr I4 nd hi (aV hl) (show zG (.ref x) (.ref x) from rfl) (fun s5 I5=>?_) (.inr hl)
  exact bn (hh x pins s5 _ _ _ (I5.inside x) (q x hx0)) (fun f s6 h6=>Fb I.ok nd hi hl h6) fun _ _ z=>z.elim
end
open PySem.W (Looks InstAt findIn findObj subIn mroIn)
section
variable {prog:aX}{w:bu}{A:bg}{E:aj->az->Prop}{h:Heap}{g:Array GenState}{d:Drawn}{t:Nat}{os:OsState}{K:aA}{x C:ay}{ox:Obj}{od:Option Obj}{name:Str}
theorem Eu {tk : Tok}{R : mT -> az -> Prop}(X : K.In h)(I : InstAt h x ox C od)(hb : lE K (.ref C) (.type "BaseException") = some true)(k : aS (aR prog w) A.in1 (Builtin.«object.__getattribute__» ⟨[.ref x, .str name tk], []⟩)
      (fun fin s'=>match fin with | .done (.ret v)=>R (.ok (.ret v)) s' | _=>False) (fun _ _=>False) ⟨h,g,d,t,os⟩) :
    fL (aR prog w) A (.call (.builtin "BaseException.__getattribute__") ⟨[.ref x,.str name tk],[]⟩) R ⟨h,g,d,t,os⟩:=by
  have L0:=I.type (M:=aR prog w)
  have L1:=PySem.W.looks_subIn (M:=aR prog w) X hb
  have hk:builtinKind "BaseException.__getattribute__"=some .slot:=by decide +kernel
  have hsplit:splitId "BaseException.__getattribute__"=some ("BaseException","__getattribute__"):=by decide +kernel
  have ha:=F.args_bexc_ga (.ref x) (.str name tk)
  refine codeAny_call_builtin F.excAttr_ValueError.ga.plain F.entry_bexc_ga ?_
  simp only [checkBuiltinCall,hk,hsplit]
  have LI:gE (aR prog w) h (isInstance (.ref x) (.type "BaseException")) true:=L0.andThen L1
  refine aq (LI.at ?_)
  simp only [iC,me,if_false]
  have fin:aS (aR prog w) A.in1 (Builtin.«object.__getattribute__» ⟨[.ref x,.str name tk],[]⟩) (fun fin s'=>match fin with | .done f=>R (.ok f) s' | .again c'=>c'.quiet=true/\fL (aR prog w) A c' R s') (fun e s'=>R (.error e) s') ⟨h,g,d,t,os⟩:=
    bn k (fun fin s' z=>by rcases fin with (_ | _ | _ | _) | _ <;> first | exact z | exact z.elim) fun _ _ z=>z.elim
  clear k L0 L1 LI
  repeat (any_goals (first | assumption | wp_step))
theorem GV {tk:Tok}{fill expr:Bool}{Q:aj->az->Prop}(X:K.In h)(I:InstAt h x ox C od)(hb:lE K (.ref C) (.type "BaseException")=some true)
  (h1:d7 K (.ref C) "__getattribute__"=some (some (.builtin "BaseException.__getattribute__"))) (h2:d7 K (.ref C) "__getattr__"=some none)
  (k:aS (aR prog w) A.in1 (Builtin.«object.__getattribute__» ⟨[.ref x,.str name tk],[]⟩)
   (fun fin s'=>match fin with | .done (.ret v)=>aS (aR prog w) A (handedOut v) Q E s' | _=>False) (fun _ _=>False) ⟨h,g,d,t,os⟩) :
  aS (aR prog w) A (getAttrBy (.ref x) (.str name tk) fill expr) Q E ⟨h,g,d,t,os⟩:=by
 have L0:=I.type (M:=aR prog w)
 have L1:=e7 (M:=aR prog w) X h1
 have L2:=e7 (M:=aR prog w) X h2
 have f3:=F.excAttr_ValueError.ga.bind (.ref x)
 have hx0:(expr && onTheHeap (aj.builtin "BaseException.__getattribute__"))=false:=by cases expr <;> rfl
 have hx2:(aj.builtin "BaseException.__getattribute__" == aj.builtin "object.__getattribute__")=false:=by decide +kernel
 have hx1:(onTheHeap (aj.ref C) && aj.builtin "BaseException.__getattribute__" == aj.builtin "object.__getattribute__")=false:=by rw [hx2];rfl
 repeat (any_goals (first | assumption | with_reducible refine gE.at L0 ?_ | with_reducible refine gE.at L1 ?_ | with_reducible refine gE.at L2 ?_ | wp_step))
 exact Eu X I hb k
theorem AY {Q:Option aj->az->Prop}(X:K.In h)(I:InstAt h x ox C od)(hb:lE K (.ref C) (.type "BaseException")=some true)
  (h1:d7 K (.ref C) "__getattribute__"=some (some (.builtin "BaseException.__getattribute__"))) (h2:d7 K (.ref C) "__getattr__"=some none)
  (hf:gA K C od "__class__"=some (.bind (.builtin "getset_descriptor.__get__") (.builtin "object.__class__"))) (hm:mO K C (.type "object")=some true) (q:Q (some (.ref C)) ⟨h,g,d,t+1,os⟩) :
  aS (aR prog w) A (getAttr? (.ref x) "__class__") Q E ⟨h,g,d,t,os⟩:=by
 unfold getAttr? getAttrBy?
 refine aq (wpAny_mkText (aq (iB ?_)))
 refine GV X I hb h1 h2 ?_
 have L0:=I.type (M:=aR prog w)
 have L1:=mf (M:=aR prog w) X I hf
 unfold Builtin.«object.__getattribute__»
 repeat (any_goals (first | assumption | with_reducible refine gE.at L0 ?_ | with_reducible refine gE.at L1 ?_ | wp_step))
 refine PySem.W.class_get (od:=od) X I hm ?_
 refine aL ?_
 exact PySem.W.handed_on rfl (aL q)
theorem Qh {a g:aj}(hc:(eR K C).isSome=true)(ha:d7 K (.ref C) name=some (some a))(hg:eW K a "__get__"=some (some g))(ht:gH K a=some true):gA K C none name=some (.bind g a):=by
 obtain ⟨cd,hc⟩:=iz.mp hc
 unfold PySem.W.findObj
 rw [hc,m9,ha,m9]
 simp [hg,ht]
structure vw (K:aA)(C:ay):Prop where
 bx:lE K (.ref C) (.type "BaseException")=some true
 ga:d7 K (.ref C) "__getattribute__"=some (some (.builtin "BaseException.__getattribute__"))
 gt:d7 K (.ref C) "__getattr__"=some none
 cl:d7 K (.ref C) "__class__"=some (some (.builtin "object.__class__"))
 gs:eW K (.builtin "object.__class__") "__get__"=some (some (.builtin "getset_descriptor.__get__"))
 tk:gH K (.builtin "object.__class__")=some true
 mo:mO K C (.type "object")=some true
 is:(eR K C).isSome=true
def F0 (x C:ay)(h:Heap):Prop:=∃ o,h.get? x=some o/\o.cls=.ref C/\(o.dict=none \/ ∃ dx u,o.dict=some dx/\h.get? dx=some u)/\∃ vs,o.data=.fields vs
theorem F0.inst {x C:ay}{h:Heap}(e:F0 x C h):∃ o od,InstAt h x o C od:=by
 obtain ⟨o,h1,h2,h3,vs,h4⟩:=e
 rcases h3 with h3 | ⟨dx,u,h3,h5⟩
 ·exact ⟨o,none,h1,h2,by unfold fg;rw [h4],by rw [h3];trivial⟩
 ·exact ⟨o,some u,h1,h2,by unfold fg;rw [h4],by rw [h3];exact h5⟩
theorem Dg (c:vw K C):PySem.W.KitX K (.ref x) (.ref C) (F0 x C) where
 ty:=fun _ _ _ e=>let ⟨_,_,I⟩:=e.inst;I.type
 it:=fun _ _ X _=>by
  have z:=c.is
  unfold eR at z
  split at z
  ·rename_i ho
   intro A' Q' E' s' k q
   unfold isType loadHead
   exact aq (gY (k _ _ (X _ _ ho)) (aL q))
  ·cases z
 ne:=fun h tp dd its n sl X htp=>by
  refine Bool.eq_false_iff.mpr fun q=>?_
  have e:C=tp:=aj.ref.inj (beq_iff_eq.mp q)
  subst e
  have z:=c.is
  unfold eR at z
  split at z
  ·rename_i ho
   have y:=(X _ _ ho).symm.trans htp
   cases y
  ·cases z
 ca:=fun {prog w A E Q s} X e q=>by
  obtain ⟨o,od,I⟩:=e.inst
  obtain ⟨h,g,d,t,os⟩:=s
  refine AY X I c.bx c.ga c.gt ?_ c.mo q
  cases od with
  | none=>exact Qh c.is c.cl c.gs c.tk
  | some od=>exact PySem.W.findObj_data c.is c.cl c.gs c.tk
end
inductive K4 (X:Cx):List Expr->List aj->Prop
 | nil:K4 X [] []
 | own {x:Str} {p:Pos} {C:ay} {es:List Expr} {cs:List aj}:Gl X x->X.mg x=some (.ref C)->(x == ("__debug__":Str))=false->K4 X es cs->K4 X (.Name x p :: es) (.ref C :: cs)
 | blt {x:Str} {p:Pos} {T:String} {es:List Expr} {cs:List aj}:Gl X x->X.mg x=none->bH x=some (.type T)->x ≠ "__name__"->(x == ("__debug__":Str))=false->K4 X es cs->K4 X (.Name x p :: es) (.type T :: cs)
noncomputable def IF (K:aA)(cs:List aj)(t:TE):TE:=fun σ H Q=>t σ H fun v H1=>∃ a C d b,v=.ref a/\H1 a=some (Za a C d)/\(d=none \/ ∃ dx fs,d=some dx/\H1 dx=some (.xd fs))/\vw K C/\aY K (.ref C) cs=some b/\Q (.bl b) H1
section
variable {X:Cx}{e c:Expr}{es:List Expr}{cs:List aj}{t:TE}{p pos tp:Pos}{kk:Nat}
theorem HN {h:Heap} {d:Option ay}(ok:HOk P w H h)(x:H a=some (Za a C d))(hd:d=none \/ ∃ dx fs,d=some dx/\H dx=some (.xd fs)):F0 a C h:=by
 obtain ⟨⟨o,h1,h2,h3,h4⟩,_⟩:=ok a _ x
 refine ⟨o,h1,h2,?_,h4⟩
 rcases hd with rfl | ⟨dx,fs,rfl,h5⟩
 ·exact .inl h3
 ·obtain ⟨u,hu⟩:=(ok dx _ h5).here
  exact .inr ⟨dx,u,h3,hu⟩
theorem Hk (he:PE X e t)(hg:Gl X "isinstance")(hm:X.mg "isinstance"=none)(hc:K4 X [c] cs)
  (hst:aO [e,c] X.env=(false,eval e X.env) :: aO [c] X.env:=by rfl) (hst2:aO [c] X.env=(false,eval c X.env) :: aO [] X.env:=by rfl) (hpl:(b9 pos (aO [c] X.env)).any (·.1)=false:=by rfl):PE X (.Call (.Name "isinstance" p) [e,c] [] pos) (IF X.K cs t):=by
 intro pins s σ H Q I h
 refine dZ (xa I hg hm zz ?_ (by decide) (by decide))
 refine gn ?_ hst hpl
 rw [hst]
 refine dY (thn (he pins s σ H _ I h) fun u s1 ⟨v,H1,I1,r,a,C,d,b,ev,ha,hd,xc,hb,q⟩=>?_)
 subst ev
 obtain rfl:u=aj.ref a:=r
 rw [hst2]
 refine dY ?_
 rw [if_neg bo]
 have one:∀ {c:aj},aY X.K (.ref C) [c]=some b->gZ X.K (.ref C) c=some b:=fun {c} z=>by
  unfold aY at z
  split at z
  ·rename_i y;cases z;exact y
  ·rename_i y;have z:some false=some b:=z;cases z;exact y
  ·cases z
 have en:=HN I1.hok ha hd
 have fin:∀ cv,cs=[cv]->aS (aR X.prog X.w) X.A (call (.builtin "isinstance") [.ref a,cv]) (EP X pins σ Q) X.xe s1:=fun cv z=>by
  subst z
  exact cc (Dg xc) I1.kIn en (one hb) (by intro z;cases z) fun tk=>⟨.bl b,H1,I1.tok tk,rfl,q⟩
 cases hc with
 | own g1 m1 d1 r1=>cases r1;exact jY I1 g1 m1 (eX (fin _ rfl)) d1
 | blt g1 m1 v1 n1 d1 r1=>cases r1;exact xa I1 g1 m1 v1 (eX (fin _ rfl)) n1 d1
end
abbrev AXK:=ay->List (Str × V)->MH->Prop
abbrev xo:=List AV->MH->AK->AXK->Prop
def Ku (H:Hp)(O:Own)(M:MH)(d:Option ay)(fs:List (Str × V)):Prop:=d=none/\fs=[] \/ ∃ dx,d=some dx/\H dx=some (.xd fs)/\O dx/\M dx=none
theorem Ku.ext {d:Option ay}{fs:List (Str × V)}(k:Ext H O M H' O' M')(x:Ku H O M d fs):Ku H' O' M' d fs:=by
 rcases x with x | ⟨dx,e,h1,h2,h3⟩
 ·exact .inl x
 ·obtain ⟨x1,x2,x3⟩:=k.prv dx h2 h3
  exact .inr ⟨dx,e,x1.trans h1,x2,x3⟩
noncomputable def jk (a:xo):Sp:=fun vs H Q E=>∃ xs M O Q' E',Wf H O M/\zk H O M vs xs/\a xs M Q' E'/\(∀ x M' v H' O',Q' x M'->Ext H O M H' O' M'->Wf H' O' M'->zt H' O' M' v x->Q v H') /\
 ∀ C fs M' H' O' d,E' C fs M'->Ext H O M H' O' M'->Wf H' O' M'->Ku H' O' M' d fs->E (.ref C) d H'
noncomputable def cE (H0:Hp)(O0:Own)(M0:MH)(E':AXK):XK:=fun c d H'=>∃ C fs M' O',c=.ref C/\E' C fs M'/\Ext H0 O0 M0 H' O' M'/\Wf H' O' M'/\Ku H' O' M' d fs
structure EXs (H0:Hp)(O0:Own)(M0:MH)(E:St->XK)(EA:ASt->AXK):Prop where
 go:∀ σ ρ C fs M' H' O' d,EA ρ C fs M'->Ext H0 O0 M0 H' O' M'->Wf H' O' M'->Er H' O' M' σ ρ->Ku H' O' M' d fs->E σ (.ref C) d H'
theorem YK {E':AXK}:EXs H0 O0 M0 (fun _=>cE H0 O0 M0 E') (fun _=>E'):=⟨fun _ _ C fs M' H' O' d q k w _ x=>⟨C,fs,M',O',rfl,q,k,w,x⟩⟩
structure kz (HX:Hp)(OX:Own)(MX:MH)(t:TS)(a:AS):Prop where
 go:∀ {H0:Hp} {O0:Own} {M0:MH} {D:xf} {D':jn} {σ:St} {H:Hp} {O:Own} {ρ:ASt} {M:MH},Ext HX OX MX H0 O0 M0->Wf H0 O0 M0->Wf H O M->Er H O M σ ρ->Ext H0 O0 M0 H O M->a M0 D' ρ M->ED H0 O0 M0 D D'->t D σ H
section
variable {HX:Hp}{OX:Own}{MX:MH}{t u:TS}{a b:AS}{E:St->XK}{EA:ASt->AXK}{sp:xo}{ta:TA}{aa:AA}
theorem Ew (h:jq t a):kz HX OX MX t a:=⟨fun _ w0 w e x q E=>h.go w0 w e x q E⟩
theorem WY (h1:kz HX OX MX t a)(h2:kz HX OX MX u b):kz HX OX MX (VD t u) (yj a b):=
 ⟨fun kx w0 w e x q E=>h1.go kx w0 w e x q ⟨fun σ H O ρ M w e x q=>h2.go kx w0 w e x q E,E.rt,E.bk,E.ct⟩⟩
theorem DT {c:TT} (hc:xp c ac)(h1:kz HX OX MX t a)(h2:kz HX OX MX u b):kz HX OX MX (Ey c t u) (vE ac a b):=
 ⟨fun kx w0 w e x q E=>hc.go w e q fun k M1 H1 O1 q1 k1 w1=>by
  cases k with
  | true=>exact h1.go kx w0 w1 (e.ext k1) (x.trans k1) q1 E
  | false=>exact h2.go kx w0 w1 (e.ext k1) (x.trans k1) q1 E⟩
theorem BG (hi:Jr wi ai)(hg:vB g ag)(hb:kz HX OX MX t a):kz HX OX MX (FI wi g t) (Fy ai ag a):=⟨fun {H0 O0 M0 D D' σ H O ρ M} kx w0 w e x q E=>by
 rw [Z3]
 refine hi.go w e q fun l G M1 J H1 O1 q1 k1 w1 hj=>?_
 have E1:=E.tr (x.trans k1)
 have kx1:=kx.trans (x.trans k1)
 obtain ⟨Pv,p0,ps,pd⟩:=q1
 refine ⟨fun i m σ H=>m=l.length - i/\i<=l.length/\∃ O ρ M,Wf H O M/\Er H O M σ ρ/\Ext H1 O1 M1 H O M/\Pv i ρ M,⟨l.length,by simp,cV _,O1,ρ,M1,w1,e.ext k1,.refl,p0⟩,?_⟩
 rintro i m σ H ⟨rfl,hi,O,ρ,M,w,e,x,hf⟩
 by_cases hil:i<l.length
 ·have hy:l[i]?=some l[i]:=au hil
  obtain ⟨hG,q2⟩:=ps i l[i] ρ M hy hf
  obtain ⟨j1,j2⟩:=(hj H O M x.fix x.mst w hG i).2 l[i] hy
  refine .inr ⟨j1,fun σ' H'=>∃ O ρ M,Wf H' O M/\Er H' O M σ' ρ/\Ext H1 O1 M1 H' O M/\Pv (i+1) ρ M,fun σ' H' z=>⟨l.length - (i+1),by omega,rfl,hil,z⟩,fun v H' hv=>?_⟩
  obtain ⟨k2,w2,r2⟩:=j2 v H' hv
  refine hg.go w2 (e.ext k2) r2 q2 fun σ3 H3 O3 ρ3 M3 q3 k3 w3 e3=>?_
  exact hb.go kx1 w1 w3 e3 ((x.trans k2).trans k3) q3 ⟨fun σ H O ρ M w e x q=>⟨O,ρ,M,w,e,x,q⟩,E1.rt,E1.nx,fun σ H O ρ M w e x q=>⟨O,ρ,M,w,e,x,q⟩⟩
 ·have e0:i=l.length:=by omega
  subst e0
  obtain ⟨hG,q2⟩:=pd ρ M hf
  exact .inl ⟨(hj H O M x.fix x.mst w hG l.length).1 rfl,E1.nx _ _ _ _ _ w e x q2⟩⟩
noncomputable def K6 (sp:xo)(EA:ASt->AXK)(b:AA):AE:=fun ρ M Q=>b ρ M fun xs M1=>sp xs M1 Q (EA ρ)
theorem W7 (hE:EXs HX OX MX E EA)(hu:jo ta aa) {Q':AK}(kx:Ext HX OX MX H O M)(w:Wf H O M)(e:Er H O M σ ρ)(q:K6 sp EA aa ρ M Q')(k:∀ x M' v H' O',Q' x M'->Ext H O M H' O' M'->Wf H' O' M'->zt H' O' M' v x->Q v H'):JZ (jk sp) E ta σ H Q:=
 hu.go w e q fun xs M1 vs H1 O1 q1 k1 w1 r1=>⟨xs,M1,O1,Q',EA ρ,w1,r1,q1,fun x M2 v H2 O2 q2 k2 w2 r2=>k x M2 v H2 O2 q2 (k1.trans k2) w2 r2,fun C fs M' H' O' d q2 k2 w2 xd=>hE.go σ ρ C fs M' H' O' d q2 ((kx.trans k1).trans k2) w2 (e.ext (k1.trans k2)) xd⟩
theorem AW (hE:EXs HX OX MX E EA)(hu:jo ta aa)(hg:vB g ag):kz HX OX MX (Qn (JZ (jk sp) E ta) g) (Vg (K6 sp EA aa) ag):=
 ⟨fun kx _ w e x q D=>W7 hE hu (kx.trans x) w e q fun y M1 v H1 O1 q1 k1 w1 r1=>hg.go w1 (e.ext k1) r1 q1 fun σ2 H2 O2 ρ2 M2 q2 k2 w2 e2=>D.nx _ _ _ _ _ w2 e2 ((x.trans k1).trans k2) q2⟩
end
noncomputable def Gx (i:Nat)(D:jn):jn:={ nx:=fun ρ M=>D.nx (ρ.set i none) M,rt:=D.rt,bk:=fun ρ M=>D.bk (ρ.set i none) M,ct:=fun ρ M=>D.ct (ρ.set i none) M }
noncomputable def Mm (K:aA)(i:Nat)(T:ay)(ab:(ASt->AXK)->AS)(ah:AS):AS:=fun B D ρ M=>
 ab (fun ρ1 C fs M1=>cf K (.ref C) (.ref T)=some true/\∀ x,M1 x=none->ah B (Gx i D) (ρ1.set i (some (.ref x))) (mup M1 x (.exc C fs))) B D ρ M
theorem Er.drop (e:Er H O M σ ρ)(i:Nat):Er H O M (σ.set i none) (ρ.set i none):=e.clr [i]
theorem EL (w:Wf H O M){x C:ay}{d:Option ay}{fs:List (Str × V)}(hx:H x=none)(xd:Ku H O M d fs) :
  Wf (upd H x (Za x C d)) (yf O x) (mup M x (.exc C fs))/\Ext H O M (upd H x (Za x C d)) (yf O x) (mup M x (.exc C fs)):=by
 have k:=vX w hx (Za x C d) (.exc C fs)
 exact ⟨Kw w hx (fun _ z=>nomatch z) ⟨d,zl,xd.ext k⟩,k⟩
section
variable {K:aA}{i:Nat}{T:ay}{tb:(St->XK)->TS}{th:TS}{ab:(ASt->AXK)->AS}{ah:AS}
theorem F3 (hb:∀ (H0:Hp) (O0:Own) (M0:MH) (E:St->XK) (EA:ASt->AXK),EXs H0 O0 M0 E EA->kz H0 O0 M0 (tb E) (ab EA))(hh:jq th ah):jq (HF K i T tb th) (Mm K i T ab ah):=
 ⟨fun {H0 O0 M0 D D' σ H O ρ M} w0 w e x q E=>(hb H0 O0 M0 _ _ ⟨fun σ1 ρ1 C fs M1 H1 O1 d q1 k1 w1 e1 xd=>⟨C,rfl,q1.1,fun y hy=>by
  obtain ⟨w2,k2⟩:=EL (C:=C) w1 hy xd
  refine hh.go w0 w2 ((e1.ext k2).set (show zt _ _ _ (.ref y) (.ref y) from ⟨rfl,by rw [zf];exact fun z=>nomatch z⟩) i) (k1.trans k2) (q1.2 y (w1.fresh hy).2) ⟨fun σ H O ρ M w e x q=>E.nx _ _ _ _ _ w (e.drop i) x q,E.rt,fun σ H O ρ M w e x q=>E.bk _ _ _ _ _ w (e.drop i) x q,fun σ H O ρ M w e x q=>E.ct _ _ _ _ _ w (e.drop i) x q⟩⟩⟩).go .refl w0 w e x q E⟩
noncomputable def LS (K:aA)(cs:List aj)(a:AE):AE:=fun ρ M Q=>a ρ M fun v M1=>∃ x C fs b,v=.ref x/\M1 x=some (.exc C fs)/\vw K C/\aY K (.ref C) cs=some b/\Q (.d (.bl b)) M1
theorem Gb {cs:List aj}{t:TE}{a:AE}(h:zK t a):zK (IF K cs t) (LS K cs a):=⟨fun w e q k=>h.go w e q fun v M1 u H1 O1 q1 k1 w1 r1=>by
 obtain ⟨x,C,fs,b,rfl,hx,xc,hb,q2⟩:=q1
 obtain ⟨d,h1,h2⟩:=w1.mo x _ hx
 refine ⟨x,C,d,b,r1.1,h1,?_,xc,hb,k _ _ _ _ _ q2 k1 w1 .bl⟩
 rcases h2 with h2 | ⟨dx,e1,h2,_⟩
 ·exact .inl h2.1
 ·exact .inr ⟨dx,fs,e1,h2⟩⟩
end
noncomputable def exA (M0:MH)(E:AXK):AXK:=fun C fs M'=>∃ M'',vG M0 M' (.d .non) (.d .non) M''/\E C fs M''
theorem PSs.wish' {st:List cg}{t:TS}(k:∀ e s,xe e s->X.xe e s)(h:PSs (X.wish xe) st t):PSs X st t:=fun pins s σ H D I hw=>
 bn (h pins s σ H D (I.wish _) hw) (fun _ _ q=>q.unwish) fun e s z=>k e s z
theorem LG {P : aX}{w : bu}{K : aA}{mg : Str -> Option aj}{base : Heap}{x : Str}{st : cg}{N ps : List Str}{k : Nat}{a : xo}(at_ : At K mg x st)(S : zr N ps (zg st))
    (hb:∀ (kV doc pm:aj) (an:Option ay) (cdv ct:aj) (us:List aj),us.length=ps.length->eM (bJ x x (qx st) (zQ st) (zg st) .none kV doc pm an cdv ct) ⟨us,[]⟩=pure (ps.zip us))
    (len:∀ xs M Q E,a xs M Q E->xs.length=ps.length)
    (hbody:∀ (f:ay) (cdv:aj) (A:bg) (outer:List Env) (s:az) (H:Hp) (HX:Hp) (OX:Own) (MX:MH) (E':AXK),qu k (A.deeper (e8 x (zg st) s.heap.objs.size f cdv)) ->
      DX (jS (CX1 P w) P w K mg base N x (zg st) f cdv A outer s H (cE HX OX MX E')) (cE HX OX MX E') ->
      ∃ t,PSs (jS (CX1 P w) P w K mg base N x (zg st) f cdv A outer s H (cE HX OX MX E')) (zQ st) t/\∃ b,kz HX OX MX t b/\∀ xs Q E0,E'=exA MX E0->a xs MX Q E0->b MX { nx:=fun _ M'=>rtA MX Q (.d .non) M',rt:=rtA MX Q } (zM N xs) MX):DfX P w K mg base x ps (k+1) (jk a):=by
  refine Ik at_ S hb (fun vs H Q E h=>?_) (fun f cdv A outer s H vs Q E hr h=>?_)
  · obtain ⟨xs,M,O,Q',E',w,r,q,_⟩:=h
    rw [r.1];exact len xs M Q' E' q
  · obtain ⟨xs,M,O,Q',E',w0,r,q,kk,ke⟩:=h
    obtain ⟨t,ht,b,hb,hq⟩:=hbody f cdv A outer s H H O M (exA M E') hr ⟨rfl,rfl,rfl,rfl⟩
    refine ⟨t,fun D=>?_,?_⟩
    · have ce : ∀ c d H', cE H O M (exA M E') c d H' -> E c d H' := fun c d H' ⟨C, fs, M', O', e1, ⟨M'', f, q2⟩, k1, w1, xd⟩ => by
        subst e1
        obtain ⟨O'',w2,k2,-,ko⟩:=Qx w0 w1 k1 (show zt H' O' M' .non (.d .non) from .non) f
        refine ke C fs M'' H' O'' d q2 k2 w2 ?_
        rcases xd with xd | ⟨dx,e1,h1,h2,h3⟩
        · exact .inl xd
        · exact .inr ⟨dx,e1,h1,(ko dx h2 h3).1,(ko dx h2 h3).2⟩
      refine PSs.wish' (fun e s' z=>?_) ht
      exact bn z (fun _ s'' y=>y.imp ce) fun e' s'' y=>y.imp ce
    · refine hb.go .refl w0 w0 (xy r N) .refl (hq xs Q' E' rfl q) ⟨fun σ H' O' ρ M' w' e' x' q'=>?_,fun v y H' O' M' w' x' r' q'=>?_,fun _ _ _ _ _ _ _ _ z=>z.elim,fun _ _ _ _ _ _ _ _ z=>z.elim⟩
      · obtain ⟨y',M'',f,q2⟩:=q'
        obtain ⟨O'',w2,k2,r2⟩:=xq w0 w' x' (show zt H' O' M' .non (.d .non) from .non) f
        exact kk _ _ _ _ _ q2 k2 w2 r2
      · obtain ⟨y',M'',f,q2⟩:=q'
        obtain ⟨O'',w2,k2,r2⟩:=xq w0 w' x' r' f
        exact kk _ _ _ _ _ q2 k2 w2 r2
theorem DX.po (D:DX X E):PassesOwn (aR X.prog X.w) X.A X.env X.xe:=by rw [D.xe];exact PassesOwn.leaving
theorem Wg:yx (CX1 X.prog X.w) X fun _=>E0:=fun _ _ _ _ _ _ _ ⟨_,_,_,_,_,_,z⟩=>z.elim
section
variable {X:Cx}{K:aA}{body suite:List cg}{b₀:cg}{n tx:Str}{i:Nat}{T:ay}{np hpos pos tp p:Pos}{tb:(St->XK)->TS}{th:TS}{e c:Expr}{es:List Expr}{cs:List aj}{t:TE}{kk:Nat}
theorem wB (hk:X.K=K)(hs:X.stack=X.env :: X.outer)(hf:X.env.frame=some X.env.locals)(hex:X.ex=[])(nd:X.N.Nodup)(hi:X.N[i]?=some n)(hl:X.env.kindOf n=some .local)(hg:Gl X tx)(hm:X.mg tx=some (.ref T))
  (hb:∀ (pins:List (ay × Obj)) (xe:aj->az->Prop) (Eh:St->XK),yx (CX1 X.prog X.w) (X.tried pins xe) Eh->PSs (X.tried pins xe) body (tb Eh)) (hh:∀ x,PSs (X.inside x) (b₀ :: suite) th)
  (hdb:(tx == ("__debug__":Str))=false:=by decide):PS X (.Try body [.ExceptHandler (some (.Name tx np)) (some n) (b₀ :: suite) hpos] [] [] pos) (HF K i T tb th):=hk ▸ Et hs hf hex nd hi hl hg hm hb hh hdb
theorem kK (hk:X.K=K)(he:PE X e t)(hg:Gl X "isinstance")(hm:X.mg "isinstance"=none)(hc:K4 X [c] cs)
  (hst:aO [e,c] X.env=(false,eval e X.env) :: aO [c] X.env:=by rfl) (hst2:aO [c] X.env=(false,eval c X.env) :: aO [] X.env:=by rfl) (hpl:(b9 pos (aO [c] X.env)).any (·.1)=false:=by rfl):PE X (.Call (.Name "isinstance" p) [e,c] [] pos) (IF K cs t):=hk ▸ Hk he hg hm hc hst hst2 hpl
end
theorem exX {HX:Hp}{OX:Own}{MX:MH}{t:TS} {b:AS}(h:kz HX OX MX t b)(k:q b):∃ b,kz HX OX MX t b/\q b:=⟨b,h,k⟩
section
variable {X:Cx}
end
end L2
namespace PySem
open Sem (wp)
section
variable {prog:aX}{w:bu}{A:bg}{E:aj->az->Prop}{h:Heap}{g:Array GenState}{d:Drawn}{t:Nat}{os:OsState}
variable {nm q:Str}{C N:ay}{bs bm bmB:List aj}{hdct:Bool}{sn:List Str}{sub:List aj}{ab:Bool}{col:Option Bool}{dd:Option ay}{k0 k1 k2 k3 k5:Option aj}{B Bn newId nid initId inN:String}{bmN:List aj}
variable {mN:Str->Option aj} {fI:ay} {oI:Obj}
theorem Ql (Fn:eL Bn newId inN bmN)(hBn:bmB.contains (.type Bn)=true)(F:eL B nid initId bmB)(T:nq h bmB bm) {qR:List aj} {Q:Fin->az->Prop}
  (hC:h.get? C=some (eI nm q C N bs bm hdct sn sub ab col dd k0 k1 k2 k3 k5 newId)) (hn:h.Ns N mN) (hi:mN "__init__"=some (.ref fI)) (hfI:h.get? fI=some oI) (hfc:oI.cls=.type "function")
  (hq:∀ h' e,hV h h' e (.ref C) qR->aS (aR prog w) A (call (.ref fI) (.ref e :: qR)) (fun r s'=>r=.none/\Q (.done (.ret (.ref e))) s') E ⟨h',g,d,t,os⟩) (hrest:qR.length<=aQ:=by size_fits) :
  aS (aR prog w) A (Builtin.«type.__call__» ⟨.ref C :: qR,[]⟩) Q E ⟨h,g,d,t,os⟩:=by
 repeat (first | with_reducible refine dI hC ?_ | with_reducible refine wpAny_madeBy_exc hC ?_ | wp_step)
 refine codeAny_call_builtin_code (mE.quiet_builtin _ Fn.quiet) (wpAny_check_new_subU Fn hBn T hC ?_)
 refine codeAny_exc_new_subU Fn hBn F T hC ?_ hrest
 show aS _ _ _ _ _ _
 have hC₁:=aE { cls:=.ref C,data:=.fields #[.ref h.objs.size,.none,.none,.none,.bool false,.none] }
  (aE { cls:=.type "tuple",data:=.seq qR.toArray } hC)
 have hfI₁:=aE { cls:=.ref C,data:=.fields #[.ref h.objs.size,.none,.none,.none,.bool false,.none] }
  (aE { cls:=.type "tuple",data:=.seq qR.toArray } hfI)
 have hn₁:((h.push { cls:=.type "tuple",data:=.seq qR.toArray }).push { cls:=.ref C,data:=.fields #[.ref h.objs.size,.none,.none,.none,.bool false,.none] }).Ns N mN:=
  let ⟨o,es,ep,e,r⟩:=hn;⟨o,es,ep,aE _ (aE _ e),r⟩
 have hget:((h.push { cls:=.type "tuple",data:=.seq qR.toArray }).push
   { cls:=.ref C,data:=.fields #[.ref h.objs.size,.none,.none,.none,.bool false,.none] }).get? (h.objs.size+1)=some
   { cls:=.ref C,data:=.fields #[.ref h.objs.size,.none,.none,.none,.bool false,.none] }:=by heap_get
 have hcC:(aj.ref C :: bm).contains (.ref C)=true:=by simp
 have T₁:=T.keeps (h':=(h.push { cls:=.type "tuple",data:=.seq qR.toArray }).push { cls:=.ref C,data:=.fields #[.ref h.objs.size,.none,.none,.none,.bool false,.none] })
  fun b o e=>aE _ (aE _ e)
 unfold isInstance
 repeat (first | with_reducible refine dI hget ?_ | (with_reducible refine gO hC₁ ?_;rw [hcC]) | wp_step)
 show aS _ _ (typeLookup (.ref C) _) _ _ _
 refine wpAny_typeLookup_tail hC₁ hn₁ T₁ F.mroIs F.init.lookup ?_
 rw [hi]
 refine dq (aq ?_)
 unfold bindSpecial
 refine aq (wpAny_typeOf (T:="function") ⟨_,hfI₁,hfc⟩ ?_)
 rw [if_pos (by decide)]
 refine aL (aq (bn (hq _ (h.objs.size+1) ⟨fun b o hb=>aE _ (aE _ hb),e6 (nj _),h.objs.size,hget,e6 (aM _),?_⟩) (fun r s' hr=>?_) fun _ _ x=>x))
 ·exact aE _ (Heap.get?_push_at rfl rfl)
 ·obtain ⟨rfl,hQ⟩:=hr
  wp_walk
  exact hQ
theorem X1 (Fn:eL Bn newId inN bmN)(hBn:bmB.contains (.type Bn)=true)(F:eL B nid initId bmB)(T:nq h bmB bm) {qR:List aj} {Q:aj->az->Prop}
  (hC:h.get? C=some (eI nm q C N bs bm hdct sn sub ab col dd k0 k1 k2 k3 k5 newId)) (hn:h.Ns N mN) (hi:mN "__init__"=some (.ref fI)) (hfI:h.get? fI=some oI) (hfc:oI.cls=.type "function")
  (hq:∀ h' e,hV h h' e (.ref C) qR->aS (aR prog w) (A.under (.builtin "type.__call__" ⟨.ref C :: qR,[]⟩)) (call (.ref fI) (.ref e :: qR)) (fun r s'=>r=.none/\Q (.ref e) s') E ⟨h',g,d,t,os⟩) (hrest:qR.length<=aQ:=by size_fits) :
  aS (aR prog w) A (call (.ref C) qR) Q E ⟨h,g,d,t,os⟩:=by
 have f1:=tc_lookup
 have f2:=tc_bind (.ref C)
 have hT:(⟨h,g,d,t,os⟩:az).TypeIs (.ref C) "type":=⟨_,hC,rfl⟩
 refine hJ (codeAny_of_tree ?_)
 show aS _ _ (callAny (.ref C) _) _ _ _
 repeat (any_goals (first | assumption | with_reducible refine dI hC ?_ | wp_step))
 refine ⟨rfl,?_⟩
 refine codeAny_call_builtin_at (mE.quiet_builtin _ (by decide +kernel)) entry_typeCall (wpAny_check_type_call_sub hC (Ql (hrest:=hrest) Fn hBn F T hC hn hi hfI hfc fun h' e hm=>?_))
 exact hq h' e hm
end
section
variable {M:ni}{A:bg}{E:aj->az->Prop}{env:Env}
variable {nm q:Str}{C N:ay}{bs bm:List aj}{hdct:Bool}{sn:List Str}{sub:List aj}{ab:Bool}{col:Option Bool}{dd:Option ay}{k0 k1 k2 k3 k5:Option aj}{newId:String}
theorem Qw {s:az}{x:Sem aj}{Q:Flow->az->Prop}(hbase:bm.contains (.type "BaseException")=true)(hh:A.handled=none)
  (h:aS M A x (fun v s₁=>∃ e t dx,v=.ref e/\s₁.heap.get? C=some (eI nm q C N bs bm hdct sn sub ab col dd k0 k1 k2 k3 k5 newId) /\
   s₁.heap.get? e=some { cls:=.ref C,data:=.fields #[.ref t,.none,.none,.none,.bool false,.none],dict:=dx }/\E (.ref e) s₁) E s) :
  aS M A (nc env (some x) none) Q E s:=by
 have hcB:(aj.ref C :: bm).contains (.type "BaseException")=true:=by rw [mh,hbase,Bool.or_true]
 unfold nc
 refine aq (bn h (fun v s₁ h₁=>?_) fun _ _ x=>x)
 obtain ⟨e,t,dx,rfl,hC,he,hE⟩:=h₁
 obtain ⟨hp,g,d,tk,os⟩:=s₁
 repeat (first | with_reducible refine dI he ?_ | with_reducible refine dI hC ?_ | (with_reducible refine gO hC ?_;rw [hcB]) | wp_step)
 exact wpAny_raiseNew_none hh hE
end
section
variable {prog:aX}{w:bu}{A:bg}{E:aj->az->Prop}{s:az}{env:Env}
variable {nm q:Str}{C N:ay}{bs bm bmB:List aj}{hdct:Bool}{sn:List Str}{sub:List aj}{ab:Bool}{col:Option Bool}{dd:Option ay}{k0 k1 k2 k3 k5:Option aj}{B Bn newId nid initId inN:String}{bmN:List aj}
theorem We (Fn:eL Bn newId inN bmN)(hBn:bmB.contains (.type Bn)=true)(F:eL B nid initId bmB){mN:Str->Option aj}{x:Str}{np cpos pos:Pos}{args:List Expr}{Q:Flow->az->Prop}{fI:ay}{oI:Obj}
  (hbase:bm.contains (.type "BaseException")=true) (hh:A.handled=none) (hplain:(b9 cpos (aO args env)).any (·.1)=false) (hi:mN "__init__"=some (.ref fI)) (hfc:oI.cls=.type "function")
  (h:aS (aR prog w) A (eval (.Name x np) env) (fun f s₁=>f=.ref C/\aS (aR prog w) A (evalArgs (.ref C) true (b9 cpos (aO args env)) [])
   (fun a s₂=>a.kw=[]/\a.pos.length<=aQ/\s₂.heap.get? C=some (eI nm q C N bs bm hdct sn sub ab col dd k0 k1 k2 k3 k5 newId)/\s₂.heap.Ns N mN/\nq s₂.heap bmB bm/\s₂.heap.get? fI=some oI /\
    ∀ h' e,hV s₂.heap h' e (.ref C) a.pos->aS (aR prog w) (A.under (.builtin "type.__call__" ⟨.ref C :: a.pos,[]⟩)) (call (.ref fI) (.ref e :: a.pos)) (fun r s'=>r=.none /\
     s'.heap.get? C=some (eI nm q C N bs bm hdct sn sub ab col dd k0 k1 k2 k3 k5 newId)/\(∃ t dx,s'.heap.get? e=some { cls:=.ref C,data:=.fields #[.ref t,.none,.none,.none,.bool false,.none],dict:=dx })/\E (.ref e) s') E { s₂ with heap:=h' }) E s₁) E s) :
  aS (aR prog w) A (exec (.Raise (some (.Call (.Name x np) args [] cpos)) none pos) env) Q E s:=by
 rw [arm_exec_Raise]
 refine aq (cZ (Qw (C:=C) (nm:=nm) (q:=q) (N:=N) (bs:=bs) (bm:=bm) (hdct:=hdct) (sn:=sn) (sub:=sub) (ab:=ab) (col:=col) (dd:=dd) (k0:=k0) (k1:=k1) (k2:=k2) (k3:=k3) (k5:=k5) (newId:=newId) hbase hh (aq (bn (wpAny_Call_ofName (bn h (fun f s₁ h₁=>?_) fun _ _ x=>x)) (fun v s₃ h₃=>aq (cZ (aL h₃))) fun _ _ x=>x))))
 obtain ⟨rfl,h₁⟩:=h₁
 unfold gD
 refine aq (dq (bn h₁ (fun a s₂ h₂=>aq (cZ ?_)) fun _ _ x=>x))
 obtain ⟨apos,akw⟩:=a
 obtain ⟨hkw,hlen,hC,hn,T,hf,h₂⟩:=h₂
 obtain rfl:akw=[]:=hkw
 obtain ⟨hp,g,d,tk,os⟩:=s₂
 simp only [hplain]
 refine aq (wpAny_keeperOf_exc hC ?_)
 refine aq (X1 (hrest:=hlen) Fn hBn F T hC hn hi hf hfc fun h' e hm=>bn (h₂ h' e hm) (fun r s' hr=>⟨hr.1,aq (dq (wpAny_point (aL ?_)))⟩) fun _ _ x=>x)
 obtain ⟨_,hC',⟨t,dx,he⟩,hE⟩:=hr
 exact ⟨e,t,dx,rfl,hC',he,hE⟩
end
end PySem
namespace L2
open PySem PySem.Spec PyProof.Rows
open PySem.W (Looks InstAt findIn findObj subIn mroIn clsIn takerIn hasDictIn)
noncomputable def AD:aj->Bool
 | .ref _=>true
 | _=>false
noncomputable def Wv (l:List aj):Bool:=l.dropWhile AD == yW
theorem Ap {a:aj}(h:AD a=true):∃ c,a=.ref c:=by cases a <;> first | exact ⟨_,rfl⟩ | cases h
theorem vh (self:aj):∀ l:List aj,refuseLoop self "__setattr__" l=refuseLoop self "__setattr__" (l.dropWhile AD)
 | []=>rfl
 | a :: r=>by
  by_cases h:AD a=true
  ·obtain ⟨c,rfl⟩:=Ap h
   rw [refuseLoop_ref,List.dropWhile_cons_of_pos h];exact vh self r
  ·rw [List.dropWhile_cons_of_neg h]
theorem Vw (self:aj){l:List aj}(h:Wv l=true):refuseLoop self "__setattr__" l=pure ():=by
 rw [vh,show l.dropWhile AD=yW from eq_of_beq h];exact PySem.F.store_ValueError.passes self
structure xV (K:aA)(C:ay)(name:Str):Prop where
 s:d7 K (.ref C) "__setattr__"=some (some (.builtin "object.__setattr__"))
 t:lK K C name=some none
 hd:eg K C=true
 mo:mO K C (.type "object")=some true
 ve:(clsIn K C).any (fun cd=>Wv cd.mro)=true
section
variable {prog:aX}{w:bu}{A:bg}{E:aj->az->Prop}{s:az}{K:aA}{x C:ay}{ox:Obj}{od:Option Obj}{name:Str}{v:aj}
theorem XC {tk:Tok}{R:mT->az->Prop}(X:K.In s.heap)(I:InstAt s.heap x ox C od)(S:xV K C name)
  (h:∀ b,aS (aR prog w) A.in1 (Builtin.ObjectAttr.storeInOwnDict (.ref x) (.ref C) (.str name tk) name v b)
   (fun fin s'=>match fin with | .done f=>R (.ok f) s' | .again c'=>c'.quiet=true/\fL (aR prog w) A c' R s') (fun e s'=>R (.error e) s') s) :
  fL (aR prog w) A (.call (.builtin "object.__setattr__") ⟨[.ref x,.str name tk,v],[]⟩) R s:=by
 have SF:=PySem.F.store_object
 obtain ⟨cd,hc,ho⟩:=gm S.ve
 have sub:gE (aR prog w) s.heap (isInstance (.ref x) (.type "object")) true:=I.type.andThen (PySem.W.looks_mroIn X S.mo)
 refine codeAny_call_builtin SF.slot.plain SF.entry (@PySem.W.check_slot (aR prog w) _ _ s "object.__setattr__" "object" "__setattr__" (.ref x) [.str name tk,v] [] _ SF.kind SF.split sub (SF.args (.ref x) (.str name tk) v) ?_)
 obtain ⟨attr,ha,hr⟩:=Option.bind_eq_some_iff.mp S.t
 have hm:gE (aR prog w) s.heap (mroOf (.ref C)) cd.mro:=(fz X hc).andThen .now
 have L3:gE (aR prog w) s.heap (Builtin.ObjectAttr.storeTaker? attr) none:=by
  cases attr with
  | none=>exact .now
  | some a=>
   obtain ⟨b,hb,hb2⟩:=dQ.mp hr
   cases b with
   | true=>cases hb2
   | false=>exact (PySem.W.looks_takesIn X hb).andThen .now
 rw [PySem.W.osa_eq,refuse_eq]
 refine aq (aq (I.type.here (aq (hm.here ?_))))
 rw [Vw _ ho]
 refine aL (aq (I.type.here (aq ((e7 X ha).here (aq (L3.here ?_))))))
 exact h _
variable {vs:Array aj} {Q:Unit->az->Prop}
theorem DD (X:K.In s.heap)(hx:s.heap.get? x=some ox)(hc:ox.cls=.ref C)(hf:ox.data=.fields vs)(hd:ox.dict=none)(S:xV K C name)
  (h:∀ h' tk,h'.Ns1 s.heap.objs.size (fun y=>if y=name then some v else none)->h'.get? x=some { ox with dict:=some s.heap.objs.size }->(∀ b o,b ≠ x->s.heap.get? b=some o->h'.get? b=some o)->Q () { s with heap:=h',toks:=tk }) :
  aS (aR prog w) A (setAttr (.ref x) name v) Q E s:=by
 have I:InstAt s.heap x ox C none:=⟨hx,hc,by unfold fg;rw [hf],by rw [hd];trivial⟩
 obtain ⟨cd,hcd,hdd⟩:=gm S.hd
 obtain ⟨oc,odt,oda,osl⟩:=ox
 dsimp only at hc hf hd
 subst hc hf hd
 have hx₁:(s.heap.push { cls:=.type "dict",data:=.dict #[] }).get? x=some ⟨.ref C,none,.fields vs,osl⟩:=aE _ hx
 have hxs:x ≠ s.heap.objs.size:=bq (aI hx)
 refine ii X I S.s (XC (s:={ s with toks:=s.toks+1 }) (od:=none) X I S fun b=>?_)
 refine aq (aL (aq (aq (gY hx (aq (eQ.here (s:={ s with toks:=s.toks+1 }) (fz X hcd) ?_))))))
 rw [hdd]
 have htd:typeHasDict (aj.ref C)=true:=by simp [typeHasDict]
 dsimp only
 rw [if_neg (by decide),htd,if_neg (by decide)]
 refine aq (wpAny_alloc' ?_)
 refine aq (wpAny_update' hx₁ ?_)
 refine aL ?_
 have hgd:((s.heap.push { cls:=.type "dict",data:=.dict #[] }).update x fun o=>{ cls:=o.cls,dict:=some s.heap.objs.size,data:=o.data,slots:=o.slots }).get? s.heap.objs.size
  =some { cls:=.type "dict",data:=.dict #[] }:=
  (Heap.get?_update_ne _ _ _ _ hxs.symm).trans (Heap.get?_push_at rfl rfl)
 have hnd:((s.heap.push { cls:=.type "dict",data:=.dict #[] }).update x fun o=>{ cls:=o.cls,dict:=some s.heap.objs.size,data:=o.data,slots:=o.slots }).Ns s.heap.objs.size (fun _=>none):=
  ⟨_,#[],_,hgd,rfl,fun e he=>absurd he (by simp),fun _=>rfl⟩
 show aS _ _ (gx s.heap.objs.size (.str name s.toks) name v) _ _ _
 unfold gx Builtin.ObjectAttr.newKeyGuard
 refine aq (aL (aq (mz (Heap.Ns1.of_empty hnd) fun h' hn' hs=>?_)))
 obtain ⟨oD,esD,epD,hoD,hdD,hcD⟩:=hn'.count (Within.cons name v Within.nil)
 refine aq (iH hoD (by rw [hdD];exact iI (bz hcD (by rw [ba,fK,cH];omega))) ?_)
 refine aL (h h' _ hn' ?_ fun b o hb e=>?_)
 ·refine (hs.2 x hxs).trans (bK _ hx₁ rfl)
 ·exact (hs.2 b (bq (aI e))).trans ((Heap.get?_update_ne _ _ _ _ hb).trans (aE _ e))
theorem EH {dx:ay} {mA:Str->Option aj}{ns:List Str} (X:K.In s.heap)(hx:s.heap.get? x=some ox)(hc:ox.cls=.ref C)(hf:ox.data=.fields vs)(hd:ox.dict=some dx)(hn:s.heap.Ns1 dx mA)(S:xV K C name)(hw:Within mA ns)(hsz:ns.length<=1000)
  (h:∀ h' tk,h'.Ns1 dx (fun y=>if y=name then some v else mA y)->bX dx s.heap h'->Q () { s with heap:=h',toks:=tk }) :
  aS (aR prog w) A (setAttr (.ref x) name v) Q E s:=by
 obtain ⟨u,hu⟩:∃ u,s.heap.get? dx=some u:=let ⟨o,_,_,e,_⟩:=hn;⟨o,e⟩
 have I:InstAt s.heap x ox C (some u):=⟨hx,hc,by unfold fg;rw [hf],by rw [hd];exact hu⟩
 obtain ⟨cd,hcd,hdd⟩:=gm S.hd
 obtain ⟨oc,odt,oda,osl⟩:=ox
 dsimp only at hc hf hd
 subst hc hf hd
 refine ii X I S.s (XC (s:={ s with toks:=s.toks+1 }) (od:=some u) X I S fun b=>?_)
 refine aq (aL (aq (aq (gY hx (aq (eQ.here (s:={ s with toks:=s.toks+1 }) (fz X hcd) ?_))))))
 rw [hdd]
 refine aL (a:=some dx) (aq (aL (aq ?_)))
 refine mz (s:={ s with toks:=s.toks+1 }) hn fun h' hn2 hs2=>?_
 obtain ⟨oD,esD,epD,hoD,hdD,hcD⟩:=hn2.count (gP.cons name v hw)
 refine aq (iH hoD (by rw [hdD];exact iI (bz hcD (by rw [ba,cH];omega))) ?_)
 exact aL (h h' _ hn2 hs2)
end
open PySem.W (Looks InstAt findIn findObj subIn mroIn clsIn takerIn hasDictIn)
noncomputable def VR (C t:ay)(d:Option ay):Obj:={ cls:=.ref C,data:=.fields #[.ref t,.none,.none,.none,.bool false,.none],dict:=d }
noncomputable def ku (a C t:ay)(d:Option ay):HO:=.ext fun h=>h.get? a=some (VR C t d)
noncomputable def XdE (dx:ay)(fs:List (Str × V)):HO:=.ext fun h=>∃ mA,h.Ns1 dx mA/\(∀ f,xU (fs.lookup f) (mA f))/\Within mA (fs.map (·.1))
variable {P:aX} {w:bu} {H:Hp}
theorem ZZ {h:Heap}{a C t:ay}{d:Option ay}(e:h.get? a=some (VR C t d)):zS P w H h a (ku a C t d):=⟨e,⟨_,e⟩,fun _ _ e k=>k _ e⟩
theorem BZ {h:Heap}{dx:ay}{fs:List (Str × V)}{mA:Str->Option aj}(n:h.Ns1 dx mA)(r:∀ f,xU (fs.lookup f) (mA f))(wi:Within mA (fs.map (·.1))):zS P w H h dx (XdE dx fs):=by
 refine ⟨⟨mA,n,r,wi⟩,?_,fun h1 h2 ⟨mA,⟨o,es,ep,e,c⟩,r⟩ k=>⟨mA,⟨o,es,ep,k _ e,c⟩,r⟩⟩
 obtain ⟨o,_,_,e,_⟩:=n
 exact ⟨o,e⟩
section
variable {X:Cx}{pins:List (ay × Obj)}{σ:St}{H:Hp}{s:az}
theorem Inv.drop (I:Inv X pins σ H s){x:ay}(mu:Mut (H x))(h0:X.s₀.heap.get? x=none):Inv X pins σ (fun b=>if b=x then none else H b) s:=by
 have ne1:∀ {b:ay} {y:ay},H b=some (.own y)->b ≠ x:=fun e z=>by rw [z] at e;rw [e] at mu;exact mu
 have ne2:∀ {b:ay} {xs:List V},H b=some (.tup xs)->b ≠ x:=fun e z=>by rw [z] at e;rw [e] at mu;exact mu
 refine ⟨I.ok,I.os,I.bare,⟨I.base.keep,I.base.slot,fun b u e n hb=>?_,I.base.there,fun b xs e=>?_,fun b u v e=>?_,fun b ps e=>?_⟩,I.loc,I.cell,?_,fun y c e=>?_,fun p hp'=>?_,fun b u e=>?_,I.len⟩
 ·show (if b=x then none else H b)=none
  split
  ·rfl
  ·exact I.base.free b u e n hb
 ·have:=I.base.tups b xs e
  show (if b=x then none else H b)=_
  rw [if_neg (ne2 this)];exact this
 ·have:=I.base.frzs b u v e
  show (if b=x then none else H b)=_
  rw [if_neg (fun z=>by rw [z] at this;rw [this] at mu;exact mu)];exact this
 ·obtain ⟨m,this⟩:=I.base.tbls b ps e
  refine ⟨m,?_⟩
  show (if b=x then none else H b)=_
  rw [if_neg (fun z=>by rw [z] at this;rw [this] at mu;exact mu)];exact this
 ·show (if _=x then none else H _)=none
  split
  ·rfl
  ·exact I.free
 ·show (if _=x then none else H _)=none
  split
  ·rfl
  ·exact I.freeC y c e
 ·obtain ⟨e1,e2,e3⟩:=I.pin p hp'
  refine ⟨e1,?_,e3⟩
  show (if _=x then none else H _)=none
  split
  ·rfl
  ·exact e2
 ·have e:(if b=x then none else H b)=some u:=e
  split at e
  ·cases e
  ·exact (I.hok b u e).stay (fun _ _ _ q=>q) (fun d q=>by show (if _=x then none else H _)=_;rw [if_neg (ne1 q)];exact q) fun d xs q=>by show (if _=x then none else H _)=_;rw [if_neg (ne2 q)];exact q
noncomputable def ZC (K:aA)(ta tv:TE)(f:Str):TS:=fun D σ H=>tv σ H fun y H1=>ta σ H1 fun x H2=>∃ a C t,x=.ref a/\xV K C f /\
 ((H2 a=some (ku a C t none)/\∀ dx,H2 dx=none->dx ≠ a->D.nx σ (upd (upd H2 a (ku a C t (some dx))) dx (XdE dx [(f,y)]))) \/
  ∃ dx fs,H2 a=some (ku a C t (some dx))/\H2 dx=some (XdE dx fs)/\fs.length<1000/\D.nx σ (upd H2 dx (XdE dx (jQ f y fs))))
variable {o value:Expr}{f:Str}{ta tv:TE}{pos pos':Pos}
theorem xP (ha:PE X o ta)(hv:PE X value tv)(hs:lI value (some (.Attribute o f pos')) pos.line X.env=pure false):PS X (.Assign [.Attribute o f pos'] value pos) (ZC X.K ta tv f):=by
 intro pins s σ H D I h
 refine gl (thn (hv pins s σ H _ I h) fun u s1 ⟨y,H1,I1,ry,q⟩=>thn (ha pins s1 σ H1 _ I1 q) fun ov s2 ⟨x,H2,I2,rx,a,C,t,ex,S,q2⟩=>?_) hs
 subst ex
 obtain rfl:ov=aj.ref a:=rx
 rcases q2 with ⟨ea,q2⟩ | ⟨dx,fs,ea,ed,hl,q2⟩
 ·have ho:s2.heap.get? a=some (VR C t none):=(I2.hok a _ ea).1
  refine DD I2.kIn ho rfl rfl rfl S fun h' tk hn hx k=>?_
  have dn:H2 s2.heap.objs.size=none:=I2.hok.fresh (aM _)
  have da:s2.heap.objs.size ≠ a:=eh (aI ho)
  have hd:∀ b o,s2.heap.get? b=some o->b ≠ s2.heap.objs.size:=fun b o e=>bq (aI e)
  have na:∀ {b:ay} {u:HO},H2 b=some u->(∀ φ,u ≠ .ext φ)->b ≠ a:=fun e n z=>by rw [z,ea] at e;cases e;exact n _ rfl
  have I3:Inv X pins σ (upd (upd H2 a (ku a C t (some s2.heap.objs.size))) s2.heap.objs.size (XdE s2.heap.objs.size [(f,y)])) { s2 with heap:=h',toks:=tk }:=by
   refine I2.un ⟨fun b o e n _ _=>k b o (fun z=>by rw [z,ea] at n;cases n) e,fun b o e n _ _=>⟨o.slots,k b o (fun z=>by rw [z,ea] at n;cases n) e⟩,fun b o e n _=>?_,fun b o e _=>?_,fun b xs e=>?_,fun b o u e=>?_,fun b ps e=>?_⟩ fun b u' e=>?_
   ·rw [zj (hd b o e),zj (fun z=>by rw [z,ea] at n;cases n)];exact n
   ·by_cases c:b=a
    ·exact ⟨_,c ▸ hx⟩
    ·exact ⟨o,k b o c e⟩
   ·rw [zj (zp e dn),zj (na e fun _ z=>nomatch z)];exact e
   ·rw [zj (zp e dn),zj (na e fun _ z=>nomatch z)];exact e
   ·exact ⟨#[],by rw [zj (zp e dn),zj (na e fun _ z=>nomatch z),Array.append_empty];exact e⟩
   ·by_cases c:b=s2.heap.objs.size
    ·subst c
     rw [zl] at e
     cases e
     refine BZ hn (fun g=>?_) fun g hg=>?_
     ·have e1:bP g [(f,y)]=if g=f then some y else none:=kq f g y []
      rw [e1]
      by_cases q:g=f
      ·rw [if_pos q,if_pos q];exact ry
      ·rw [if_neg q,if_neg q];trivial
     ·by_cases q:g=f
      ·rw [q];simp
      ·exact absurd (if_neg q) hg
    ·rw [zj c] at e
     by_cases c2:b=a
     ·subst c2
      rw [zl] at e
      cases e
      exact ZZ hx
     ·rw [zj c2] at e
      refine (I2.hok b u' e).stay (fun d v hd' q=>k d v (fun z=>?_) q) (fun d q=>?_) fun d xs q=>?_
      ·rcases hd' with rfl | hd'
       ·exact c2 z
       ·exact na hd' (fun _ z=>nomatch z) z
      ·rw [zj (zp q dn),zj (na q fun _ z=>nomatch z)];exact q
      ·rw [zj (zp q dn),zj (na q fun _ z=>nomatch z)];exact q
  exact ⟨σ,_,I3,q2 _ dn da⟩
 ·have ho:s2.heap.get? a=some (VR C t (some dx)):=(I2.hok a _ ea).1
  obtain ⟨⟨mA,hn,r,wi⟩,_,_⟩:=I2.hok dx _ ed
  refine EH I2.kIn ho rfl rfl rfl hn S wi (by rw [aw];omega) fun h' tk hn' sb=>?_
  have hd:∃ o,h'.get? dx=some o:=let ⟨o,_,_,e',_⟩:=hn';⟨o,e'⟩
  refine ⟨σ,_,I2.write (x:=dx) (e:=dx) (by rw [ed];exact True.intro) (.inl rfl) (fun b q hb z=>(sb.2 b hb).trans z) hd (BZ hn' (fun g=>?_) fun g hg=>?_),q2⟩
  ·rw [kq]
   by_cases q:g=f
   ·rw [if_pos q,if_pos q];exact ry
   ·rw [if_neg q,if_neg q];exact r g
  ·by_cases q:g=f
   ·rw [q];exact (kF f y fs).1
   ·refine (kF f y fs).2 g (wi g fun z=>hg ?_)
    show (if g=f then some u else mA g)=none
    rw [if_neg q];exact z
end
variable {K:aA} {mg:Str->Option aj} {v:aj}
theorem K5 {h:Heap}{N:ay} {n:Str} (X:K.In h)(G:h.Ns N mg)(e:br K N n=some (some v)):mg n=some v:=by
 obtain ⟨o,es,ep,ho,hd,_,hf⟩:=G
 unfold br at e
 split at e
 ·rename_i c d es' n' sl q
  have:=X _ _ q
  rw [ho] at this
  cases this
  cases hd
  split at e
  ·rename_i en he
   cases e
   rw [<- hf]
   unfold nsFind findBy
   rw [<- lW,he]
   rfl
  ·split at e <;> cases e
 ·cases e
noncomputable def jF (K:aA)(C:ay)(bmB:List aj)(newId:String)(fI:ay):Bool:=match K.lookup C with
 | some ⟨.type "type",_,.cls cd,sl⟩=>(match cd.mro,sl.toList with
  | .ref C' :: bm,[_,_,_,_,some (.builtin n),_]=>C' == C && n == newId && !cd.hasDel && PySem.W.tailIn K bmB bm && PySem.W.nsOkIn K cd.ns && br K cd.ns "__init__" == some (some (.ref fI))
  | _,_=>false)
 | _=>false
theorem JP {h:Heap}{C fI:ay}{bmB:List aj}{newId:String}(X:K.In h)(q:jF K C bmB newId fI=true) :
  ∃ bm N nm qn bs hdct sn sub ab col dd k0 k1 k2 k3 k5 mN,h.get? C=some (eI nm qn C N bs bm hdct sn sub ab col dd k0 k1 k2 k3 k5 newId)/\h.Ns N mN/\mN "__init__"=some (.ref fI)/\nq h bmB bm:=by
 unfold jF at q
 split at q
 ·rename_i dd cd sl ho
  split at q
  ·rename_i C' bm k0 k1 k2 k3 n k5 hm hs
   simp only [dj,beq_iff_eq,Bool.not_eq_true'] at q
   obtain ⟨⟨⟨⟨⟨z1,z2⟩,z3⟩,z4⟩,z5⟩,z6⟩:=q
   subst z1 z2
   obtain ⟨c1,c2,c3,c4,c5,c6,c7,c8,c9,c10,c11⟩:=cd
   dsimp only at hm z3 z5 z6
   subst hm z3
   have es:sl=#[k0,k1,k2,k3,some (.builtin n),k5]:=Array.ext' hs
   subst es
   exact ⟨bm,c4,c1,c5,c2,c6,c7,c8,c9,c10,dd,k0,k1,k2,k3,k5,_,X _ _ ho,.of_isNs (mj X z5),K5 X (.of_isNs (mj X z5)) z6,PySem.W.tail_of_in X z4⟩
  ·cases q
 ·cases q
noncomputable def spI (C:ay)(n:Nat)(fn:List V->List (Str × V)):Sp:=fun vs H Q E=>∃ a t us,vs=.ref a :: us/\us.length=n/\H a=some (ku a C t none)/\∀ dx,H dx=none->dx ≠ a->Q .non (upd (upd H a (ku a C t (some dx))) dx (XdE dx (fn us)))
def MkX (P:aX)(w:bu)(K:aA)(mg:Str->Option aj)(base:Heap)(C:ay)(k n:Nat)(fn:List V->List (Str × V)):Prop:=
 ∃ f fd ps,jF K C yW "ValueError.__new__" f=true/\jK P w K mg base CX0 k f fd ps (spI C n fn)/\jH K fd ps []/\(∃ oI,K.lookup f=some oI/\oI.cls=.type "function")/\ps.length=n+1
noncomputable def XY (C:ay)(n:Nat)(fn:List V->List (Str × V))(E:St->XK)(t:TA):TS:=fun _ σ H=>t σ H fun vs H1=>vs.length=n/\n<=1000/\∀ dx,H1 dx=none->E σ (.ref C) (some dx) (upd H1 dx (.xd (fn vs)))
section
variable {X:Cx}{E:XK}{C:ay}{x:Str}{np cpos pos:Pos}{e:Expr}{es:List Expr}{t:TA}{k n:Nat}{fn:List V->List (Str × V)}
theorem qC (D:DX X E)(hc:X.calm=true)(m:MkX X.prog X.w X.K X.mg X.base C k n fn)(hr:qu (k+1) X.A)(hg:Gl X x)(hm:X.mg x=some (.ref C))(ha:PA X (e :: es) t)(hdb:(x == ("__debug__":Str))=false:=by decide)
  (he:aO (e :: es) X.env=(false,eval e X.env) :: aO es X.env:=by rfl) (hpl:(b9 cpos (aO es X.env)).any (·.1)=false:=by rfl) :
  PS X (.Raise (some (.Call (.Name x np) (e :: es) [] cpos)) none pos) (XY C n fn (fun _=>E) t):=by
 intro pins s σ H De I h
 obtain ⟨fI,fd,ps,q,F,hb,⟨oI,lk,hfc⟩,hps⟩:=m
 obtain ⟨bm,N,nm,qn,bs,hdct,sn,sub,ab,col,dd,k0,k1,k2,k3,k5,mN,hC,hN,hi,T⟩:=JP I.ok.mod.kin q
 refine We (C:=C) (nm:=nm) (q:=qn) (N:=N) (bs:=bs) (bm:=bm) (hdct:=hdct) (sn:=sn) (sub:=sub) (ab:=ab) (col:=col) (dd:=dd) (k0:=k0) (k1:=k1) (k2:=k2) (k3:=k3) (k5:=k5)
  cn (by decide) cn (mN:=mN) (T.hasType cn.hasBase) (I.ok.hd hc) (by rw [he];show (false || (b9 cpos (aO es X.env)).any (·.1))=false;rw [hpl];rfl) hi hfc (jY I hg hm ⟨rfl,?_⟩ hdb)
 have:=ha cpos pins s σ H _ I h
 rw [he] at this ⊢
 refine ei (bn this (fun us s2 h2=>?_) fun _ _ y=>y)
 obtain ⟨vs,H1,I1,r,hl,hn,q1⟩:=h2
 have hlu:us.length=n:=by rw [<- r.length];exact hl
 refine ⟨rfl,by rw [hlu,cH];omega,I1.bk _ _ hC,hN.keeps I1.bk,T.keeps I1.bk,I1.kIn _ _ lk,fun h' x1 hx=>?_⟩
 obtain ⟨t1,ho,_,_⟩:=hx.there
 have nx:s2.heap.get? x1=none:=hx.new
 have hx0:X.s₀.heap.get? x1=none:=by
  cases z:X.s₀.heap.get? x1 with
  | none=>rfl
  | some o=>
   obtain ⟨o',e'⟩:=I1.base.there x1 o z (by rw [D.ex];simp)
   rw [nx] at e';cases e'
 have hx1:H1 x1=none:=by
  cases z:H1 x1 with
  | none=>rfl
  | some o=>
   obtain ⟨u,e'⟩:=(I1.hok x1 o z).here
   rw [nx] at e';cases e'
 have I2:Inv X pins σ H1 { s2 with heap:=h' }:=I1.kept (t':=s2.toks) hx.keeps
 have I3:Inv X pins σ (upd H1 x1 (ku x1 C t1 none)) { s2 with heap:=h' }:=I2.track hx1 hx0 (fun z=>by
   obtain ⟨mm,⟨o,_,_,e',_⟩,_⟩:=I1.loc
   rw [<- z,nx] at e';cases e') (fun y c e' z=>by
   obtain ⟨v,o,e2,_⟩:=I1.cell y c e'
   rw [z,nx] at e2;cases e2) (fun p hp z=>by
   have:=(I1.pin p hp).1
   rw [z,nx] at this;cases this) (ZZ ho)
 have r2:zJ (V.ref x1 :: vs) (aj.ref x1 :: us):=.cons rfl r
 have hl2:(aj.ref x1 :: us ++ []).length=ps.length:=by rw [bW,ba,hlu,hps]
 have b1:=hb { s2 with heap:=h' } (aj.ref x1 :: us) I3.kIn hl2
 rw [bW] at b1
 refine hJ (fj (F.run _ X.stack _ _ ⟨aj.ref x1 :: us,[]⟩ (aj.ref x1 :: us) (V.ref x1 :: vs) (fun v H2=>v=.non/\∃ dx,H1 dx=none/\dx ≠ x1/\H2=upd (upd H1 x1 (ku x1 C t1 (some dx))) dx (XdE dx (fn vs))) E (hr.make C us []) (I3.env0.make C us []) b1 r2 ⟨x1,t1,vs,rfl,hl,zl,fun dx hd hne=>⟨rfl,dx,?_,hne,by rw [xJ]⟩⟩) fun r s' hq'=>?_)
 ·rw [zj hne] at hd;exact hd
 cases r with
 | error e=>exact bM hq'
 | ok fl=>
  cases fl with
  | ret u=>
   obtain ⟨v,H',I4,rv,ev,dx,d1,d2,eH⟩:=I3.after hq'
   subst ev eH
   have hcl:=I4.bk _ _ hC
   have hex:s'.heap.get? x1=some (VR C t1 (some dx)):=by
    have:=I4.hok x1 (ku x1 C t1 (some dx)) (by rw [zj (Ne.symm d2),zl])
    exact this.1
   refine ⟨rv,hcl,⟨t1,some dx,hex⟩,?_⟩
   have I5:=I4.drop (x:=x1) (by rw [zj (Ne.symm d2),zl];exact True.intro) hx0
   have eH:(fun b=>if b=x1 then none else upd (upd H1 x1 (ku x1 C t1 (some dx))) dx (XdE dx (fn vs)) b)=upd H1 dx (XdE dx (fn vs)):=by
    funext b
    by_cases c:b=x1
    ·rw [if_pos c,c,zj (Ne.symm d2)];exact hx1.symm
    ·rw [if_neg c]
     by_cases c2:b=dx
     ·rw [c2,zl,zl]
     ·rw [zj c2,zj c,zj c2]
   rw [eH] at I5
   obtain ⟨⟨mA,hn1,hr1,_⟩,⟨od,hod⟩,_⟩:=I5.hok dx (XdE dx (fn vs)) zl
   have I6:=I5.write (x:=dx) (e:=dx) (h':=s'.heap) (t':=s'.toks) (o:=.xd (fn vs)) (by rw [zl];exact True.intro) (.inl rfl) (fun _ _ _ z=>z) ⟨od,hod⟩ ⟨mA,hn1,hr1⟩
   rw [xJ] at I6
   exact D.raise (C:=C) (d:=some dx) I6 (x:=x1) (h1:=s'.heap) (fun b o _ z=>z) (fun o z=>by rw [hex] at z;cases z;exact ⟨_,rfl⟩) hex rfl rfl rfl rfl rfl (.inl rfl) hx0 (by rw [zj (Ne.symm d2)];exact hx1) (q1 dx d1)
  | next=>exact bM hq'
  | brk=>exact bM hq'
  | cont=>exact bM hq'
end
open PySem.W (Looks InstAt findIn findObj subIn mroIn clsIn takerIn hasDictIn)
def DmX (P:aX)(w:bu)(K:aA)(mg:Str->Option aj)(base:Heap)(C:ay)(m:Str)(ps:List Str)(k:Nat)(sp:Sp):Prop:=
 ∃ f fd,jK P w K mg base (CX1 P w) k f fd ps sp/\jH K fd ps []/\KZ K C m f
variable {base:Heap} {C:ay} {m:Str} {ps:List Str} {sp:Sp}
theorem DmX.mono {j k:Nat} (D:DmX P w K mg base C m ps j sp)(h:j<=k):DmX P w K mg base C m ps k sp:=
 let ⟨f,fd,F,r⟩:=D
 ⟨f,fd,F.mono h,r⟩
noncomputable def yR (C:ay)(m:Str)(sp:Sp)(E:St->XK)(ta:TE)(t:TA):TE:=fun σ H Q=>ta σ H fun x H1=>∃ a dx fs,x=.ref a/\H1 a=some (.ins C dx fs)/\fs.lookup m=none/\t σ H1 fun vs H2=>sp (x :: vs) H2 Q (E σ)
section
variable {X:Cx}{k:Nat}{C:ay}{m x:Str}{ps:List Str}{sp:Sp}{E:St->XK}{p pos apos:Pos}{o e:Expr}{es:List Expr}{t:TA}{to:TE}
theorem kB {pl:Sem Bool}(c:Cls X.K C)(D:DmX X.prog X.w X.K X.mg X.base C m ps k sp)(hr:qu k X.A)(hx:yx (CX1 X.prog X.w) X E)(ho:PE X o to)(ha:PA X (e :: es) t)
  (hst:aO (e :: es) X.env=(false,eval e X.env) :: aO es X.env:=by rfl) (hpl:(b9 pos (aO es X.env)).any (·.1)=false:=by rfl)
  (ht:eval (.Call (.Attribute o m apos) (e :: es) [] pos) X.env=(do
   let ov <- eval o X.env
   iX apos.atName
   let (f,first) <- holding [ov] (getMethod ov m pl)
   gD pos f first (b9 pos (aO (e :: es) X.env)) (fF pos (dU [] X.env))):=by rfl) :
  PE X (.Call (.Attribute o m apos) (e :: es) [] pos) (yR C m sp E to t):=by
 obtain ⟨f,fd,F,b,hm⟩:=D
 intro pins s σ H Q I h
 refine eS (pl:=pl) (thn (ho pins s σ H _ I h) fun u s1 ⟨x,H1,I1,rx,a,dx,fs,ex,ea,l,q⟩=>?_) ht
 subst ex
 obtain rfl:u=aj.ref a:=rx
 refine kT I1 ea c hm l ?_
 refine eK (first:=[.ref a]) (h₀:=X.base) I.ok.mod.kin hm.kp (thn (ha pos pins s1 σ H1 _ I1 q) fun us s2 ⟨vs,H2,I2,r,q2⟩=>⟨I2.kIn,?_⟩) hst hpl
 exact YA (us:=.ref a :: us) (vs:=.ref a :: vs) F hr b hx I2 (.cons rfl r) q2
end
variable {qual:Str} {st:cg} {N:List Str}
theorem IP {k:Nat} (a:AtM K C m qual st)(S:zr N ps (zg st))
  (hb:∀ (kV doc pm:aj) (an:Option ay) (cdv ct:aj) (us:List aj),us.length=ps.length->eM (bJ m qual (qx st) (zQ st) (zg st) .none kV doc pm an cdv ct) ⟨us,[]⟩=pure (ps.zip us))
  (len:∀ vs H Q E,sp vs H Q E->vs.length=ps.length)
  (hbody:∀ (f:ay) (cdv:aj) (A:bg) (outer:List Env) (s:az) (H:Hp) (vs:List V) (Q:VK) (E:XK),qu k (A.deeper (e8 qual (zg st) s.heap.objs.size f cdv))->sp vs H Q E ->
   ∃ t,(DX (jS (CX1 P w) P w K mg base N qual (zg st) f cdv A outer s H E) E->PSs (jS (CX1 P w) P w K mg base N qual (zg st) f cdv A outer s H E) (zQ st) t)/\t { nx:=fun _ H'=>Q .non H',rt:=Q } (start N vs) H):DmX P w K mg base C m ps (k+1) sp:=by
 obtain ⟨f,fd,F,mt⟩:=a
 refine ⟨f,fd,?_,F.binds hb,mt⟩
 obtain ⟨oc,od,kV,doc,pm,an,cdv,ct,osl,rfl,lk,hcd⟩:=F.ex
 refine DK lk hcd S len fun A outer s H vs Q E hr hsp=>?_
 obtain ⟨t,ht,q⟩:=hbody f cdv A outer s H vs Q E hr hsp
 exact ⟨t,ht ⟨rfl,rfl,rfl,rfl⟩,q⟩
theorem vk {u:Obj}{name:Str} (hh:eg K C=true)(ha:d7 K (.ref C) name=some none)(hl:fW name u=some (some v)):gA K C (some u) name=some (.value v):=lM hh ha rfl hl
section
variable {prog:aX}{w:bu}{A:bg}{E:aj->az->Prop}{s:az}{K:aA}{x C:ay}{ox u:Obj}{name:Str}{v:aj}
theorem AQ {expr:Bool}{Q:aj->az->Prop}(X:K.In s.heap)(I:InstAt s.heap x ox C (some u))(hb:lE K (.ref C) (.type "BaseException")=some true)
  (h1:d7 K (.ref C) "__getattribute__"=some (some (.builtin "BaseException.__getattribute__"))) (h2:d7 K (.ref C) "__getattr__"=some none)
  (hf:gA K C (some u) name=some (.value v)) (hh:iG v=true) (q:Q v { s with toks:=s.toks+1 }) :
  aS (aR prog w) A (nl (.ref x) name expr) Q E s:=by
 obtain ⟨h,g,d,t,os⟩:=s
 unfold nl
 refine aq (wpAny_mkText ?_)
 refine GV X I hb h1 h2 ?_
 have L0:=I.type (M:=aR prog w)
 have L1:=mf (M:=aR prog w) X I hf
 have fin:aS (aR prog w) A (handedOut v) Q E ⟨h,g,d,t+1,os⟩:=by rw [PySem.W.handedOut_of hh];exact aL q
 unfold Builtin.«object.__getattribute__»
 repeat (any_goals (first | assumption | with_reducible refine gE.at L0 ?_ | with_reducible refine gE.at L1 ?_ | wp_step))
end
noncomputable def GT (K:aA)(ta:TE)(f:Str):TE:=fun σ H Q=>ta σ H fun x H1=>∃ a C dx fs v,x=.ref a/\H1 a=some (Za a C (some dx))/\H1 dx=some (.xd fs)/\vw K C/\eg K C=true/\d7 K (.ref C) f=some none/\fs.lookup f=some v/\Q v H1
section
variable {X:Cx}{e:Expr}{ta:TE}{f:Str}{pos:Pos}
theorem vI (he:PE X e ta)(hb:dS e f X.env (eval e X.env)=eval e X.env):PE X (.Attribute e f pos) (GT X.K ta f):=by
 intro pins s σ H Q I h
 refine Z5 hb (thn (he pins s σ H _ I h) fun u s1 ⟨x,H1,I1,rx,a,C,dx,fs,v,ex,ea,ed,c,hh,hn,l,q⟩=>?_)
 subst ex
 obtain rfl:u=aj.ref a:=rx
 obtain ⟨⟨oa,g1,g2,g3,vs,g4⟩,_,_⟩:=I1.hok a _ ea
 obtain ⟨mA,hns,hr⟩:=I1.hok dx _ ed
 obtain ⟨od,ho,hl⟩:=y8 hns
 have hv:=hr f
 rw [l] at hv
 cases z:mA f with
 | none=>rw [z] at hv;exact hv.elim
 | some u'=>
  rw [z] at hv
  have J:InstAt s1.heap a oa C (some od):=⟨g1,g2,by unfold fg;rw [g4],by rw [g3];exact ho⟩
  refine AQ I1.kIn J c.bx c.ga c.gt (vk hh hn (by rw [hl,z])) (yT hv) ⟨v,H1,I1.tok _,hv,q⟩
end
theorem Xn {C f:ay}{fd:df} {k n:Nat}{fn:List V->List (Str × V)}(F:Fun K "__init__" qual st f fd)(S:zr N ps (zg st))
  (hb:∀ (kV doc pm:aj) (an:Option ay) (cdv ct:aj) (us:List aj),us.length=ps.length->eM (bJ "__init__" qual (qx st) (zQ st) (zg st) .none kV doc pm an cdv ct) ⟨us,[]⟩=pure (ps.zip us))
  (q:jF K C yW "ValueError.__new__" f=true) (hf:cQ K (.ref f)=true) (hl:ps.length=n+1)
  (hbody:∀ (cdv:aj) (A:bg) (outer:List Env) (s:az) (H:Hp) (E:XK),∃ t,PSs (jS CX0 P w K mg base N qual (zg st) f cdv A outer s H E).nox (zQ st) t /\
   ∀ (a t0:ay) (us:List V) (Q:VK),us.length=n->H a=some (ku a C t0 none)->(∀ dx,H dx=none->dx ≠ a->Q .non (upd (upd H a (ku a C t0 (some dx))) dx (XdE dx (fn us))))->t { nx:=fun _ H'=>Q .non H',rt:=Q } (start N (.ref a :: us)) H):MkX P w K mg base C (k+1) n fn:=by
 have hfc:∃ oI,K.lookup f=some oI/\oI.cls=.type "function":=by
  obtain ⟨oc,od,kV,doc,pm,an,cdv,ct,osl,rfl,lk,hcd⟩:=F.ex
  refine ⟨_,lk,?_⟩
  have hf':=beq_iff_eq.mp hf
  have hf':Option.map (fun x:Obj=>x.cls) (K.lookup f)=some (.type "function"):=hf'
  rw [lk] at hf'
  exact bR hf'
 refine ⟨f,fd,ps,q,F.ok S (fun vs H Q E ⟨a,t,us,e,l,_⟩=>by rw [e,ba,l,hl]) fun cdv A outer s H vs Q E hr ⟨a,t0,us,e,l,ha,hq⟩=>?_,F.binds hb,hfc,hl⟩
 obtain ⟨t,h1,h2⟩:=hbody cdv A outer s H E
 subst e
 exact ⟨t,h1,h2 a t0 us Q l ha hq⟩
open PySem.W (findIn hasDictIn)
theorem vW {H:Hp}{O:Own}{M:MH}:∀ {xs:List (Str × V)} {l:List (Str × AV)},kh H O M xs l->∀ f,(xs.lookup f=none/\l.lookup f=none) \/ ∃ v x,xs.lookup f=some v/\l.lookup f=some x/\zt H O M v x
 | [],[],_,f=>.inl ⟨rfl,rfl⟩
 | [],_ :: _,r,f=>by have:=r.1;simp at this
 | _ :: _,[],r,f=>by have:=r.1;simp at this
 | (g,v) :: xs,(g',x) :: l,r,f=>by
  have h1:=r.1
  rw [bQ,bQ] at h1
  obtain ⟨e0,h2⟩:=iD h1
  have e0:g=g':=e0
  subst e0
  have r0:zt H O M v x:=r.2.2 0 v x rfl rfl
  have r1:kh H O M xs l:=⟨h2,by have:=r.2.1;simp at this;simpa using this,fun i a b e1 e2=>r.2.2 (i+1) a b e1 e2⟩
  by_cases c:f=g
  ·subst c
   exact .inr ⟨v,x,by simp [bP],by simp [bP],r0⟩
  ·have e:(f == g)=false:=by simpa using c
   simp only [bP,e]
   exact vW r1 f
noncomputable def jT (f:Str)(v:AV):List (Str × AV)->List (Str × AV)
 | []=>[(f,v)]
 | (g,x) :: r=>if g=f then (g,v) :: r else (g,x) :: jT f v r
theorem AR {H:Hp}{O:Own}{M:MH}{f:Str}{v:V}{x:AV}(rv:zt H O M v x):∀ {xs:List (Str × V)} {l:List (Str × AV)},kh H O M xs l->kh H O M (jQ f v xs) (jT f x l)
  | [], [], _ => ⟨rfl, rfl, fun i a b e1 e2 => by
      cases i with
      | zero=>cases e1;cases e2;exact rv
      | succ i=>cases e1⟩
  | [],_ :: _,r=>by have:=r.1;simp at this
  | _ :: _,[],r=>by have:=r.1;simp at this
  | (g,v') :: xs,(g',x') :: l,r=>by
    have h1:=r.1
    rw [bQ,bQ] at h1
    obtain ⟨e0,h2⟩:=iD h1
    have e0:g=g':=e0
    subst e0
    have r0:zt H O M v' x':=r.2.2 0 v' x' rfl rfl
    have ll:xs.length=l.length:=by have:=r.2.1;simp at this;exact this
    have r1:kh H O M xs l:=⟨h2,by simpa using ll,fun i a b e1 e2=>r.2.2 (i+1) a b e1 e2⟩
    unfold jQ jT
    by_cases c:g=f
    · rw [if_pos c,if_pos c]
      exact ⟨by rw [bQ,bQ,h2],by simpa using ll,fun i a b e1 e2=>by
        cases i with
        | zero=>cases e1;cases e2;exact rv
        | succ i=>exact r1.2.2 i a b e1 e2⟩
    · rw [if_neg c,if_neg c]
      have ih:=AR (f:=f) rv r1
      exact ⟨by rw [bQ,bQ,ih.1],by have:=ih.2.1;simpa using this,fun i a b e1 e2=>by
        cases i with
        | zero=>cases e1;cases e2;exact r0
        | succ i=>exact ih.2.2 i a b e1 e2⟩
variable {O:Own} {M:MH}
theorem IA {xs:List (Str × V)}{l:List (Str × AV)}(r:kh H O M xs l):xs.length=l.length:=by simpa using r.2.1
theorem Xr (w:Wf H O M){p C:ay}{fs:List (Str × AV)}(hp:M p=some (.ins C fs))(f:Str){v:V}{y:AV}(rv:zt H O M v y) :
  ∃ dx xs,H p=some (.ins C dx xs)/\xs.length=fs.length/\Ext H O M (upd H p (.ins C dx (jQ f v xs))) O (mup M p (.ins C (jT f y fs)))/\Wf (upd H p (.ins C dx (jQ f v xs))) O (mup M p (.ins C (jT f y fs))):=by
 obtain ⟨dx,xs,g1,g2,g3,g4,g5⟩:=w.mo p _ hp
 have np:=zU hp
 have ks:=ki w np (.ins C dx (jQ f v xs)) (.ins C (jT f y fs))
 have kp:=AR (f:=f) rv g2
 refine ⟨dx,xs,g1,IA g2,ks,Z6 w np (fun _ z=>nomatch z) (show jm _ _ _ p (.ins C (jT f y fs)) from ⟨dx,_,zl,⟨kp.1,kp.2.ext ks⟩,g3,(ks.prv dx g3 g4).2.2,?_⟩)⟩
 rw [(ks.prv dx g3 g4).1];exact g5
noncomputable def Ml (K:aA)(a:AE)(f:Str):AE:=fun ρ M Q=>a ρ M fun x M1=>∃ p C fs v,x=.ref p/\M1 p=some (.ins C fs)/\Cls K C/\j8 K C f/\fs.lookup f=some v/\Q v M1
variable {t:TE} {a:AE} {f:Str}
theorem EX (h:zK t a):zK (Iz K t f) (Ml K a f):=⟨fun w e q k=>h.go w e q fun x M1 v H1 O1 q1 k1 w1 r1=>by
 obtain ⟨p,C,fs,y,rfl,hp,c,n,hl,q2⟩:=q1
 obtain ⟨dx,xs,h1,h2,_⟩:=w1.mo p _ hp
 rcases vW h2 f with ⟨_,z⟩ | ⟨u,z,h3,h4,h5⟩
 ·rw [z] at hl;cases hl
 ·rw [hl] at h4;cases h4
  exact ⟨p,C,dx,xs,u,r1.1,h1,c,n,h3,k _ _ _ _ _ q2 k1 w1 h5⟩⟩
noncomputable def Ds (K:aA)(a b:AE)(f:Str):AS:=fun _ D ρ M=>b ρ M fun y M1=>a ρ M1 fun x M2=>∃ p C fs,x=.ref p/\M2 p=some (.ins C fs)/\Cls K C/\j8 K C f/\fs.length<1000/\D.nx ρ (mup M2 p (.ins C (jT f y fs)))
theorem Wt {t u:TE}{a b:AE} (h1:zK t a)(h2:zK u b):jq (EQ K t u f) (Ds K a b f):=⟨fun _ w e x q E=>h2.go w e q fun y M1 v H1 O1 q1 k1 w1 r1=>h1.go w1 (e.ext k1) q1 fun z M2 v2 H2 O2 q2 k2 w2 r2=>by
 obtain ⟨p,C,fs,rfl,hp,c,n,hl,q3⟩:=q2
 obtain ⟨dx,xs,g1,g2,ks,w3⟩:=Xr w2 hp f (r1.ext k2)
 exact ⟨p,C,dx,xs,r2.1,g1,c,n,by rw [g2];exact hl,E.nx _ _ _ _ _ w3 ((e.ext k1).ext (k2.trans ks)) ((x.trans k1).trans (k2.trans ks)) q3⟩⟩
noncomputable def Gz (C:ay)(m:Str)(sp:ASp)(a:AE)(b:AA):AE:=fun ρ M Q=>a ρ M fun x M1=>∃ p fs,x=.ref p/\M1 p=some (.ins C fs)/\fs.lookup m=none/\b ρ M1 fun xs M2=>sp (.ref p :: xs) M2 Q
theorem QD {H:Hp}{O:Own}{M:MH}{v:V}{x:AV}{vs:List V}{xs:List AV}(r:zt H O M v x)(rs:zk H O M vs xs):zk H O M (v :: vs) (x :: xs):=⟨by rw [ba,ba,rs.1],fun i a b e1 e2=>by
 cases i with
 | zero=>cases e1;cases e2;exact r
 | succ i=>exact rs.2 i a b e1 e2⟩
variable {u:TA} {b:AA}
theorem BM {sp:ASp} (h1:zK t a)(h2:jo u b):zK (Zu C m (cSp sp) [] E0 t u) (Gz C m sp a b):=⟨fun w e q k=>h1.go w e q fun x M1 v H1 O1 q1 k1 w1 r1=>by
 obtain ⟨p,fs,rfl,hp,hl,q2⟩:=q1
 obtain ⟨dx,xs,g1,g2,_⟩:=w1.mo p _ hp
 have hn:xs.lookup m=none:=by
  rcases vW g2 m with z | ⟨_,_,_,z,_⟩
  ·exact z.1
  ·rw [hl] at z;cases z
 refine ⟨p,dx,xs,r1.1,g1,hn,h2.go w1 (e.ext k1) q2 fun ys M2 vs H2 O2 q3 k2 w2 r2=>?_⟩
 have rp:zt H2 O2 M2 v (.ref p):=r1.ext k2
 exact ⟨.ref p :: ys,M2,O2,_,w2,by rw [bW];exact QD rp r2,q3,fun z M3 v3 H3 O3 q4 k3 w3 r3=>k z M3 v3 H3 O3 q4 ((k1.trans k2).trans k3) w3 r3⟩⟩
section
variable {HX:Hp}{OX:Own}{MX:MH}{E:St->XK}{EA:ASt->AXK}{sp:xo}{te:TE}{ae:AE}{ta:TA}{aa:AA}{C:ay}{m:Str}
noncomputable def yS (C:ay)(m:Str)(sp:xo)(EA:ASt->AXK)(a:AE)(b:AA):AE:=fun ρ M Q=>a ρ M fun x M1=>∃ p fs,x=.ref p/\M1 p=some (.ins C fs)/\fs.lookup m=none/\b ρ M1 fun xs M2=>sp (.ref p :: xs) M2 Q (EA ρ)
theorem yi (hE:EXs HX OX MX E EA)(ho:zK te ae)(hu:jo ta aa){σ:St} {ρ:ASt} {Q:VK}{Q':AK}(kx:Ext HX OX MX H O M)(w:Wf H O M)(e:Er H O M σ ρ)(q:yS C m sp EA ae aa ρ M Q')(k:∀ x M' v H' O',Q' x M'->Ext H O M H' O' M'->Wf H' O' M'->zt H' O' M' v x->Q v H'):yR C m (jk sp) E te ta σ H Q:=
 ho.go w e q fun x M1 v H1 O1 q1 k1 w1 r1=>by
  obtain ⟨p,fs,rfl,hp,hl,q2⟩:=q1
  obtain ⟨dx,xs,g1,g2,_⟩:=w1.mo p _ hp
  have hn:xs.lookup m=none:=by
   rcases vW g2 m with z | ⟨_,_,_,z,_⟩
   ·exact z.1
   ·rw [hl] at z;cases z
  refine ⟨p,dx,xs,r1.1,g1,hn,hu.go w1 (e.ext k1) q2 fun ys M2 vs H2 O2 q3 k2 w2 r2=>?_⟩
  have rp:zt H2 O2 M2 v (.ref p):=r1.ext k2
  exact ⟨.ref p :: ys,M2,O2,Q',EA ρ,w2,QD rp r2,q3,fun x M3 v3 H3 O3 q4 k3 w3 r3=>k x M3 v3 H3 O3 q4 ((k1.trans k2).trans k3) w3 r3,fun C fs M' H' O' d q4 k3 w3 xd=>hE.go σ ρ C fs M' H' O' d q4 (((kx.trans k1).trans k2).trans k3) w3 (e.ext ((k1.trans k2).trans k3)) xd⟩
theorem Kg (hE:EXs HX OX MX E EA)(ho:zK te ae)(hu:jo ta aa):kz HX OX MX (XI (yR C m (jk sp) E te ta)) (WJ (yS C m sp EA ae aa)):=
 ⟨fun kx _ w e x q D=>yi hE ho hu (kx.trans x) w e q fun y M1 v H1 O1 q1 k1 w1 r1=>D.nx _ _ _ _ _ w1 (e.ext k1) (x.trans k1) q1⟩
theorem Y2 {to:TE}{ao:AE}(hE:EXs HX OX MX E EA)(ho:zK te ae)(hu:jo ta aa)(h1:zK to ao):kz HX OX MX (EQ K to (yR C m (jk sp) E te ta) f) (Ds K ao (yS C m sp EA ae aa) f):=
 ⟨fun kx _ w e x q D=>yi hE ho hu (kx.trans x) w e q fun y M1 v H1 O1 q1 k1 w1 r1=>h1.go w1 (e.ext k1) q1 fun z M2 v2 H2 O2 q2 k2 w2 r2=>by
  obtain ⟨p,C,fs,rfl,hp,c,n,hl,q3⟩:=q2
  obtain ⟨dx,xs,g1,g2,ks,w3⟩:=Xr w2 hp f (r1.ext k2)
  exact ⟨p,C,dx,xs,r2.1,g1,c,n,by rw [g2];exact hl,D.nx _ _ _ _ _ w3 ((e.ext k1).ext (k2.trans ks)) ((x.trans k1).trans (k2.trans ks)) q3⟩⟩
theorem Y0 {g:TG}{ag:AG}(hE:EXs HX OX MX E EA)(ho:zK te ae)(hu:jo ta aa)(hg:vB g ag):kz HX OX MX (Qn (yR C m (jk sp) E te ta) g) (Vg (yS C m sp EA ae aa) ag):=
 ⟨fun kx _ w e x q D=>yi hE ho hu (kx.trans x) w e q fun y M1 v H1 O1 q1 k1 w1 r1=>hg.go w1 (e.ext k1) r1 q1 fun σ2 H2 O2 ρ2 M2 q2 k2 w2 e2=>D.nx _ _ _ _ _ w2 e2 ((x.trans k1).trans k2) q2⟩
noncomputable def WR:AV->Option V
 | .d (.int i)=>some (.int i)
 | .d (.str s)=>some (.str s)
 | .d .non=>some .non
 | .d (.bl b)=>some (.bl b)
 | _=>none
theorem Ae {H:Hp}{O:Own}{M:MH}{v u:V}{x:AV}(r:zt H O M v x)(h:WR x=some u):v=u:=by
 cases x with
 | ref a=>cases h
 | tp l=>cases h
 | d d=>
  have r:Rep H O v d:=r
  cases d <;> first | (cases h;first | exact zX r | exact vP r | exact vZ r | exact xu r) | cases h
theorem Vy {vs us:List V}{xs:List AV}(r:zk H O M vs xs)(h:xs.map WR=us.map some):vs=us:=by
 have ll:xs.length=us.length:=by simpa using congrArg nk h
 refine gu (r.1.trans ll) fun i h1 h2=>?_
 have hi:i<xs.length:=by rw [<- r.1];exact h1
 have e:WR xs[i]=some us[i]:=by
  have:=congrArg (fun z:List (Option V)=>z[i]?) h
  simpa [aK,au hi,au h2] using this
 exact Ae (r.2 i vs[i] xs[i] (au h1) (au hi)) e
noncomputable def Xv (C:ay)(n:Nat)(fn:List V->List (Str × V))(EA:ASt->AXK)(b:AA):AS:=fun _ _ ρ M=>b ρ M fun xs M1=>∃ vs,xs.map WR=vs.map some/\vs.length=n/\n<=1000/\EA ρ C (fn vs) M1
theorem JL {n:Nat}{fn:List V->List (Str × V)}(hE:EXs HX OX MX E EA)(hu:jo ta aa):kz HX OX MX (XY C n fn E ta) (Xv C n fn EA aa):=
 ⟨fun kx _ w e x q D=>hu.go w e q fun xs M1 vs H1 O1 q1 k1 w1 r1=>by
  obtain ⟨us,h1,h2,h3,h4⟩:=q1
  obtain rfl:=Vy r1 h1
  refine ⟨h2,h3,fun dx hd=>?_⟩
  have k2:=qP w1 hd (.xd (fn vs))
  exact hE.go _ _ C (fn vs) M1 _ (yf O1 dx) (some dx) h4 (((kx.trans x).trans k1).trans k2) (kM w1 hd _ (fun _ z=>nomatch z)) (e.ext (k1.trans k2)) (.inr ⟨dx,rfl,zl,.inl rfl,(w1.fresh hd).2⟩)⟩
end
noncomputable def Yn:V->Option Dat
 | .int i=>some (.int i)
 | .str s=>some (.str s)
 | .non=>some .non
 | .bl b=>some (.bl b)
 | _=>none
theorem ZG {v:V}{d:Dat}(h:Yn v=some d):Rep H O v d:=by
 cases v <;> first | (cases h;constructor) | cases h
noncomputable def G1 (K:aA)(a:AE)(f:Str):AE:=fun ρ M Q=>a ρ M fun x M1=>∃ p C fs v d,x=.ref p/\M1 p=some (.exc C fs)/\vw K C/\eg K C=true/\d7 K (.ref C) f=some none/\fs.lookup f=some v/\Yn v=some d/\Q (.d d) M1
theorem WB (h:zK t a):zK (GT K t f) (G1 K a f):=⟨fun w e q k=>h.go w e q fun x M1 v H1 O1 q1 k1 w1 r1=>by
 obtain ⟨p,C,fs,y,d,rfl,hp,c,hh,hn,hl,hd,q2⟩:=q1
 obtain ⟨dd,h1,h2⟩:=w1.mo p _ hp
 rcases h2 with ⟨_,z⟩ | ⟨dx,e1,h2,_⟩
 ·rw [z] at hl;cases hl
 ·subst e1
  exact ⟨p,C,dx,fs,y,r1.1,h1,h2,c,hh,hn,hl,k _ _ _ _ _ q2 k1 w1 (show Rep _ _ _ _ from ZG hd)⟩⟩
theorem dmA {k:Nat}{a:ASp}(at_:AtM K C m qual st)(S:zr N ps (zg st))
  (hb:∀ (kV doc pm:aj) (an:Option ay) (cdv ct:aj) (us:List aj),us.length=ps.length->eM (bJ m qual (qx st) (zQ st) (zg st) .none kV doc pm an cdv ct) ⟨us,[]⟩=pure (ps.zip us))
  (len:∀ xs M Q,a xs M Q->xs.length=ps.length)
  (hbody:∀ (f:ay) (cdv:aj) (A:bg) (outer:List Env) (s:az) (H:Hp) (E:XK),qu k (A.deeper (e8 qual (zg st) s.heap.objs.size f cdv)) ->
   ∃ t,PSs (jS CX0 P w K mg base N qual (zg st) f cdv A outer s H E).nox (zQ st) t/\∃ b,jq t b/\∀ xs M Q,a xs M Q->b M { nx:=fun _ M'=>rtA M Q (.d .non) M',rt:=rtA M Q } (zM N xs) M):Dm P w K mg base C m ps (k+1) (cSp a):=by
 refine Hj at_ S hb (fun vs H Q E h=>?_) (fun f cdv A outer s H vs Q E hr h=>?_)
 ·obtain ⟨xs,M,O,Q',w,r,q,_⟩:=h
  rw [r.1];exact len xs M Q' q
 ·obtain ⟨t,ht,b,hb,hq⟩:=hbody f cdv A outer s H E hr
  refine ⟨t,ht,?_⟩
  obtain ⟨xs,M,O,Q',w,r,q,kk⟩:=h
  refine hb.go w w (xy r N) .refl (hq xs M Q' q) ⟨fun σ H' O' ρ M' w' e' x' q'=>?_,fun v y H' O' M' w' x' r' q'=>?_,fun _ _ _ _ _ _ _ _ z=>z.elim,fun _ _ _ _ _ _ _ _ z=>z.elim⟩
  ·obtain ⟨y',M'',f,q2⟩:=q'
   obtain ⟨O'',w2,k2,r2⟩:=xq w w' x' (show zt H' O' M' .non (.d .non) from .non) f
   exact kk _ _ _ _ _ q2 k2 w2 r2
  ·obtain ⟨y',M'',f,q2⟩:=q'
   obtain ⟨O'',w2,k2,r2⟩:=xq w w' x' r' f
   exact kk _ _ _ _ _ q2 k2 w2 r2
theorem Vm {P : aX}{w : bu}{K : aA}{mg : Str -> Option aj}{base : Heap}{C : ay}{m qual : Str}{st : cg}{N ps : List Str}{k : Nat}{a : xo}(at_ : AtM K C m qual st)(S : zr N ps (zg st))
    (hb:∀ (kV doc pm:aj) (an:Option ay) (cdv ct:aj) (us:List aj),us.length=ps.length->eM (bJ m qual (qx st) (zQ st) (zg st) .none kV doc pm an cdv ct) ⟨us,[]⟩=pure (ps.zip us))
    (len:∀ xs M Q E,a xs M Q E->xs.length=ps.length)
    (hbody:∀ (f:ay) (cdv:aj) (A:bg) (outer:List Env) (s:az) (H:Hp) (HX:Hp) (OX:Own) (MX:MH) (E':AXK),qu k (A.deeper (e8 qual (zg st) s.heap.objs.size f cdv)) ->
      DX (jS (CX1 P w) P w K mg base N qual (zg st) f cdv A outer s H (cE HX OX MX E')) (cE HX OX MX E') ->
      ∃ t,PSs (jS (CX1 P w) P w K mg base N qual (zg st) f cdv A outer s H (cE HX OX MX E')) (zQ st) t/\∃ b,kz HX OX MX t b/\∀ xs Q E0,E'=exA MX E0->a xs MX Q E0->b MX { nx:=fun _ M'=>rtA MX Q (.d .non) M',rt:=rtA MX Q } (zM N xs) MX):DmX P w K mg base C m ps (k+1) (jk a):=by
  refine IP at_ S hb (fun vs H Q E h=>?_) (fun f cdv A outer s H vs Q E hr h=>?_)
  · obtain ⟨xs,M,O,Q',E',w,r,q,_⟩:=h
    rw [r.1];exact len xs M Q' E' q
  · obtain ⟨xs,M,O,Q',E',w0,r,q,kk,ke⟩:=h
    obtain ⟨t,ht,b,hb,hq⟩:=hbody f cdv A outer s H H O M (exA M E') hr ⟨rfl,rfl,rfl,rfl⟩
    refine ⟨t,fun D=>?_,?_⟩
    · have ce : ∀ c d H', cE H O M (exA M E') c d H' -> E c d H' := fun c d H' ⟨C, fs, M', O', e1, ⟨M'', f, q2⟩, k1, w1, xd⟩ => by
        subst e1
        obtain ⟨O'',w2,k2,-,ko⟩:=Qx w0 w1 k1 (show zt H' O' M' .non (.d .non) from .non) f
        refine ke C fs M'' H' O'' d q2 k2 w2 ?_
        rcases xd with xd | ⟨dx,e1,h1,h2,h3⟩
        · exact .inl xd
        · exact .inr ⟨dx,e1,h1,(ko dx h2 h3).1,(ko dx h2 h3).2⟩
      refine PSs.wish' (fun e s' z=>?_) ht
      exact bn z (fun _ s'' y=>y.imp ce) fun e' s'' y=>y.imp ce
    · refine hb.go .refl w0 w0 (xy r N) .refl (hq xs Q' E' rfl q) ⟨fun σ H' O' ρ M' w' e' x' q'=>?_,fun v y H' O' M' w' x' r' q'=>?_,fun _ _ _ _ _ _ _ _ z=>z.elim,fun _ _ _ _ _ _ _ _ z=>z.elim⟩
      · obtain ⟨y',M'',f,q2⟩:=q'
        obtain ⟨O'',w2,k2,r2⟩:=xq w0 w' x' (show zt H' O' M' .non (.d .non) from .non) f
        exact kk _ _ _ _ _ q2 k2 w2 r2
      · obtain ⟨y',M'',f,q2⟩:=q'
        obtain ⟨O'',w2,k2,r2⟩:=xq w0 w' x' r' f
        exact kk _ _ _ _ _ q2 k2 w2 r2
noncomputable def GP (C:ay)(sp:ASp)(b:AA):AE:=fun ρ M Q=>b ρ M fun xs M1=>∀ p,M1 p=none->sp (.ref p :: xs) (mup M1 p (.ins C [])) fun v M2=>v=.d .non/\Q (.ref p) M2
theorem Bd {sp:ASp} (h:jo u b):zK (XZ C (cSp sp) [] E0 u) (GP C sp b):=⟨fun w e q k=>h.go w e q fun ys M1 vs H1 O1 q1 k1 w1 r1=>by
 intro x dx hx hd hne
 have k2:=qP w1 hd (.own x)
 have w2:=kM w1 hd (.own x) (fun _ z=>nomatch z)
 have hx2:upd H1 dx (.own x) x=none:=by rw [zj (Ne.symm hne)];exact hx
 have k3:=vX w2 hx2 (.ins C dx []) (.ins C [])
 have w3:Wf (upd (upd H1 dx (.own x)) x (.ins C dx [])) (yf (yf O1 dx) x) (mup M1 x (.ins C [])):=Kw w2 hx2 (fun _ z=>nomatch z) (show jm _ _ _ x (.ins C []) from ⟨dx,[],zl,⟨rfl,rfl,fun i a b e1 _=>nomatch e1⟩,.inr (.inl rfl),by rw [zi hne];exact (w1.fresh hd).2,by rw [zj hne,zl]⟩)
 have mx:mup M1 x (.ins C []) x ≠ none:=by rw [zf];exact fun z=>nomatch z
 refine ⟨.ref x :: ys,mup M1 x (.ins C []),_,_,w3,?_,q1 x (w1.fresh hx).2,fun z M4 v4 H4 O4 q4 k4 w4 r4=>?_⟩
 ·rw [bW];exact QD ⟨rfl,mx⟩ (r1.ext (k2.trans k3))
 ·obtain ⟨rfl,q5⟩:=q4
  exact ⟨vZ r4,k _ _ _ _ _ q5 (((k1.trans k2).trans k3).trans k4) w4 ⟨rfl,k4.mst x mx⟩⟩⟩
noncomputable def Gw (kvs:List (Key × V))(a:AE):AE:=fun ρ M Q=>a ρ M fun x M1=>∃ s d,x=.d (.str s)/\Yn ((xw kvs (bG s)).getD .non)=some d/\Q (.d d) M1
theorem A9 {kvs:List (Key × V)} (h:zK t a):zK (Dq kvs t) (Gw kvs a):=⟨fun w e q k=>h.go w e q fun x M1 v H1 O1 q1 k1 w1 r1=>by
 obtain ⟨s,d,rfl,hd,q2⟩:=q1
 exact ⟨bG s,vP r1,k _ _ _ _ _ q2 k1 w1 (show Rep _ _ _ _ from ZG hd)⟩⟩
end L2
namespace PySem
open Sem (wp)
theorem w8:entryFor table "proto.unchain"=some Builtin.«proto.unchain»:=entryFor_of_fast (by kernel_rfl)
section
variable {prog:aX}{w:bu}{A:bg}{E:aj->az->Prop}{s:az}
theorem YW {α:Type}{e x:ay}{oe ox:Obj}{vs vx:Array aj}{Q:α->az->Prop}(hh:A.handled=some (.ref x))(hne:x ≠ e)(hx:s.heap.get? x=some ox)(hxd:ox.data=.fields vx)(hx2:vx[2]?=some .none)(he:s.heap.get? e=some oe)(hed:oe.data=.fields vs)(h2:2<vs.size)
  (h:E (.ref e) { s with heap:=s.heap.update e (bB (·.setIfInBounds 2 (.ref x))) }):aS (aR prog w) A (raiseNew (.ref e):Sem α) Q E s:=by
 unfold raiseNew
 refine aq (wpAny_handled ?_)
 rw [hh]
 dsimp only
 rw [if_pos (by simpa using hne)]
 refine aq (dq (wpAny_runValue (codeAny_builtin w8 ?_)))
 unfold Builtin.«proto.unchain»
 dsimp only
 refine aq (bY hx hxd hx2 ?_)
 rw [if_pos (show (aj.none == aj.none)=true from by decide)]
 refine aL ?_
 dsimp only
 refine aq ?_
 obtain ⟨c,d,dt,sl⟩:=oe
 simp only at hed
 subst hed
 unfold updateField
 refine aq (wpAny_load he ?_)
 dsimp only
 rw [if_pos h2]
 exact wpAny_update he (wpAny_throw h)
end
section
variable {prog:aX}{w:bu}{A:bg}{E:aj->az->Prop}{env:Env}
variable {nm q:Str}{C N:ay}{bs bm bmB:List aj}{hdct:Bool}{sn:List Str}{sub:List aj}{ab:Bool}{col:Option Bool}{dd:Option ay}{k0 k1 k2 k3 k5:Option aj}{B Bn newId nid initId inN:String}{bmN:List aj}
variable {s:az} {Q:Flow->az->Prop}
theorem KH {xx:Sem aj}{x:ay} (hbase:bm.contains (.type "BaseException")=true)(hh:A.handled=some (.ref x))
  (h:aS (aR prog w) A xx (fun v s₁=>∃ e t dx ox vx,v=.ref e/\x ≠ e/\s₁.heap.get? C=some (eI nm q C N bs bm hdct sn sub ab col dd k0 k1 k2 k3 k5 newId) /\
   s₁.heap.get? e=some { cls:=.ref C,data:=.fields #[.ref t,.none,.none,.none,.bool false,.none],dict:=dx }/\s₁.heap.get? x=some ox/\ox.data=.fields vx/\vx[2]?=some .none /\
   E (.ref e) { s₁ with heap:=s₁.heap.update e (bB (·.setIfInBounds 2 (.ref x))) }) E s) :
  aS (aR prog w) A (nc env (some xx) none) Q E s:=by
 have hcB:(aj.ref C :: bm).contains (.type "BaseException")=true:=by rw [mh,hbase,Bool.or_true]
 unfold nc
 refine aq (bn h (fun v s₁ h₁=>?_) fun _ _ x=>x)
 obtain ⟨e,t,dx,ox,vx,rfl,hne,hC,he,hx,hxd,hx2,hE⟩:=h₁
 obtain ⟨hp,g,d,tk,os⟩:=s₁
 repeat (first | with_reducible refine dI he ?_ | with_reducible refine dI hC ?_ | (with_reducible refine gO hC ?_;rw [hcB]) | wp_step)
 exact YW hh hne hx hxd hx2 he rfl (by simp) hE
theorem Lj (Fn:eL Bn newId inN bmN)(hBn:bmB.contains (.type Bn)=true)(F:eL B nid initId bmB) {mN:Str->Option aj}{cx:Str}{x:ay}{np cpos pos:Pos}{args:List Expr} {fI:ay}{oI:Obj}
  (hbase:bm.contains (.type "BaseException")=true) (hh:A.handled=some (.ref x)) (hplain:(b9 cpos (aO args env)).any (·.1)=false) (hi:mN "__init__"=some (.ref fI)) (hfc:oI.cls=.type "function")
  (h:aS (aR prog w) A (eval (.Name cx np) env) (fun f s₁=>f=.ref C/\aS (aR prog w) A (evalArgs (.ref C) true (b9 cpos (aO args env)) [])
   (fun a s₂=>a.kw=[]/\a.pos.length<=aQ/\s₂.heap.get? C=some (eI nm q C N bs bm hdct sn sub ab col dd k0 k1 k2 k3 k5 newId)/\s₂.heap.Ns N mN/\nq s₂.heap bmB bm/\s₂.heap.get? fI=some oI /\
    ∀ h' e,hV s₂.heap h' e (.ref C) a.pos->aS (aR prog w) (A.under (.builtin "type.__call__" ⟨.ref C :: a.pos,[]⟩)) (call (.ref fI) (.ref e :: a.pos)) (fun r s'=>r=.none/\x ≠ e /\
     s'.heap.get? C=some (eI nm q C N bs bm hdct sn sub ab col dd k0 k1 k2 k3 k5 newId)/\(∃ t dx,s'.heap.get? e=some { cls:=.ref C,data:=.fields #[.ref t,.none,.none,.none,.bool false,.none],dict:=dx }) /\
     (∃ ox vx,s'.heap.get? x=some ox/\ox.data=.fields vx/\vx[2]?=some .none)/\E (.ref e) { s' with heap:=s'.heap.update e (bB (·.setIfInBounds 2 (.ref x))) }) E { s₂ with heap:=h' }) E s₁) E s) :
  aS (aR prog w) A (exec (.Raise (some (.Call (.Name cx np) args [] cpos)) none pos) env) Q E s:=by
 rw [arm_exec_Raise]
 refine aq (cZ (KH (C:=C) (nm:=nm) (q:=q) (N:=N) (bs:=bs) (bm:=bm) (hdct:=hdct) (sn:=sn) (sub:=sub) (ab:=ab) (col:=col) (dd:=dd) (k0:=k0) (k1:=k1) (k2:=k2) (k3:=k3) (k5:=k5) (newId:=newId) hbase hh (aq (bn (wpAny_Call_ofName (bn h (fun f s₁ h₁=>?_) fun _ _ x=>x)) (fun v s₃ h₃=>aq (cZ (aL h₃))) fun _ _ x=>x))))
 obtain ⟨rfl,h₁⟩:=h₁
 unfold gD
 refine aq (dq (bn h₁ (fun a s₂ h₂=>aq (cZ ?_)) fun _ _ x=>x))
 obtain ⟨apos,akw⟩:=a
 obtain ⟨hkw,hlen,hC,hn,T,hf,h₂⟩:=h₂
 obtain rfl:akw=[]:=hkw
 obtain ⟨hp,g,d,tk,os⟩:=s₂
 simp only [hplain]
 refine aq (wpAny_keeperOf_exc hC ?_)
 refine aq (X1 (hrest:=hlen) Fn hBn F T hC hn hi hf hfc fun h' e hm=>bn (h₂ h' e hm) (fun r s' hr=>⟨hr.1,aq (dq (wpAny_point (aL ?_)))⟩) fun _ _ x=>x)
 obtain ⟨_,hne,hC',⟨t,dx,he⟩,⟨ox,vx,hx,hxd,hx2⟩,hE⟩:=hr
 exact ⟨e,t,dx,ox,vx,rfl,hne,hC',he,hx,hxd,hx2,hE⟩
end
end PySem
namespace L2
open PySem PySem.Spec PyProof.Rows
theorem yD {h h' base:Heap}(k:∀ b o,h.get? b=some o->(∀ vs,o.data ≠ .fields vs)->∃ o',h'.get? b=some o'/\∀ vs,o'.data ≠ .fields vs):∀ {l:List Env},h.FunFrames base l->h'.FunFrames base l
 | [],_=>trivial
 | _ :: _,⟨hk,⟨L,o,hf,hn,ho,hd⟩,hr⟩=>let ⟨o',e,d⟩:=k L o ho hd;⟨hk,⟨L,o',hf,hn,e,d⟩,yD k hr⟩
section
variable {M:ni}{A:bg}{E:aj->az->Prop}{s:az}
variable {base:Heap} {cls a0 fl:aj}
theorem XJ {l:List Env}{e L:ay} {Q:Unit->az->Prop}(hkb:base.StaysIn s.heap)(hl:s.heap.FunFrames base l)(ht:s.heap.TracedAtW base e cls a0 fl)
  (h:∀ h',base.StaysIn h'->h'.FunFrames base l->h'.TracedAtW base e cls a0 (fU L)->(∀ b o,s.heap.get? b=some o->(∀ vs,o.data ≠ .fields vs)->h'.get? b=some o)->h'.get? e=s.heap.get? e->Q () { s with heap:=h' }) :
  aS M A (iS (.ref e) (some L)) Q E s:=by
 obtain ⟨oe,vs,T,oT,ts,he,hcls,hd,h1,hnT,hTe,hT,hdT,h3⟩:=ht
 have hsz:3<ts.size:=(hW.mp h3).1
 have other:∀ b,b ≠ T->(s.heap.update T (bB (·.setIfInBounds 3 ((some L:Option ay).elim aj.none fun f=>fU f)))).get? b=s.heap.get? b:=fun b hb=>dP _ _ (Ne.symm hb)
 have noR:∀ b o,s.heap.get? b=some o->(∀ vs,o.data ≠ .fields vs)->b ≠ T:=fun b o hb hnf q=>by
  rw [q,hT] at hb;injection hb with hb;subst hb;exact hnf ts hdT
 unfold iS
 refine aq (bY he hd h1 ?_)
 rw [if_pos (show (aj.ref T != aj.none)=true from by simp)]
 refine d3 hT hdT hsz (h _ (fun b o hbo=>(other b fun q=>by rw [q,hnT] at hbo;cases hbo).trans (hkb b o hbo)) (hl.of_keeps fun b o hb hnf=>⟨o,(other b (noR b o hb hnf)).trans hb,rfl⟩) ?_ (fun b o hb hnf=>(other b (noR b o hb hnf)).trans hb) (other e (Ne.symm hTe)))
 exact ⟨oe,vs,T,_,_,(other e (Ne.symm hTe)).trans he,hcls,hd,h1,hnT,hTe,bK _ hT (cJ (cm hdT _)),cm hdT _,by simp [hsz]⟩
theorem yH {e:ay} {Q:aj->az->Prop}(ht:s.heap.TracedAtW base e cls a0 fl)(h:∀ T,Q (.ref T) s):aS M A (lC (.ref e) 1) Q E s:=by
 obtain ⟨oe,vs,T,oT,ts,he,hcls,hd,h1,_⟩:=ht
 exact bY he hd h1 (h T)
end
section
variable {X:Cx}{E:XK}{pins:List (ay × Obj)}{σ:St}{H:Hp}{s:az}
theorem B3 (I:Inv X pins σ H s)(hex:X.ex=[]){x:ay}{s':az}(hx0:X.s₀.heap.get? x=none)(hx:H x=none)(ho:s'.os=s.os)(hg:s'.gens=s.gens)(st:(jB X s x).StaysIn s'.heap)
  (us:∀ b o,b ≠ X.env.locals->s.heap.get? b=some o->(∀ vs,o.data ≠ .fields vs)->∃ sl,s'.heap.get? b=some { o with slots:=sl }) (hs:X.stack=X.env :: X.outer):yb X.prog X.w X.outer X.H₀ X.s₀ (jB X s x) H s':=by
 have nx:∀ b,b ∉ X.ex:=fun b=>by rw [hex];simp
 have hid:∀ b o o',X.s₀.heap.get? b=some o->b ∉ frs X.outer->s.heap.get? b=some o'->(jB X s x).get? b=some o':=fun b o o' e hb e1=>ft _ e1 fun z=>by
  rcases aF.mp z with rfl | z
  ·rw [hx0] at e;cases e
  ·exact I.notStk e hb z
 refine ⟨ho.trans I.os,by rw [hg];exact I.bare,st,fun b o e hb=>?_,fun b o e hb=>?_,I.ok.frf,fun b o e n=>I.base.free b o e n (nx b),I.base.tups,I.base.frzs,I.base.tbls,XN I hx⟩
 ·obtain ⟨o1,e1⟩:=I.base.there b o e (nx b)
  refine ⟨o1,hid b o o1 e hb e1,fun n=>?_⟩
  have:=I.base.keep b o e n hb (nx b)
  rw [e1] at this;cases this;rfl
 ·obtain ⟨sl,e1⟩:=I.base.slot b o e (I.ok.frf b hb) hb (nx b)
  obtain ⟨_,o2,e2,nf⟩:=I.stack.mem (yY hs hb)
  rw [e1] at e2;cases e2
  obtain ⟨sl2,e3⟩:=us b _ (I.ltS e) e1 nf
  exact ⟨sl2,e3⟩
theorem Ky (D:DX X E)(I:Inv X pins σ H s){x x1 C:ay}{d:Option ay}{oe:Obj}{vs:Array aj}{a0:aj}{h1:Heap}{n:Str}{hpos:Pos}(hl:X.env.kindOf n=some .local)
  (k:∀ b o,b ≠ x1->s.heap.get? b=some o->h1.get? b=some o) (kx:∀ o,s.heap.get? x1=some o->∃ vs,o.data=.fields vs) (he:h1.get? x1=some oe) (hc:oe.cls=.ref C) (hd:oe.dict=d) (hf:oe.data=.fields vs) (hv1:vs[1]?=some .none) (hv0:vs[0]?=some a0)
  (hx0:X.s₀.heap.get? x1=none) (hx:H x1=none) (two:Two d H) (q:E (.ref C) d H) :
  AsSuiteRaised (aR X.prog X.w) (X.A.mark (some (.ref x))) X.env n hpos (notedBy (aR X.prog X.w) (X.A.mark (some (.ref x))) X.env (cameBackBy (aR X.prog X.w) X.A X.env X.xe)) (.ref x1) { s with heap:=h1 }:=by
 have hs:=D.stk
 have hp:(X.env.scope.kind == .class || (X.env.scope.kind == .module && X.env.locals != X.env.globals))=false:=by rw [I.ok.kind];rfl
 have st1:(jB X s x1).StaysIn h1:=fun b o e=>k b o (fun z=>by rw [z,jB,du _ (bD)] at e;cases e) (gT _ e)
 have us1:s.heap.UpToSlots h1:=fun b o e nf=>by
  by_cases c:b=x1
  ·rw [c] at e
   obtain ⟨vs,z⟩:=kx o e
   exact absurd z (nf vs)
  ·exact ⟨o.slots,k b o c e⟩
 have fr0:s.heap.FunFrames (jB X s x1) (X.env :: X.outer):=by
  have:=I.stack
  rw [hs] at this
  exact i8 this fun env he b hb=>bj _ (by rw [hs];exact eJ.mpr ⟨env,he,hb⟩)
 have fr1:h1.FunFrames (jB X s x1) (X.env :: X.outer):=fr0.of_keeps fun b o e nf=>by
  obtain ⟨sl,z⟩:=us1 b o e nf
  exact ⟨_,z,rfl⟩
 have xn:(jB X s x1).get? x1=none:=du _ bD
 have ln:(jB X s x1).get? X.env.locals=none:=du _ (bj _ (by rw [hs];exact eJ.mpr ⟨X.env,bD,D.fr⟩))
 have hfr:(X.A.mark (some (.ref x))).frames=some (X.env :: X.outer):=by rw [<- hs];exact I.ok.frames
 have hfr':X.A.frames=some (X.env :: X.outer):=hfr
 have note1:aS (aR X.prog X.w) (X.A.mark (some (.ref x))) (iM (.ref x1) X.env) (fun _ s2=>∃ h',s2={ s with heap:=h' }/\Heap.NotedW (jB X s x1) (X.env :: X.outer) x1 oe.cls a0 (fU X.env.locals) h1 h') (fun _ _=>False) { s with heap:=h1 }:=by
  unfold iM
  simp only [D.fr]
  refine aq (bY he hf hv1 ?_)
  rw [if_neg (by decide)]
  exact wpAny_entryW hfr fr1 D.fr he st1 xn hf (hW.mp hv1).1 hv0 fun h' hN=>⟨h',rfl,hN⟩
 refine bn ((Z2 (.ref x1) X.env).any note1) (fun _ s2 h2=>?_) fun _ _ z=>z.elim
 obtain ⟨⟨h2,rfl,l1,l2,l3,l4⟩,sd⟩:=h2
 obtain ⟨o2,ho2,hd2,_⟩:=sd x1 oe he
 obtain ⟨m,⟨ol,es,ep,hol,hdl,rl⟩,_⟩:=id I.loc
 have lx:X.env.locals ≠ x1:=fun z=>by
  obtain ⟨vs,q⟩:=kx ol (z ▸ hol)
  rw [hdl] at q;cases q
 obtain ⟨sl,hol2⟩:=l4 _ ol (k _ ol lx hol) (fun vs q=>by rw [hdl] at q;cases q)
 refine el hl ⟨_,es,ep,hol2,hdl,rl⟩ hp fun h3 v hn3 sb3=>?_
 have k3:∀ b,b ≠ X.env.locals->h3.get? b=h2.get? b:=fun b hb=>sb3.2 b hb
 have st3:(jB X s x1).StaysIn h3:=fun b o e=>(k3 b (fun z=>by rw [z,ln] at e;cases e)).trans (l1 b o e)
 have fr3:h3.FunFrames (jB X s x1) (X.env :: X.outer):=yD (fun b o e nf=>by
  by_cases c:b=X.env.locals
  ·obtain ⟨o',_,_,ho',hd',_⟩:=hn3
   exact ⟨o',c ▸ ho',fun vs q=>by rw [hd'] at q;cases q⟩
  ·exact ⟨o,(k3 b c).trans e,nf⟩) l2
 have tr3:h3.TracedAtW (jB X s x1) x1 oe.cls a0 (fU X.env.locals):=by
  obtain ⟨oe',vs',T,oT,ts,g1,g2,g3,g4,g5,g6,g7,g8,g9⟩:=l3
  have lT:T ≠ X.env.locals:=fun z=>by
   rw [z,hol2] at g7;cases g7
   have g8:ol.data=.fields ts:=g8
   rw [hdl] at g8;cases g8
  exact ⟨oe',vs',T,oT,ts,(k3 _ (Ne.symm lx)).trans g1,g2,g3,g4,g5,g6,(k3 _ lT).trans g7,g8,g9⟩
 have us3:∀ b o,b ≠ X.env.locals->s.heap.get? b=some o->(∀ vs,o.data ≠ .fields vs)->∃ sl,h3.get? b=some { o with slots:=sl }:=fun b o hb e nf=>by
  obtain ⟨sl,e1⟩:=us1 b o e nf
  obtain ⟨sl2,e2⟩:=l4 b _ e1 nf
  exact ⟨sl2,(k3 b hb).trans e2⟩
 have ho3:h3.get? x1=some o2:=(k3 _ (Ne.symm lx)).trans ho2
 have hd3:o2.dict=d:=hd2.trans hd
 clear note1 sd l1 l2 l3 l4 hn3
 unfold PySem.passOn
 refine aq (yH (s:=⟨h3,_,_,_,_⟩) tr3 fun T=>?_)
 rw [if_neg (show ¬ (aj.ref T == aj.none)=true from by simp)]
 rw [D.fr]
 refine aq ?_
 refine XJ (s:=⟨h3,_,_,_,_⟩) st3 fr3 tr3 fun h4 st4 fr4 tr4 us4 e4=>wpAny_throw ?_
 have us4':∀ b o,b ≠ X.env.locals->s.heap.get? b=some o->(∀ vs,o.data ≠ .fields vs)->∃ sl,h4.get? b=some { o with slots:=sl }:=fun b o hb e nf=>by
  obtain ⟨sl,e1⟩:=us3 b o hb e nf
  exact ⟨sl,us4 b _ e1 nf⟩
 have ho4:h4.get? x1=some o2:=e4.trans ho3
 unfold notedBy
 refine i9 D.fr tr4 ?_
 unfold cameBackBy
 refine aq (yH (s:=⟨h4,_,_,_,_⟩) tr4 fun T=>?_)
 rw [if_neg (show ¬ (aj.ref T == aj.none)=true from by simp)]
 rw [D.fr]
 refine XJ (s:=⟨h4,_,_,_,_⟩) st4 fr4 tr4 fun h5 st5 fr5 tr5 us5 e5=>?_
 have us5':∀ b o,b ≠ X.env.locals->s.heap.get? b=some o->(∀ vs,o.data ≠ .fields vs)->∃ sl,h5.get? b=some { o with slots:=sl }:=fun b o hb e nf=>by
  obtain ⟨sl,e1⟩:=us4' b o hb e nf
  exact ⟨sl,us5 b _ e1 nf⟩
 have ho5:h5.get? x1=some o2:=e5.trans ho4
 rw [D.xe]
 unfold leaving
 refine aq (i9 D.fr tr5 ?_)
 refine bn ((xM (.ref x1) none).any (wpAny_landsW (s:=⟨h5,_,_,_,_⟩) (E:=fun _ _=>False) (Q:=fun _ s6=>∃ h6,s6=⟨h6,_,_,_,_⟩/\fm (jB X s x1) (X.env :: X.outer) x1 oe.cls a0 h6/\h5.UpToSlots h6) ⟨st5,xn,fr5,tr5⟩ fun h6 f6 u6=>⟨h6,rfl,f6,u6⟩)) (fun _ s6 h6=>?_) fun _ _ z=>z.elim
 obtain ⟨⟨h6,rfl,f6,u6⟩,sd6⟩:=h6
 obtain ⟨o6,ho6,hd6,_⟩:=sd6 x1 o2 ho5
 rw [hc] at f6
 refine ⟨x1,C,d,H,rfl,⟨⟨jB X s x1,a0,B3 I D.ex (s':=⟨h6,_,_,_,_⟩) hx0 hx rfl rfl f6.1 (fun b o hb e nf=>?_) hs,f6.1,xn,f6.2.2.1.2.2,f6.2.2.2⟩,o6,ho6,hd6.trans hd3,.inr two⟩,q⟩
 obtain ⟨sl,e1⟩:=us5' b o hb e nf
 obtain ⟨sl2,e2⟩:=u6 b _ e1 nf
 exact ⟨sl2,e2⟩
end
open PySem.W (Looks InstAt findIn findObj subIn mroIn clsIn takerIn hasDictIn)
structure vv (k:Nat)(A:bg):Prop where
 gd:A.guards=some []
 dp:A.depth+3 * k+5<fZ
 un:A.units+16 * k+200<g0
theorem qu.h {k:Nat}{A:bg}(r:qu k A)(h:Option aj):vv k (A.mark h):=⟨r.gd,r.dp,r.un⟩
variable {A:bg}
theorem vv.mono {j k:Nat} (r:vv k A)(h:j<=k):vv j A:=⟨r.gd,by have:=r.dp;omega,by have:=r.un;omega⟩
theorem vv.make {k:Nat} (r:vv (k+1) A)(C:ay)(us:List aj)(kw:List (Str × aj)):vv k (A.under (.builtin "type.__call__" ⟨.ref C :: us,kw⟩)):=
 ⟨(vm).trans r.gd,by have:=r.dp;rw [v9];omega,by have:=r.un;rw [wV];omega⟩
def FnH (P:aX)(w:bu)(K:aA)(mg:Str->Option aj)(base:Heap)(k:Nat)(f:ay)(fd:df)(ps:List Str)(sp:Sp):Prop:=
 ∀ (A:bg) (x:ay) (outer:List Env) (s:az) (H:Hp) (args:Args) (us:List aj) (vs:List V) (Q:VK) (E:XK),A.handled=some (.ref x)->vv k A->Qq P w K mg base A outer s H->i3 s fd args (ps.zip us)->zJ vs us->sp vs H Q E ->
  fL (aR P w) A (.call (.ref f) args) (CR CX0 outer P w H s Q E) s
variable {P:aX} {w:bu} {K:aA} {mg:Str->Option aj} {base:Heap} {f:ay} {fd:df} {ps:List Str}
theorem FnH.mono {j k:Nat} {sp:Sp}(F:FnH P w K mg base j f fd ps sp)(h:j<=k):FnH P w K mg base k f fd ps sp:=
 fun A x outer s H args us vs Q E hh hr=>F A x outer s H args us vs Q E hh (hr.mono h)
theorem IC {P:aX}{w:bu}{K:aA}{mg:Str->Option aj}{base:Heap}{k:Nat}{f:ay}{name qual:Str}{params:Arguments}{body:List cg}{scope:Scope}{dV kV doc pm cdv ct oc:aj}{an od:Option ay}
  {osl:Array (Option aj)} {N ps:List Str} {sp:Sp} (lk:K.lookup f=some ⟨oc,od,.func (bJ name qual params body scope dV kV doc pm an cdv ct),osl⟩) (hcd:e9 K cdv qual=true) (S:zr N ps scope)
  (len:∀ vs H Q E,sp vs H Q E->vs.length=ps.length)
  (hbody:∀ (A:bg) (outer:List Env) (s:az) (H:Hp) (vs:List V) (Q:VK) (E:XK) (x:ay),sp vs H Q E ->
   ∃ t,PSs ((jS CX0 P w K mg base N qual scope f cdv A outer s H E).inside x) body t/\t { nx:=fun _ H'=>Q .non H',rt:=Q } (start N vs) H) :
  FnH P w K mg base k f (bJ name qual params body scope dV kV doc pm an cdv ct) ps sp:=by
 intro A x outer s H args us vs Q E hh hr e0 hb r hsp
 have hl:=len _ _ _ _ hsp
 obtain ⟨h0,dp,fr,gd,un⟩:=A
 obtain rfl:h0=some (.ref x):=hh
 have KX:K.In s.heap:=e0.mod.kin.keeps fun b o e=>(e0.bs b o e).1
 have lim:s.heap.NoLimit:=e0.mod.nolimit.keeps fun b o e=>(e0.bs b o e).1
 have hkind:∀ y ∈ ps.zip us,scope.names.lookup y.1=some .local \/ (scope.names.lookup y.1=some .cell/\((mX (s.heap.objs.size+1) scope.names []).lookup y.1).isSome=true):=fun ⟨n,v⟩ hy=>by
  rcases S.par n (gI hy).1 with q | q
  ·exact .inl q
  ·exact .inr ⟨q,f7 _ _ _ (.inl q)⟩
 have hdp:dp<fZ:=by have:dp+3 * k+5<fZ:=hr.dp;omega
 refine codeAny_call_function hdp (KX _ _ lk) rfl S.co S.gen rfl (lZ KX hcd) (hb _ _ _ _ ?_)
 refine wpAny_newFunctionEnv_cells S.kind hkind fun env he s1 xx=>?_
 subst he
 refine ⟨lim.keeps xx.toInCall.keep,codeAny_func ?_⟩
 obtain ⟨t,ht,hq⟩:=hbody ⟨none,dp,fr,gd,un⟩ outer s H vs Q E x hsp
 have e0':Qq P w K mg base ⟨none,dp,fr,gd,un⟩ outer s H:=⟨e0.frames,e0.mod,e0.bs,e0.bsz,e0.funs,e0.frf,e0.hok,e0.bare⟩
 have I:Inv ((jS CX0 P w K mg base N qual scope f cdv ⟨none,dp,fr,gd,un⟩ outer s H E).inside x) [] (start N vs) H s1:=(Zp S rfl e0' hl r xx).inside x
 refine bn (ht [] s1 (start N vs) H _ I hq) (fun fl s' hs=>?_) fun e s' hs=>hs.elim
 have fin:∀ {σ':St} {H':Hp} {v:V} {u:aj},Inv ((jS CX0 P w K mg base N qual scope f cdv ⟨none,dp,fr,gd,un⟩ outer s H E).inside x) [] σ' H' s'->zG v u->Q v H'->CE outer P w H s Q u s':=
  fun {σ' H' v u} J rv q=>⟨v,H',J.os,J.bare,J.base,J.hok,rv,q⟩
 cases fl with
 | ret u=>
  obtain ⟨v,σ',H',J,rv,q⟩:=hs
  exact fin J rv q
 | next=>
  obtain ⟨σ',H',J,q⟩:=hs
  exact fin (v:=V.non) (u:=aj.none) J rfl q
 | brk=>
  obtain ⟨_,_,_,q⟩:=hs
  exact bM q
 | cont=>
  obtain ⟨_,_,_,q⟩:=hs
  exact bM q
def Z1 (P:aX)(w:bu)(K:aA)(mg:Str->Option aj)(base:Heap)(C:ay)(k n:Nat)(fn:List V->List (Str × V)):Prop:=
 ∃ f fd ps,jF K C yW "ValueError.__new__" f=true/\FnH P w K mg base k f fd ps (spI C n fn)/\jH K fd ps []/\(∃ oI,K.lookup f=some oI/\oI.cls=.type "function")/\ps.length=n+1
variable {C:ay}
theorem Z1.mono {j k n:Nat}{fn:List V->List (Str × V)}(m:Z1 P w K mg base C j n fn)(h:j<=k):Z1 P w K mg base C k n fn:=
 let ⟨f,fd,ps,q,F,r⟩:=m
 ⟨f,fd,ps,q,F.mono h,r⟩
variable {st:cg} {N:List Str}
theorem FK {qual:Str} {k n:Nat}{fn:List V->List (Str × V)}(F:Fun K "__init__" qual st f fd)(S:zr N ps (zg st))
  (hb:∀ (kV doc pm:aj) (an:Option ay) (cdv ct:aj) (us:List aj),us.length=ps.length->eM (bJ "__init__" qual (qx st) (zQ st) (zg st) .none kV doc pm an cdv ct) ⟨us,[]⟩=pure (ps.zip us))
  (q:jF K C yW "ValueError.__new__" f=true) (hf:cQ K (.ref f)=true) (hl:ps.length=n+1)
  (hbody:∀ (cdv:aj) (A:bg) (outer:List Env) (s:az) (H:Hp) (E:XK) (x:ay),∃ t,PSs ((jS CX0 P w K mg base N qual (zg st) f cdv A outer s H E).inside x) (zQ st) t /\
   ∀ (a t0:ay) (us:List V) (Q:VK),us.length=n->H a=some (ku a C t0 none)->(∀ dx,H dx=none->dx ≠ a->Q .non (upd (upd H a (ku a C t0 (some dx))) dx (XdE dx (fn us))))->t { nx:=fun _ H'=>Q .non H',rt:=Q } (start N (.ref a :: us)) H):Z1 P w K mg base C k n fn:=by
 have bd:=F.binds hb
 obtain ⟨oc,od,kV,doc,pm,an,cdv,ct,osl,rfl,lk,hcd⟩:=F.ex
 have hfc:∃ oI,K.lookup f=some oI/\oI.cls=.type "function":=by
  refine ⟨_,lk,?_⟩
  have hf':=beq_iff_eq.mp hf
  have hf':Option.map (fun x:Obj=>x.cls) (K.lookup f)=some (.type "function"):=hf'
  rw [lk] at hf'
  exact bR hf'
 refine ⟨f,_,ps,q,IC lk hcd S (fun vs H Q E ⟨a,t,us,e,l,_⟩=>by rw [e,ba,l,hl]) fun A outer s H vs Q E x ⟨a,t0,us,e,l,ha,hq⟩=>?_,bd,hfc,hl⟩
 obtain ⟨t,h1,h2⟩:=hbody cdv A outer s H E x
 subst e
 exact ⟨t,h1,h2 a t0 us Q l ha hq⟩
open PySem.W (Looks InstAt findIn findObj subIn mroIn clsIn takerIn hasDictIn)
noncomputable def QC (a C:ay)(d:Option ay):HO:=.ext fun h=>∃ o,h.get? a=some o/\o.cls=.ref C/\o.dict=d/\∃ vs,o.data=.fields vs/\vs[2]?=some .none
theorem Fg {H:Hp}{h:Heap}{a C:ay}{d:Option ay}{o:Obj}{vs:Array aj}(e:h.get? a=some o)(hc:o.cls=.ref C)(hd:o.dict=d)(hf:o.data=.fields vs)(h2:vs[2]?=some .none):zS P w H h a (QC a C d):=
 ⟨⟨o,e,hc,hd,vs,hf,h2⟩,⟨o,e⟩,fun _ _ ⟨o,e,r⟩ k=>⟨o,k o e,r⟩⟩
noncomputable def ehR (K:aA)(i:Nat)(T C2:ay)(n:Nat)(fn:List V->List (Str × V))(E:XK)(ta:TA):St->XK:=fun σ1 c d H1=>∃ C,c=.ref C/\cf K (.ref C) (.ref T)=some true/\¬ Two d H1 /\
 ∀ x,H1 x=none->ta (σ1.set i (some (.ref x))) (upd H1 x (QC x C d)) fun vs H2=>vs.length=n/\n<=1000/\H2 x=some (QC x C d)/\∀ dx,H2 dx=none->E (.ref C2) (some dx) (upd H2 dx (.xd (fn vs)))
noncomputable def Am (K:aA)(i:Nat)(T C2:ay)(n:Nat)(fn:List V->List (Str × V))(E:XK)(tb:(St->XK)->TS)(ta:TA):TS:=fun D σ H=>tb (ehR K i T C2 n fn E ta) D σ H
section
variable {X:Cx}{E:XK}{body:List cg}{n tx cx:Str}{i k nn:Nat}{T C2:ay}{np cp cpos rpos hpos pos:Pos}{tb:(St->XK)->TS}{ta:TA}{e1:Expr}{es:List Expr}{fn:List V->List (Str × V)}
theorem FW (D:DX X E)(nd:X.N.Nodup)(hi:X.N[i]?=some n)(hl:X.env.kindOf n=some .local)(hg:Gl X tx)(hm:X.mg tx=some (.ref T))(m:Z1 X.prog X.w X.K X.mg X.base C2 k nn fn)(hr:qu (k+1) X.A)(hgc:Gl X cx)(hmc:X.mg cx=some (.ref C2))
  (hf2:∀ vs,2<=(fn vs).length) (hb:∀ (pins:List (ay × Obj)) (xe:aj->az->Prop) (Eh:St->XK),yx (CX1 X.prog X.w) (X.tried pins xe) Eh->PSs (X.tried pins xe) body (tb Eh)) (ha:∀ x,PA (X.inside x) (e1 :: es) ta)
  (hdb:(tx == ("__debug__":Str))=false:=by decide) (hdc:(cx == ("__debug__":Str))=false:=by decide) (he:aO (e1 :: es) X.env=(false,eval e1 X.env) :: aO es X.env:=by rfl) (hpl:(b9 cpos (aO es X.env)).any (·.1)=false:=by rfl) :
  PS X (.Try body [.ExceptHandler (some (.Name tx np)) (some n) [.Raise (some (.Call (.Name cx cp) (e1 :: es) [] cpos)) none rpos] hpos] [] [] pos) (Am X.K i T C2 nn fn E tb ta):=by
 intro pins s σ H De I h
 have hs:=D.stk
 have hf:=D.fr
 have hex:=D.ex
 refine wpAny_Try_except (bn (hb pins (fun e s'=>∃ σ1 H1 s1,Inv X pins σ1 H1 s1/\CX1 X.prog X.w X.stack H1 s1 (ehR X.K i T C2 nn fn E ta σ1) e s') (ehR X.K i T C2 nn fn E ta) (fun pins' σ1 H1 s1 e s' I1 c=>⟨σ1,H1,s1,I1.untried,c⟩) [] s σ H De (I.tried _) h) (fun f s1 q=>?_) fun e s1 q=>?_)
 ·have q:=q.untried
  cases f with
  | next=>exact fG q
  | brk=>exact q
  | cont=>exact q
  | ret u=>exact q
 ·obtain ⟨σ1,H1,s1',I1,x,C,d,H',rfl,⟨⟨B,a0,a,fl⟩,hd⟩,C',eC,hx,ntw,q⟩:=q
  cases eC
  refine vo.noted I.ok hs hf ⟨a,fl,hd⟩ fun s3 h3=>?_
  obtain ⟨hx0,I3⟩:=Air.here I1 hs hf hex h3.1 h3.2.1 h3.2.2
  refine wpAny_handleBy_cons (codeAny_handlers_test (jY (I3.inside x) hg hm ?_ hdb)) (by intro z;cases z)
  obtain ⟨oe,vs,he1,hc,_⟩:=h3.2.1.first
  have LT:eQ (aR X.prog X.w) s3.heap (typeOf (.ref x)) (.ref C):=hc ▸ (eQ.ld he1).andThen .now
  refine (PySem.W.exm_one I3.kIn LT hx).here ?_
  refine h8 (h3.lands fun s4 h4=>?_)
  obtain ⟨_,I4⟩:=Air.here I1 hs hf hex h4.1 h4.2.1 h4.2.2
  have I4:Inv X pins σ1 (upd H' x (QC x C d)) s4:=by
   obtain ⟨o,ho,hdo,h2o⟩:=h4.2.2
   obtain ⟨o',vs',ho',hc',hd',_⟩:=h4.2.1.first
   rw [ho] at ho';cases ho'
   have h2o:fl2 o=some .none:=h2o.resolve_right ntw
   have h2v:vs'[2]?=some .none:=by unfold fl2 at h2o;rw [hd'] at h2o;exact h2o
   have:=I4.write (x:=x) (e:=x) (h':=s4.heap) (t':=s4.toks) (o:=QC x C d) (by rw [zl];exact True.intro) (.inl rfl) (fun _ _ _ z=>z) ⟨o,ho⟩ (Fg ho hc' hdo hd' h2v)
   rw [xJ] at this
   exact this
  refine jr I4 nd hi (aV hl) (show zG (.ref x) (.ref x) from rfl) (fun s5 I5=>?_) (.inr hl)
  obtain ⟨fI,fd,ps,qI,F,hbI,⟨oI,lk,hfc⟩,hps⟩:=m
  obtain ⟨bm,N,nm,qn,bs,hdct,sn,sub,ab,col,dd,k0,k1,k2,k3,k5,mN,hC,hN,hii,TT⟩:=JP I.ok.mod.kin qI
  refine iE ?_
  refine Lj (C:=C2) (nm:=nm) (q:=qn) (N:=N) (bs:=bs) (bm:=bm) (hdct:=hdct) (sn:=sn) (sub:=sub) (ab:=ab) (col:=col) (dd:=dd) (k0:=k0) (k1:=k1) (k2:=k2) (k3:=k3) (k5:=k5)
   cn (by decide) cn (mN:=mN) (TT.hasType cn.hasBase) rfl (by rw [he];show (false || (b9 cpos (aO es X.env)).any (·.1))=false;rw [hpl];rfl) hii hfc (jY (I5.inside x) hgc hmc ⟨rfl,?_⟩ hdc)
  have this:=ha x cpos pins s5 _ _ _ (I5.inside x) (q x hx0)
  have this:aS (aR X.prog X.w) (X.A.mark (some (.ref x))) (spliced (b9 cpos (aO (e1 :: es) X.env))) _ (fun _ _=>False) s5:=this
  rw [he] at this ⊢
  refine ei (bn this (fun us s2 h2=>?_) fun _ _ y=>y.elim)
  obtain ⟨vs2,H2,I6,r,hlv,hnn,hxq,q1⟩:=h2
  have hlu:us.length=nn:=by rw [<- r.length];exact hlv
  refine ⟨rfl,by rw [hlu,cH];omega,I6.bk _ _ hC,hN.keeps I6.bk,TT.keeps I6.bk,I6.kIn _ _ lk,fun h' x1 hx1=>?_⟩
  obtain ⟨t1,ho,_,_⟩:=hx1.there
  have nx:s2.heap.get? x1=none:=hx1.new
  have hx10:X.s₀.heap.get? x1=none:=by
   cases z:X.s₀.heap.get? x1 with
   | none=>rfl
   | some o=>
    obtain ⟨o',e'⟩:=I6.base.there x1 o z (by show x1 ∉ X.ex;rw [D.ex];simp)
    rw [nx] at e';cases e'
  have hx11:H2 x1=none:=by
   cases z:H2 x1 with
   | none=>rfl
   | some o=>
    obtain ⟨u,e'⟩:=(I6.hok x1 o z).here
    rw [nx] at e';cases e'
  have J2:Inv (X.inside x) pins _ H2 { s2 with heap:=h' }:=I6.kept (t':=s2.toks) hx1.keeps
  have J3:Inv (X.inside x) pins _ (upd H2 x1 (ku x1 C2 t1 none)) { s2 with heap:=h' }:=J2.track hx11 hx10 (fun z=>by
    obtain ⟨mm,⟨o,_,_,e',_⟩,_⟩:=I6.loc
    rw [<- z,nx] at e';cases e') (fun y c e' z=>by
    obtain ⟨v,o,e2,_⟩:=I6.cell y c e'
    rw [z,nx] at e2;cases e2) (fun p hp z=>by
    have:=(I6.pin p hp).1
    rw [z,nx] at this;cases this) (ZZ ho)
  have r2:zJ (V.ref x1 :: vs2) (aj.ref x1 :: us):=.cons rfl r
  have hl2:(aj.ref x1 :: us ++ []).length=ps.length:=by rw [bW,ba,hlu,hps]
  have b1:=hbI { s2 with heap:=h' } (aj.ref x1 :: us) J3.kIn hl2
  rw [bW] at b1
  refine hJ (fj (F _ x X.stack _ _ ⟨aj.ref x1 :: us,[]⟩ (aj.ref x1 :: us) (V.ref x1 :: vs2) (fun v H3=>v=.non/\∃ dx,H2 dx=none/\dx ≠ x1/\H3=upd (upd H2 x1 (ku x1 C2 t1 (some dx))) dx (XdE dx (fn vs2))) E rfl ((hr.h _).make C2 us []) (J3.env0.make C2 us []) b1 r2 ⟨x1,t1,vs2,rfl,hlv,zl,fun dx hd hne=>⟨rfl,dx,?_,hne,by rw [xJ]⟩⟩) fun r s' hq'=>?_)
  ·rw [zj hne] at hd;exact hd
  cases r with
  | error e=>exact bM hq'
  | ok fl=>
   cases fl with
   | ret u=>
    obtain ⟨v,H3,J4,rv,ev,dx,d1,d2,eH⟩:=J3.after hq'
    subst ev eH
    have hcl:=J4.bk _ _ hC
    have hexo:s'.heap.get? x1=some (VR C2 t1 (some dx)):=by
     have:=J4.hok x1 (ku x1 C2 t1 (some dx)) (by rw [zj (Ne.symm d2),zl])
     exact this.1
    have xx1:x ≠ x1:=fun z=>by rw [z,hx11] at hxq;cases hxq
    have xdx:x ≠ dx:=fun z=>by rw [z,d1] at hxq;cases hxq
    have hxo:∃ ox vx,s'.heap.get? x=some ox/\ox.data=.fields vx/\vx[2]?=some .none:=by
     obtain ⟨⟨o,g1,_,_,vx,g2,g3⟩,_⟩:=J4.hok x (QC x C d) (by rw [zj xdx,zj xx1];exact hxq)
     exact ⟨o,vx,g1,g2,g3⟩
    refine ⟨rv,xx1,hcl,⟨t1,some dx,hexo⟩,hxo,?_⟩
    have J5:=J4.drop (x:=x1) (by rw [zj (Ne.symm d2),zl];exact True.intro) hx10
    have eH:(fun b=>if b=x1 then none else upd (upd H2 x1 (ku x1 C2 t1 (some dx))) dx (XdE dx (fn vs2)) b)=upd H2 dx (XdE dx (fn vs2)):=by
     funext b
     by_cases c:b=x1
     ·rw [if_pos c,c,zj (Ne.symm d2)];exact hx11.symm
     ·rw [if_neg c]
      by_cases c2:b=dx
      ·rw [c2,zl,zl]
      ·rw [zj c2,zj c,zj c2]
    rw [eH] at J5
    obtain ⟨⟨mA,hn1,hr1,_⟩,⟨od,hod⟩,_⟩:=J5.hok dx (XdE dx (fn vs2)) zl
    have J6:=J5.write (x:=dx) (e:=dx) (h':=s'.heap) (t':=s'.toks) (o:=.xd (fn vs2)) (by rw [zl];exact True.intro) (.inl rfl) (fun _ _ _ z=>z) ⟨od,hod⟩ ⟨mA,hn1,hr1⟩
    rw [xJ] at J6
    have J7:Inv X pins _ (upd H2 dx (.xd (fn vs2))) s':=J6.outside I.ok
    have hup:=bK (bB (·.setIfInBounds 2 (.ref x))) hexo rfl
    exact Ky D J7 hl (fun b o hb e'=>(dP _ _ (Ne.symm hb)).trans e') (fun o z=>by rw [hexo] at z;cases z;exact ⟨_,rfl⟩) hup rfl rfl rfl rfl rfl hx10 (by rw [zj (Ne.symm d2)];exact hx11) ⟨dx,_,rfl,zl,hf2 _⟩ (q1 dx d1)
   | next=>exact bM hq'
   | brk=>exact bM hq'
   | cont=>exact bM hq'
end
open PySem.W (Looks InstAt findIn findObj subIn mroIn clsIn takerIn hasDictIn)
noncomputable def K0 (K:aA)(ta:TE)(f:Str):TE:=fun σ H Q=>ta σ H fun x H1=>∃ a C dx fs v,x=.ref a/\H1 a=some (QC a C (some dx))/\H1 dx=some (.xd fs)/\vw K C/\eg K C=true/\d7 K (.ref C) f=some none/\fs.lookup f=some v/\Q v H1
section
variable {X:Cx}{e:Expr}{ta:TE}{f:Str}{pos:Pos}{K:aA}
theorem DB (he:PE X e ta)(hb:dS e f X.env (eval e X.env)=eval e X.env):PE X (.Attribute e f pos) (K0 X.K ta f):=by
 intro pins s σ H Q I h
 refine Z5 hb (thn (he pins s σ H _ I h) fun u s1 ⟨x,H1,I1,rx,a,C,dx,fs,v,ex,ea,ed,c,hh,hn,l,q⟩=>?_)
 subst ex
 obtain rfl:u=aj.ref a:=rx
 obtain ⟨⟨oa,g1,g2,g3,vs,g4,_⟩,_,_⟩:=I1.hok a _ ea
 obtain ⟨mA,hns,hr⟩:=I1.hok dx _ ed
 obtain ⟨od,ho,hl⟩:=y8 hns
 have hv:=hr f
 rw [l] at hv
 cases z:mA f with
 | none=>rw [z] at hv;exact hv.elim
 | some u'=>
  rw [z] at hv
  have J:InstAt s1.heap a oa C (some od):=⟨g1,g2,by unfold fg;rw [g4],by rw [g3];exact ho⟩
  refine AQ I1.kIn J c.bx c.ga c.gt (vk hh hn (by rw [hl,z])) (yT hv) ⟨v,H1,I1.tok _,hv,q⟩
theorem Y1 (h:X.K=K)(he:PE X e ta)(hb:dS e f X.env (eval e X.env)=eval e X.env):PE X (.Attribute e f pos) (K0 K ta f):=h ▸ DB he hb
end
noncomputable def GB (K:aA)(i j:Nat)(T C2:ay)(f:Str)(fn:List V->List (Str × V))(EA:ASt->AXK)(ab:(ASt->AXK)->AS):AS:=fun B D ρ M=>
 ab (fun ρ1 C fs M1=>cf K (.ref C) (.ref T)=some true/\∃ (a:Int) (v:V),ρ1[j]?=some (some (.d (.int a)))/\fs=[(f,v)]/\vw K C/\eg K C=true/\d7 K (.ref C) f=some none/\i ≠ j/\i<ρ1.length/\EA ρ1 C2 (fn [.int a,v]) M1) B D ρ M
section
variable {HX:Hp}{OX:Own}{MX:MH}{K:aA}{i j:Nat}{T C2:ay}{f:Str}{fn:List V->List (Str × V)}{E:XK}{EA:ASt->AXK}{tb:(St->XK)->TS}{ab:(ASt->AXK)->AS}
theorem Vi (hE:EXs HX OX MX (fun _=>E) EA)(hb:∀ (H0:Hp) (O0:Own) (M0:MH) (E:St->XK) (EA:ASt->AXK),EXs H0 O0 M0 E EA->kz H0 O0 M0 (tb E) (ab EA)) :
  kz HX OX MX (Am K i T C2 2 fn E tb (Ji (wZ j) (Ji (K0 K (wZ i) f) Vu))) (GB K i j T C2 f fn EA ab):=
 ⟨fun {H0 O0 M0 D D' σ H O ρ M} kx w0 w e x q Dd=>(hb H0 O0 M0 _ _ ⟨fun σ1 ρ1 C fs M1 H1 O1 d q1 k1 w1 e1 xd=>by
  obtain ⟨hx,a,v,hj,rfl,xc,hh,hn,ij,il,q2⟩:=q1
  obtain ⟨dx,rfl,h1,h2,h3⟩:∃ dx,d=some dx/\H1 dx=some (.xd [(f,v)])/\O1 dx/\M1 dx=none:=by
   rcases xd with ⟨_,z⟩ | xd
   ·cases z
   ·exact xd
  refine ⟨C,rfl,hx,fun ⟨dx',fs',z1,z2,z3⟩=>?_,fun y hy=>?_⟩
  ·cases z1
   rw [h1] at z2;cases z2
   simp at z3
  obtain ⟨u,g1,g2⟩:=e1.get j _ hj
  obtain rfl:=zX g2
  have ydx:dx ≠ y:=fun z=>by rw [z,hy] at h1;cases h1
  refine ⟨.int a,by rw [cU ij];exact g1,?_⟩
  refine ⟨.ref y,by rw [fS (by rw [e1.len];exact il)],y,C,dx,[(f,v)],v,rfl,zl,by rw [zj ydx];exact h1,xc,hh,hn,by simp,?_⟩
  refine ⟨rfl,by decide,zl,fun dx2 hd2=>?_⟩
  have k2:=qP w1 hy (QC y C (some dx))
  have w2:=kM w1 hy (QC y C (some dx)) (fun _ z=>nomatch z)
  have k3:=qP w2 hd2 (.xd (fn [.int a,v]))
  have w3:=kM w2 hd2 (.xd (fn [.int a,v])) (fun _ z=>nomatch z)
  exact hE.go _ _ C2 (fn [.int a,v]) M1 _ _ (some dx2) q2 (((kx.trans k1).trans k2).trans k3) w3 (e1.ext (k2.trans k3)) (.inr ⟨dx2,rfl,zl,.inl rfl,(w2.fresh hd2).2⟩)⟩).go .refl w0 w e x q Dd⟩
end
section
variable {X:Cx}{K:aA}{E:XK}{body:List cg}{n tx cx:Str}{i k nn:Nat}{T C2:ay}{np cp cpos rpos hpos pos:Pos}{tb:(St->XK)->TS}{ta:TA}{e1:Expr}{es:List Expr}{fn:List V->List (Str × V)}
theorem Az (h:X.K=K)(D:DX X E)(nd:X.N.Nodup)(hi:X.N[i]?=some n)(hl:X.env.kindOf n=some .local)(hg:Gl X tx)(hm:X.mg tx=some (.ref T))(m:Z1 X.prog X.w X.K X.mg X.base C2 k nn fn)(hr:qu (k+1) X.A)(hgc:Gl X cx)(hmc:X.mg cx=some (.ref C2))
  (hf2:∀ vs,2<=(fn vs).length) (hb:∀ (pins:List (ay × Obj)) (xe:aj->az->Prop) (Eh:St->XK),yx (CX1 X.prog X.w) (X.tried pins xe) Eh->PSs (X.tried pins xe) body (tb Eh)) (ha:∀ x,PA (X.inside x) (e1 :: es) ta)
  (hdb:(tx == ("__debug__":Str))=false:=by decide) (hdc:(cx == ("__debug__":Str))=false:=by decide) (he:aO (e1 :: es) X.env=(false,eval e1 X.env) :: aO es X.env:=by rfl) (hpl:(b9 cpos (aO es X.env)).any (·.1)=false:=by rfl) :
  PS X (.Try body [.ExceptHandler (some (.Name tx np)) (some n) [.Raise (some (.Call (.Name cx cp) (e1 :: es) [] cpos)) none rpos] hpos] [] [] pos) (Am K i T C2 nn fn E tb ta):=h ▸ FW D nd hi hl hg hm m hr hgc hmc hf2 hb ha hdb hdc he hpl
end
abbrev Bk:=List AV->MH->(List AV->MH->Prop)->Prop
noncomputable def EK (a:Bk):Sp:=fun vs H Q _=>∃ xs M O Q',Wf H O M/\zk H O M vs xs/\a xs M Q'/\∀ ys M' us H' O' p,Q' ys M'->Ext H O M H' O' M'->Wf H' O' M'->H' p=some (.tup us)->zk H' O' M' us ys->Q (.ref p) H'
noncomputable def GQ (sp:Bk)(b:AA)(n:Nat)(ag:AGs):AS:=fun _ D ρ M=>b ρ M fun xs M1=>sp xs M1 fun ys M2=>ys.length=n/\ag ys ρ M2 fun ρ2 M3=>D.nx ρ2 M3
variable {u:TA} {b:AA} {n:Nat} {gs:TGs} {ag:AGs}
theorem Dp {sp:Bk} (h:jo u b)(hg:Zs gs ag):jq (Qn (Jn (EK sp) [] E0 u) (Y6 K n gs)) (GQ sp b n ag):=⟨fun _ w e x q E=>h.go w e q fun xs M1 vs H1 O1 q1 k1 w1 r1=>
 ⟨xs,M1,O1,_,w1,by rw [bW];exact r1,q1,fun ys M2 us H2 O2 p q2 k2 w2 hp r2=>
  ⟨p,us,rfl,SqT.of hp,r2.1.trans q2.1,hg.go w2 (e.ext (k1.trans k2)) r2 q2.2 fun σ3 H3 O3 ρ3 M3 q3 k3 w3 e3=>E.nx _ _ _ _ _ w3 e3 (((x.trans k1).trans k2).trans k3) q3⟩⟩⟩
noncomputable def Gn (b:AA)(n:Nat)(ag:AGs):AS:=fun _ D ρ M=>b ρ M fun xs M1=>xs.length=n/\n<=aQ/\ag xs ρ M1 fun ρ2 M3=>D.nx ρ2 M3
theorem WF (h:jo u b)(hg:Zs gs ag):jq (Qn (WQ u) (Y6 K n gs)) (Gn b n ag):=⟨fun _ w e x q E=>h.go w e q fun xs M1 vs H1 O1 q1 k1 w1 r1=>
 ⟨by rw [r1.1,q1.1];exact q1.2.1,fun p hp=>
  have k2:=jj w1 hp (.tup vs)
  ⟨p,vs,rfl,SqT.of zl,r1.1.trans q1.1,hg.go (yc w1 hp _) (e.ext (k1.trans k2)) (r1.ext k2) q1.2.2 fun σ3 H3 O3 ρ3 M3 q3 k3 w3 e3=>E.nx _ _ _ _ _ w3 e3 (((x.trans k1).trans k2).trans k3) q3⟩⟩⟩
noncomputable def Yf:V->List V->Hp->VK->Prop:=fun x vs H Q=>∃ l xs v j,x=.ref l/\vs=[v]/\H l=some (.lst xs)/\xs.all jW=true/\jW v=true/\j<xs.length/\(∀ y,xs[j]?=some y->eqV y v=true)/\(∀ m y,m<j->xs[m]?=some y->eqV y v=false)/\Q (.int (j:Nat)) H
section
variable {X:Cx}
theorem YS:MtR X "list.index" Yf:=by
 intro pins s σ H x vs v us Q I rx rv h
 obtain ⟨l,xs,i,j,rfl,rfl,hH,hf,hfi,hj,hji,hm,q⟩:=h
 cases rx
 obtain ⟨u,rfl,ru⟩:=rv.one
 obtain ⟨z,its,n,r,hl,e⟩:=I.lstM hH
 have hlen:=r.length
 have hsz:aQ<2 ^ 62:=by rw [cH];decide
 have item:∀ m (hmm:m<its.length),∃ y,xs[m]?=some y/\eqU i its[m]=eqV y i:=fun m hmm=>by
  have h1:xs[m]?=some xs[m]:=au (by omega)
  obtain ⟨w,hw,rw1⟩:=r.get h1
  have hw2:=(aG.mp hw).2
  exact ⟨_,h1,by rw [hw2];exact Qi rw1 (eE.mp hf _ (bv _))⟩
 refine gq F.slot_list_index ⟨_,e,rfl⟩ F.entry_list_index (F.args_list_index_2 _ _) (SeqAt.list_indexAt l its.toArray n none _ u (eqU i) j (by rw [aJ];omega) (by omega) ?_ ?_) ⟨e,?_,?_⟩
 ·obtain ⟨y,y1,y2⟩:=item j (by omega)
  rw [fc,y2]
  exact hji y y1
 ·intro m hmm hmj
  obtain ⟨y,y1,y2⟩:=item m (by rw [aJ] at hmm;exact hmm)
  rw [fc,y2]
  exact hm m y hmj y1
 ·intro y hy
  exact kH (x:=i) ru hfi r hf y (by simpa using hy)
 ·exact ⟨.int (j:Nat),H,I.kept (t':=s.toks+1) fun b o e=>e,⟨_,rfl⟩,q⟩
end
noncomputable def XX:AV->List AV->MH->AK->Prop:=fun x xs M Q=>∃ l vs d v j,qv x M=some l/\xs=[.d d]/\Xf l=some vs/\flD d=some v/\j<vs.length/\(∀ y,vs[j]?=some y->eqV y v=true)/\(∀ m y,m<j->vs[m]?=some y->eqV y v=false)/\Q (.d (.int (j:Nat))) M
theorem KJ:Bg Yf XX:=⟨fun w r1 r2 ⟨l,vs,d,v,j,hl,e,hs,hv,hj,h1,h2,q⟩ k=>by
 subst e
 obtain ⟨u,rfl,ru⟩:=kg r2
 obtain ⟨a,xs,rfl,g1,p1⟩:=qA w r1 hl
 obtain ⟨rfl,f1⟩:=Qm ru hv
 obtain ⟨rfl,f2⟩:=vN p1 hs
 exact ⟨a,xs,u,j,rfl,rfl,g1,f2,f1,hj,h1,h2,k _ _ _ _ _ q .refl w .int⟩⟩
structure K2 where
 nx:ASt->MH->Prop
 rt:List AV->MH->Prop
abbrev AST:=MH->K2->ASt->MH->Prop
structure Zo (t:TS)(a:AST):Prop where
 go:∀ {H0:Hp} {O0:Own} {M0:MH} {Q:VK} {D':K2} {σ:St} {H:Hp} {O:Own} {ρ:ASt} {M:MH} {nx:St->Hp->Prop},Wf H0 O0 M0->Wf H O M->Er H O M σ ρ->Ext H0 O0 M0 H O M->a M0 D' ρ M ->
  (∀ ys M' us H' O' p,D'.rt ys M'->Ext H0 O0 M0 H' O' M'->Wf H' O' M'->H' p=some (.tup us)->zk H' O' M' us ys->Q (.ref p) H')->t { nx:=nx,rt:=Q } σ H
noncomputable def Yk (a:AS)(b:AST):AST:=fun B D ρ M=>a B { nx:=fun ρ' M'=>b B D ρ' M',rt:=fun _ _=>False } ρ M
noncomputable def GI (b:AA):AST:=fun _ D ρ M=>b ρ M fun ys M'=>ys.length<=aQ/\D.rt ys M'
variable {a:AS}
theorem VN {t u:TS} {b:AST}(h1:jq t a)(h2:Zo u b):Zo (VD t u) (Yk a b):=
 ⟨fun w0 w e x q k=>h1.go w0 w e x q ⟨fun σ H O ρ M w e x q=>h2.go w0 w e x q k,fun _ _ _ _ _ _ _ _ z=>z.elim,fun _ _ _ _ _ _ _ _ z=>z.elim,fun _ _ _ _ _ _ _ _ z=>z.elim⟩⟩
theorem VT (h:jo u b):Zo (EE (WQ u)) (GI b):=
 ⟨fun w0 w e x q k=>h.go w e q fun ys M1 us H1 O1 q1 k1 w1 r1=>⟨by rw [r1.1];exact q1.1,fun p hp=>
  have k2:=jj w1 hp (.tup us)
  k ys M1 us _ O1 p q1.2 ((x.trans k1).trans k2) (yc w1 hp _) zl (r1.ext k2)⟩⟩
theorem Q4 {b:AST}{B:MH}{D:K2}{ρ:ASt}{M:MH}(h:∀ r,r=b->Yk a r B D ρ M):Yk a b B D ρ M:=h b rfl
theorem dfT {x:Str} {k:Nat}{a:Bk}(at_:At K mg x st)(S:zr N ps (zg st))
  (hb:∀ (kV doc pm:aj) (an:Option ay) (cdv ct:aj) (us:List aj),us.length=ps.length->eM (bJ x x (qx st) (zQ st) (zg st) .none kV doc pm an cdv ct) ⟨us,[]⟩=pure (ps.zip us))
  (len:∀ xs M Q,a xs M Q->xs.length=ps.length)
  (hbody:∀ (f:ay) (cdv:aj) (A:bg) (outer:List Env) (s:az) (H:Hp) (E:XK),qu k (A.deeper (e8 x (zg st) s.heap.objs.size f cdv)) ->
   ∃ t,PSs (jS CX0 P w K mg base N x (zg st) f cdv A outer s H E).nox (zQ st) t/\∃ b,Zo t b/\∀ xs M Q,a xs M Q->b M { nx:=fun _ _=>False,rt:=Q } (zM N xs) M):Df P w K mg base x ps (k+1) (EK a):=by
 refine wj at_ S hb (fun vs H Q E h=>?_) (fun f cdv A outer s H vs Q E hr h=>?_)
 ·obtain ⟨xs,M,O,Q',w,r,q,_⟩:=h
  rw [r.1];exact len xs M Q' q
 ·obtain ⟨t,ht,b,hb,hq⟩:=hbody f cdv A outer s H E hr
  refine ⟨t,ht,?_⟩
  obtain ⟨xs,M,O,Q',w,r,q,kk⟩:=h
  exact hb.go w w (xy r N) .refl (hq xs M Q' q) kk
end L2
namespace L2
open PySem PyProof.Rows
noncomputable def kn (p:cq):Int:=numOf p.1
def LEr (rk:cq->Int)(p q:cq):Prop:=kn p<kn q \/ (kn p=kn q/\rk p<=rk q)
section
variable {rk:cq->Int}{p q r:cq}
end
def IsI (p:cq):Prop:=∃ n t,p.1=aj.int n t
section
variable {prog:aX}{w:bu}{A:bg}{E:aj->az->Prop}{s:az}
end
noncomputable def byd (left:Bool)(key x:cq):Bool:=if left then decide (kn x<kn key) else !decide (kn key<kn x)
structure Cut (left:Bool)(key:cq)(f:Nat->cq)(n k:Nat):Prop where
 le:k<=n
 lo:∀ i,i<k->byd left key (f i)=true
 hi:∀ i,k<=i->i<n->byd left key (f i)=false
section
variable {prog:aX}{w:bu}{A:bg}{E:aj->az->Prop}{s:az}
end
end L2
namespace L2
open PySem PyProof.Rows
section
variable {rk:cq->Int}
structure MLo (rk:cq->Int)(X Y:List cq)(a b:Nat)(o:List cq):Prop where
 la:a<=X.length
 lb:b<=Y.length
 perm:o.Perm (X.take a ++ Y.take b)
 pw:o.Pairwise (LEr rk)
 lx:∀ x ∈ o,∀ y ∈ X.drop a,LEr rk x y
 ly:∀ x ∈ o,∀ y ∈ Y.drop b,LEr rk x y
structure Nm (rk:cq->Int)(X Y:List cq):Prop where
 px:X.Pairwise (LEr rk)
 py:Y.Pairwise (LEr rk)
 bel:∀ x ∈ X,∀ y ∈ Y,rk x<=rk y
 ix:∀ x ∈ X,IsI x
 iy:∀ y ∈ Y,IsI y
variable {X Y o:List cq}{a b:Nat}
end
section
variable {prog:aX}{w:bu}{A:bg}{E:aj->az->Prop}{s:az}{rk:cq->Int}
end
end L2
namespace L2
open PySem PyProof.Rows
section
variable {prog:aX}{w:bu}{A:bg}{E:aj->az->Prop}{s:az}{rk:cq->Int}
end
end L2
namespace L2
open PySem PyProof.Rows
section
variable {rk:cq->Int}{X Y o:List cq}{a b:Nat}
structure MHi (rk:cq->Int)(X Y:List cq)(a b:Nat)(o:List cq):Prop where
 la:a<=X.length
 lb:b<=Y.length
 perm:o.Perm (X.drop a ++ Y.drop b)
 pw:o.Pairwise fun p q=>LEr rk q p
 lx:∀ x ∈ o,∀ y ∈ X.take a,LEr rk y x
 ly:∀ x ∈ o,∀ y ∈ Y.take b,LEr rk y x
end
section
variable {prog:aX}{w:bu}{A:bg}{E:aj->az->Prop}{s:az}{rk:cq->Int}
end
end L2
namespace L2
open PySem PyProof.Rows
noncomputable def gK (xs:Array cq)(i:Nat):cq:=xs[i]?.getD (.none,.none)
structure Sg (xs ys:Array cq)(lo hi:Nat):Prop where
 perm:ys.Perm xs
 out:∀ i,i<lo \/ hi<=i->ys[i]?=xs[i]?
 inn:∀ i,lo<=i->i<hi->∃ j,lo<=j/\j<hi/\ys[i]?=xs[j]?
structure SoB (a₀:Array cq)(st:SortSt):Prop where
 perm:(arrOf st).Perm a₀
 kind:kindOf st=oneType'
 failed:failedOf st=none
section
variable {prog:aX}{w:bu}{A:bg}{E:aj->az->Prop}{s:az}{a₀:Array cq}{rk:cq->Int}
end
end L2
namespace L2
open PySem PyProof.Rows
section
variable {prog:aX}{w:bu}{A:bg}{E:aj->az->Prop}{s:az}{a₀:Array cq}{rk:cq->Int}
def Fal (rk:cq->Int)(xs:Array cq)(lo hi:Nat):Prop:=∀ i j,lo<=i->i<=j->j<hi->LEr rk (gK xs j) (gK xs i)
structure Dsc (rk:cq->Int)(xs:Array cq)(lo T hi:Nat):Prop where
 l:lo<=T
 t:T<hi
 a:Fal rk xs lo T
 b:∀ i,lo<=i->i<T->kn (gK xs (hi - 1))<kn (gK xs i)
 c:∀ i j,T<=i->i<=j->j<hi->kn (gK xs i)=kn (gK xs (hi - 1))/\rk (gK xs i)<=rk (gK xs j)
end
end L2
namespace L2
open PySem PyProof.Rows
section
variable {prog:aX}{w:bu}{A:bg}{E:aj->az->Prop}{s:az}{rk:cq->Int}
end
end L2
namespace L2
open PySem PyProof.Rows
noncomputable def Pnd:Nat->List (Nat × Nat × Nat)->List (List cq)->Prop
 | _,[],[]=>True
 | o,p :: ps,r :: rs=>p.1=o/\p.2.1=r.length/\Pnd (o+r.length) ps rs
 | _,_,_=>False
section
variable {prog:aX}{w:bu}{A:bg}{E:aj->az->Prop}{s:az}{a₀:Array cq}{rk:cq->Int}
structure Rns (rk:cq->Int)(a₀:Array cq)(rs:List (List cq))(qR:List cq)(st:SortSt):Prop where
 b:SoB a₀ st
 e:(arrOf st).toList=rs.flatten ++ qR
 ne:∀ r ∈ rs,0<r.length
 so:∀ r ∈ rs,r.Pairwise (LEr rk)
 bel:rs.Pairwise fun X Y=>∀ x ∈ X,∀ y ∈ Y,rk x<=rk y
 be:∀ x ∈ rs.flatten,∀ y ∈ qR,rk x<=rk y
 pn:Pnd 0 (pendingOf st).toList rs
end
end L2
namespace L2
open PySem PyProof.Rows
section
variable {prog:aX}{w:bu}{A:bg}{E:aj->az->Prop}{s:az}{a₀:Array cq}{rk:cq->Int}
end
end L2
namespace L2
open PySem PyProof.Rows
section
variable {prog:aX}{w:bu}{A:bg}{E:aj->az->Prop}{s:az}{a₀:Array cq}{rk:cq->Int}
end
end L2
namespace L2
open PySem PyProof.Rows
section
variable {prog:aX}{w:bu}{A:bg}{E:aj->az->Prop}{s:az}
end
section
variable {prog:aX}{w:bu}{A:bg}{E:aj->az->Prop}{s:az}
end
section
variable {X:Cx}
end
section
variable {X:Cx}
variable {o e:Expr}{es:List Expr}{to:TE}{t:TA}{name:Str}{apos cpos:Pos}{T1 id1 T2 id2:String}{r1 r2:V->List V->Hp->VK->Prop}{K:aA}
end
section
variable {prog:aX}{w:bu}{A:bg}{R:mT->az->Prop}{s:az}
end
section
variable {C:Cx}{kx vx tg iter:Expr}{ifs:List Expr}{gens:List gz}{scope:Scope}{pos:Pos}{d:Nat}{D:ay}{g:TG}{tt:TT}{te:TE}{tr:TR}
end
section
variable {X:Cx}{ts:List Nat}{scope:Scope}{tg iter kx vx:Expr}{ifs:List Expr}{qR:List gz}{wi:TI}{g:TG}{tt:TT}{tr:ay->TR}{pos:Pos}
end
section
variable {P:aX}{w:bu}{A:bg}{E:aj->az->Prop}{s:az}{n l1 l2 l3:Nat}{k:Nat}{xs ys zs:Array aj}{x y u a b c:aj}{Q:Option aj->az->Prop}
end
section
variable {X:Cx}{es:List Expr}{kt:Nat}{tp:Pos}
end
section
variable {X:Cx}{o i:Expr}{pos:Pos}{td ty:TE}
end
section
variable {X:Cx}{es:List Expr}{kt:Nat}{tp gp:Pos}{body:List cg}{pos:Pos}{tb:TS}{g:Str}{a:ay}{is:List Nat}
end
noncomputable def VO (v:V):Option AV->Prop
 | none=>True
 | some (.d (.int i))=>v=.int i
 | some _=>False
inductive VOs:List V->List (Option AV)->Prop
 | nil:VOs [] []
 | cons {v:V} {x:Option AV} {vs:List V} {xs:List (Option AV)}:VO v x->VOs vs xs->VOs (v :: vs) (x :: xs)
inductive Dw (b:List V->TS):List (List V)->List (List (Option AV) × AS)->Prop
 | nil:Dw b [] []
 | cons {vs:List V} {vss:List (List V)} {xs:List (Option AV)} {ab:AS} {r:List (List (Option AV) × AS)}:VOs vs xs->jq (b vs) ab->Dw b vss r->Dw b (vs :: vss) ((xs,ab) :: r)
abbrev ATD:=ASt->MH->(ASt->MH->Prop)->Prop
structure Nk (tr:TR)(a:ATD):Prop where
 go:∀ {σ:St} {H:Hp} {O:Own} {ρ:ASt} {M:MH} {N:St->Hp->Prop} {N':ASt->MH->Prop},Wf H O M->Er H O M σ ρ->a ρ M N'->(∀ σ' H' O' ρ' M',N' ρ' M'->Ext H O M H' O' M'->Wf H' O' M'->Er H' O' M' σ' ρ'->N σ' H')->tr σ H N
section
variable {X:Cx}{ts:List Nat}{scope:Scope}{tg iter kx vx:Expr}{ifs:List Expr}{qR:List gz}{wi:TI}{g:TG}{tt:TT}{tr:ay->TR}{pos:Pos}
end
section
variable {X:Cx}{es:List Expr}{kt:Nat}{tp gp:Pos}{elt:Expr}{scope:Scope}{pos:Pos}{te:TE}{g:Str}{a:ay}{is ts:List Nat}
end
inductive IX:List (List V)->List (List (Option AV))->Prop
 | nil:IX [] []
 | cons {vs:List V} {xs:List (Option AV)} {vss:List (List V)} {xss:List (List (Option AV))}:VOs vs xs->IX vss xss->IX (vs :: vss) (xs :: xss)
section
variable {X:Cx}{e hi st:Expr}{te:TE}{th ts:TO}{p2 pos:Pos}{K:aA}
end
noncomputable def X7 (a:AE)(hi st:AO):AE:=fun ρ M Q=>a ρ M fun x M1=>hi ρ M1 fun u M2=>u=some 0/\st ρ M2 fun z M3=>z=some (-1)/\∃ l,x=.d (.tup l)/\0<l.length/\Q (.d (.tup (l.drop 1).reverse)) M3
section
variable {prog:aX}{w:bu}{K:Type}[DecidableEq K]{knd:KeyKind prog w K}{A:bg}{E:aj->az->Prop}{s:az}{a b:ay}
end
noncomputable def jU (kvs:List (Key × AV))(k:Key):Option AV:=(kvs.find? fun kv=>decide (kv.1=k)).map (·.2)
theorem QP {H:Hp}{O:Own}{M:MH}(k:Key):∀ {xs:List (Key × V)} {kvs:List (Key × AV)} {v:AV},xs.map (·.1)=kvs.map (·.1)->zk H O M (xs.map (·.2)) (kvs.map (·.2))->jU kvs k=some v->∃ u,xw xs k=some u/\zt H O M u v
 | [],[],v,_,_,h=>by cases h
 | [],_ :: _,v,e,_,h=>by cases e
 | _ :: _,[],v,e,_,h=>by cases e
 | (a,x) :: xs,(b,y) :: kvs,v,e,r,h=>by
  obtain ⟨e1,e2⟩:=iD e
  have e1:a=b:=e1
  subst e1
  obtain ⟨r1,r2⟩:=zk.head r
  by_cases c:a=k
  ·have:jU ((a,y) :: kvs) k=some y:=by unfold jU;rw [bS,show decide (a=k)=true from decide_eq_true c];rfl
   rw [this] at h;cases h
   exact ⟨x,wv c,r1⟩
  ·have:jU ((a,y) :: kvs) k=jU kvs k:=by unfold jU;rw [bS,show decide (a=k)=false from decide_eq_false c]
   rw [this] at h
   obtain ⟨u,hu,ru⟩:=QP k (xs:=xs) e2 r2 h
   exact ⟨u,by rw [yI c];exact hu,ru⟩
theorem Vk {H:Hp}{O:Own}{M:MH}{p:ay}{l l':List (Key × AV)}{xs':List (Key × V)}(w:Wf H O M)(hm:M p=some (.dK l))(r:kh H O M xs' l'):Ext H O M (upd H p (.dK xs')) O (mup M p (.dK l'))/\Wf (upd H p (.dK xs')) O (mup M p (.dK l')):=
 have np:=zU hm
 ⟨ki w np _ _,Z6 w np (fun _ z=>nomatch z) ⟨_,zl,r.ext (ki w np _ _)⟩⟩
noncomputable def Qz:List (AE × AE)->ASt->MH->(List (AV × AV)->MH->Prop)->Prop
 | [],_,M,Q=>Q [] M
 | (ak,av) :: r,ρ,M,Q=>ak ρ M fun x M1=>av ρ M1 fun y M2=>Qz r ρ M2 fun ps M3=>Q ((x,y) :: ps) M3
inductive wK:List (TE × TE)->List (AE × AE)->Prop
 | nil:wK [] []
 | cons {tk tv:TE} {ak av:AE} {ts:List (TE × TE)} {as:List (AE × AE)}:zK tk ak->zK tv av->wK ts as->wK ((tk,tv) :: ts) ((ak,av) :: as)
def Mc (H:Hp)(O:Own)(M:MH)(vs:List (V × V))(xs:List (AV × AV)):Prop:=zk H O M (vs.map (·.1)) (xs.map (·.1))/\zk H O M (vs.map (·.2)) (xs.map (·.2))
theorem Vt {ts:List (TE × TE)}{as:List (AE × AE)}(h:wK ts as):∀ {σ:St} {H:Hp} {O:Own} {ρ:ASt} {M:MH} {Q:List (V × V)->Hp->Prop} {Q':List (AV × AV)->MH->Prop},Wf H O M->Er H O M σ ρ->Qz as ρ M Q' ->
  (∀ xs M' vs H' O',Q' xs M'->Ext H O M H' O' M'->Wf H' O' M'->Mc H' O' M' vs xs->Q vs H')->wo ts σ H Q:=by
 induction h with
 | nil=>intro σ H O ρ M Q Q' w e q k;exact k [] M [] H O q .refl w ⟨.nil,.nil⟩
 | cons h1 h2 h3 ih=>
  intro σ H O ρ M Q Q' w e q k
  exact h1.go w e q fun x M1 v H1 O1 q1 k1 w1 r1=>h2.go w1 (e.ext k1) q1 fun y M2 u H2 O2 q2 k2 w2 r2=>ih w2 ((e.ext k1).ext k2) q2 fun xs M3 vs H3 O3 q3 k3 w3 r3=>
   k _ _ _ _ _ q3 ((k1.trans k2).trans k3) w3 ⟨.cons ((r1.ext k2).ext k3) r3.1,.cons (r2.ext k3) r3.2⟩
noncomputable def Wc (as:List (AE × AE)):AE:=fun ρ M Q=>∀ D,M D=none->Qz as ρ (mup M D (.dK [])) fun ps M2=>∃ kvs:List (Str × AV),ps=kvs.map (fun kv=>(AV.d (.str kv.1),kv.2))/\kvs.length<=15/\(kvs.map (·.1)).Nodup/\M2 D=some (.dK [])/\Q (.ref D) (mup M2 D (.dK (kvs.map fun kv=>(bG kv.1,kv.2))))
theorem Zf:∀ (more acc:List (Key × V)),(more.map (·.1)).Nodup->(∀ k ∈ more.map (·.1),k ∉ acc.map (·.1))->ya acc more=acc ++ more
 | [],acc,_,_=>(bW _).symm
 | kv :: r,acc,hn,ha=>by
  have hn':=cr.mp hn
  have e:wX acc kv.1 kv.2=acc ++ [kv]:=by
   unfold wX
   rw [if_neg]
   intro z
   obtain ⟨q,h1,h2⟩:=List.any_eq_true.mp z
   exact ha kv.1 bD (bE.mpr ⟨q,h1,of_decide_eq_true h2⟩)
  show ya (wX acc kv.1 kv.2) r=_
  rw [e,Zf r _ hn'.2 fun k hk z=>?_,mF];rfl
  rw [bO] at z
  rcases dM.mp z with z | z
  ·exact ha k (bj _ hk) z
  ·have:k=kv.1:=by simpa using z
   exact hn'.1 (by subst this;exact hk)
theorem QX {H:Hp}{O:Own}{M:MH}:∀ {vs:List (V × V)} {kvs:List (Str × AV)},zk H O M (vs.map (·.1)) ((kvs.map fun kv=>(AV.d (.str kv.1),kv.2)).map (·.1))->vs.length=kvs.length->∃ xs:List (Key × V),vs=xs.map (fun kv=>(kV kv.1,kv.2))/\xs.map (·.1)=kvs.map (fun kv=>(bG kv.1:Key))
 | [],[],_,_=>⟨[],rfl,rfl⟩
 | [],_ :: _,_,e=>by cases e
 | _ :: _,[],_,e=>by cases e
 | (a,b) :: vs,(x,y) :: kvs,r,e=>by
  obtain ⟨r1,r2⟩:=zk.head r
  obtain ⟨xs,h1,h2⟩:=QX (vs:=vs) (kvs:=kvs) r2 (Nat.succ.inj e)
  have:a=V.str x:=vP r1
  subst this
  exact ⟨(bG x,b) :: xs,by rw [h1];rfl,by rw [bQ,h2];rfl⟩
theorem VF {ts:List (TE × TE)}{as:List (AE × AE)}(h:wK ts as):zK (Af ts) (Wc as):=⟨fun {σ H O ρ M Q Q'} w e q k p hp=>by
 have kx:=vX w hp (.dK []) (.dK [])
 have wx:Wf (upd H p (.dK [])) (yf O p) (mup M p (.dK [])):=Kw w hp (fun _ z=>nomatch z) ⟨[],zl,rfl,.nil⟩
 refine Vt h wx (e.ext kx) (q p (w.fresh hp).2) fun ps M2 vs H2 O2 q2 k2 w2 r2=>?_
 obtain ⟨kvs,rfl,hl,hn,hm,q3⟩:=q2
 have hlen:vs.length=kvs.length:=by
  have:=r2.2.1
  simpa using this
 obtain ⟨xs,rfl,hk⟩:=QX r2.1 hlen
 obtain ⟨ys,hy,kr⟩:=w2.mo p _ hm
 have h0:ys=[]:=by
  have:=congrArg nk kr.1
  exact List.eq_nil_of_length_eq_zero (by simpa using this)
 subst h0
 have hnd:(xs.map (·.1)).Nodup:=by
  rw [hk,show kvs.map (fun kv=>(bG kv.1:Key))=(kvs.map (·.1)).map bG by rw [aZ];rfl]
  exact lQ.map bG (fun a b h z=>h (bG.inj z)) hn
 have rr:kh H2 O2 M2 xs (kvs.map fun kv=>((bG kv.1:Key),kv.2)):=by
  refine ⟨by rw [hk,aZ];rfl,?_⟩
  have:=r2.2
  rw [aZ,aZ] at this
  rw [aZ]
  exact this
 obtain ⟨k4,w4⟩:=Vk w2 hm rr
 refine ⟨hy,xs,rfl,by rw [<- aw (f:=fun kv:Key × V=>(kV kv.1,kv.2)),hlen];exact hl,?_⟩
 rw [Zf xs [] hnd fun _ _ z=>by cases z]
 refine k _ _ _ _ _ q3 ((kx.trans k2).trans k4) w4 ⟨rfl,?_⟩
 rw [zf];exact fun z=>nomatch z⟩
inductive Q5 (M:MH):AV->Dat->Prop
 | d {x:Dat}:Q5 M (.d x) x
 | lst {p:ay} {l:List AV} {ds:List Dat}:M p=some (.lst l)->l.length=ds.length->(∀ (i:Nat) a b,l[i]?=some a->ds[i]?=some b->Q5 M a b)->Q5 M (.ref p) (.lst ds)
 | tp {l:List (Dat ⊕ ay)} {ds:List Dat}:l.length=ds.length->(∀ (i:Nat) a b,l[i]?=some a->ds[i]?=some b->Q5 M (tiA a) b)->Q5 M (.tp l) (.tup ds)
theorem Ks {C:ay}{m:Str}{sp:xo}{te:TE}{ta:TA}{ae:AE}{aa:AA}(ho:zK te ae)(hu:jo ta aa):zK (yR C m (jk sp) (fun _=>E0) te ta) (yS C m sp (fun _ _ _ _=>False) ae aa):=
 ⟨fun {σ H O ρ M Q Q'} w e q k=>yi (HX:=H) (OX:=O) (MX:=M) ⟨fun _ _ _ _ _ _ _ _ z=>z.elim⟩ ho hu .refl w e q k⟩
open AutoSeq1 (wpAny_loadPart')
section
variable {prog:aX}{w:bu}{A:bg}{E:aj->az->Prop}{s:az}
end
section
variable {X:Cx}
end
section
variable {X:Cx}
end
theorem Je (k:Key):∀ {xs:List (Key × V)} {kvs:List (Key × AV)},xs.map (·.1)=kvs.map (·.1)->jU kvs k=none->xw xs k=none
 | [],_,_,_=>rfl
 | _ :: _,[],e,_=>by cases e
 | (a,x) :: xs,(b,y) :: kvs,e,h=>by
  obtain ⟨e1,e2⟩:=iD e
  have e1:a=b:=e1
  subst e1
  by_cases c:a=k
  ·have:jU ((a,y) :: kvs) k=some y:=by unfold jU;rw [bS,show decide (a=k)=true from decide_eq_true c];rfl
   rw [this] at h;cases h
  ·have:jU ((a,y) :: kvs) k=jU kvs k:=by unfold jU;rw [bS,show decide (a=k)=false from decide_eq_false c]
   rw [this] at h
   rw [yI c]
   exact Je k (xs:=xs) e2 h
noncomputable def Ai (ad ak ax:AE):AE:=fun ρ M Q=>ad ρ M fun x M1=>∃ (p:ay) (kvs:List (Key × AV)),x=.ref p/\M1 p=some (.dK kvs)/\ak ρ M1 fun y M2=>ax ρ M2 fun z M3=>∃ s:Str,M3 p=some (.dK kvs)/\y=.d (.str s)/\Q ((jU kvs (.inr s)).getD z) M3
theorem Vn {td ty tx:TE}{ad ak ax:AE}(h1:zK td ad)(h2:zK ty ak)(h3:zK tx ax):zK (D5 td ty tx) (Ai ad ak ax):=
 ⟨fun w e q k=>h1.go w e q fun x M1 v H1 O1 q1 k1 w1 r1=>by
  obtain ⟨p,kvs,rfl,hm,q1⟩:=q1
  obtain ⟨xs,hx,kr⟩:=w1.mo p _ hm
  refine ⟨p,r1.1,.inl ⟨xs,.inl hx⟩,h2.go w1 (e.ext k1) q1 fun y M2 u H2 O2 q2 k2 w2 r2=>h3.go w2 ((e.ext k1).ext k2) q2 fun z M3 g H3 O3 q3 k3 w3 r3=>?_⟩
  obtain ⟨s,hm3,rfl,q⟩:=q3
  cases (show u=V.str s from vP r2)
  obtain ⟨xs3,hx3,kr3⟩:=w3.mo p _ hm3
  have g1:=Bf.k (k:=bG s) hx3
  cases hl:jU kvs (.inr s) with
  | none=>
   rw [hl] at q
   rw [Je (.inr s) kr3.1 hl] at g1
   exact ⟨none,g1,k _ _ _ _ _ q ((k1.trans k2).trans k3) w3 r3⟩
  | some d=>
   rw [hl] at q
   obtain ⟨u2,hu,ru⟩:=QP (.inr s) kr3.1 kr3.2 hl
   rw [hu] at g1
   exact ⟨some u2,g1,k _ _ _ _ _ q ((k1.trans k2).trans k3) w3 ru⟩⟩
end L2
namespace Ot
open PySem PySem.Spec PyProof.Rows L2
noncomputable def top (i:Nat):cg:=PySem.Challenge.pw_ownturn_k76_whole_two_reasons_at_once.main.body.getD i (.Pass ⟨0,0,0,0⟩)
section
variable {P:aX}{w:bu}{K:aA}{mg:Str->Option aj}{base:Heap}{k:Nat}
local macro_rules | `(tactic| walk_at "rd")=>do
 let t:=("Wp VD Ey Dn tOp tUn rU wZ tC tB Gf MT Yt rI0 rI Qn JI EE XI BJ Y6 DF Ij Hh tCB Ji Vu GG Jn GM KG EM Fw rEq Im WQ tBM vJ X6 YY KO Xb Zu XZ Iz EQ Dq Aj ipI Kn Af wo YN Vc tIf tOr Lh HD Wo W9 Hf D3 Z3 V9 cxK Wu iLT GY Qg tSl B6 Z9 Lp List.append_nil List.getElem?_cons_zero List.getElem?_cons_succ Option.some.injEq exists_eq_left' exists_eq_left V.int.injEq V.ref.injEq V.bl.injEq List.cons.injEq and_true true_and and_assoc decide_eq_true_eq Bool.not_eq_true' decide_eq_false_iff_not Bool.false_eq_true if_false if_true reduceIte exists_and_left exists_and_right List.set_cons_zero List.set_cons_succ List.nil_append List.cons_append".splitOn " ").toArray.map fun s=>(gR s.toName:Lean.Ident)
 `(tactic| try simp only [$[$t:ident],*])
variable {H:Hp} {a b:ay}
theorem xE {o:HO}(h':H b=none)(h:H a=some o):a ≠ b:=zp h h'
variable {H':Hp}
theorem JW {l:ay}(h:H' l=none)(e:Kp [] H H'):H l=none:=e.free h
theorem KS {xs:List V}(h:SqL K H a xs)(e:Kp [] H H'):SqL K H' a xs:=by
 rcases h with (h | ⟨o,h⟩) | h
 ·exact .inl (.inl (e _ _ (by simp) h))
 ·exact .inl (.inr ⟨o,e _ _ (by simp) h⟩)
 ·exact .inr h
theorem hsl:100000<aQ:=by rw [cH];decide
theorem BO {α:Type}(k:Nat)(v:α):(aH k [v]).flatten=aH k v:=by simp
variable {j:Int}
theorem kZ (i:Int) (h:0<j):0<=i % j/\i % j<j:=⟨Int.emod_nonneg _ (by omega),Int.emod_lt_of_pos _ h⟩
variable {i:Int}
theorem LJ (h1:0<=i)(h2:i<18446744073709551616):Aq i j:=.inl ⟨by omega,by omega⟩
theorem BB (h1:0<=j)(h2:j<18446744073709551616):Aq i j:=.inr ⟨by omega,by omega⟩
theorem b01 (c:Prop)[Decidable c]:0<=(if c then (1:Int) else 0):=by split <;> decide
theorem EW (h1:0<j)(h2:j<1073741824):Hc i j:=⟨h1,h2⟩
local macro_rules | `(tactic| walk_at "ne")=>`(tactic| first | (with_reducible assumption) | exact Ne.symm (by with_reducible assumption) | exact xE (by with_reducible assumption) (by walk_at "hp") | exact Ne.symm (xE (by with_reducible assumption) (by walk_at "hp")))
local macro_rules | `(tactic| walk_at "hp")=>`(tactic| first | (with_reducible assumption) | (with_reducible exact zl) | ((with_reducible refine Eq.trans (zj ?ne) ?_);(case ne=>walk_at "ne");walk_at "hp"))
local macro_rules | `(tactic| walk_at "kp")=>`(tactic| first | (with_reducible assumption) | (with_reducible exact Kp.refl) | ((with_reducible refine Kp.trans ?_ (Kp.new _ ?h));(case h=>with_reducible assumption);walk_at "kp") | ((with_reducible refine Kp.trans ?_ (Kp.set _ ?h));(case h=>(simp;done));walk_at "kp"))
local macro_rules | `(tactic| walk_at "fr")=>`(tactic| first | (with_reducible assumption) | exact JW (by with_reducible assumption) (by walk_at "kp"))
local macro_rules | `(tactic| walk_at "sz")=>`(tactic| (simp only [ba,fK,aw,bA,bU,bI,cw,qW,BO,Nat.zero_add,Nat.one_mul];omega))
local macro_rules | `(tactic| walk_at "fact")=>`(tactic| first | (with_reducible assumption) | exact rfl | exact SqL.of (by walk_at "hp") | exact SqT.of (by walk_at "hp") | exact aV (SqL.of (by walk_at "hp")) | exact aW (SqT.of (by walk_at "hp")) | exact aV (by with_reducible assumption) | exact KS (by with_reducible assumption) (by walk_at "kp") | exact aV (KS (by with_reducible assumption) (by walk_at "kp")) | exact Exists.intro _ (SqL.of (by walk_at "hp")) | exact Exists.intro _ (KS (by with_reducible assumption) (by walk_at "kp")) | (walk_at "hp") | decide | omega | exact LJ (by omega) (by omega) | exact BB (by omega) (by omega) | exact EW (by omega) (by omega) | exact ⟨by omega,by omega⟩ | (walk_at "sz") | exact ⟨by decide,by decide,by decide⟩ | exact BB (b01 _) (b01' _) | (walk_at "fr"))
local macro_rules | `(tactic| walk_at "x1")=>`(tactic| first
 | ((with_reducible refine Exists.intro ?w (And.intro ?h ?_));(case h=>walk_at "fact"))
 | ((with_reducible refine And.intro ?h ?_);(case h=>walk_at "fact"))
 | ((with_reducible refine Exists.intro ?w (Exists.intro ?w2 (And.intro ?h ?_)));(case h=>walk_at "fact")))
local macro_rules | `(tactic| walk_at "xs")=>`(tactic| repeat walk_at "x1")
local macro_rules | `(tactic| walk_at "sim1")=>do
 let a←("VN VT".splitOn " ").toArray.mapM fun s=>`(eO| apply $(gR s.toName))
 let b←("WY DT BG AW JL Kg Y2 Y0 Wt EX WB BM Bd A9 Ew YK Gb".splitOn " ").toArray.mapM fun s=>`(eO| apply $(gR s.toName))
 let c←("Di Ef HV Lk IQ Ie Hy F1 B9 VL A6 FT WL D8 EF DY Ao FY FG Dh IS HE ER Ay Fx II Y8 Gg BW F4 WG Kb YO Vb KJ JS QI ZE Zm sim_setD sim_dupd Ks VF wK.cons wK.nil Dp WF FC FH Ea Fe Wa Gc E5 Wz DP D4 Vd An Dr L6 E9 Iv F8 IU EU Iw EJ A5 Fa Lv Y4 Dl BQ Ar Fp Ip Vn Lr Jj Dy Qt FO Qj Vf EC Bi Ba Bw Lx Y3 YV Hs yC".splitOn " ").toArray.mapM fun s=>`(eO| apply $(gR s.toName))
 `(tactic| first | (with_reducible first $[| $a]*) | ((with_reducible apply Vi YK);intro HX_ OX_ MX_ E_ EA_ hE_) | (with_reducible first $[| $b]*) | ((with_reducible apply F3);intro HX_ OX_ MX_ E_ EA_ hE_) | ((with_reducible apply sim_try0);intro HX_ OX_ MX_ E_ EA_ hE_) | (with_reducible assumption) | (with_reducible first $[| $c]*))
local macro_rules | `(tactic| walk_at "sim")=>`(tactic| repeat' walk_at "sim1")
local macro_rules | `(tactic| walk_at "ra")=>do
 let t:=("Ai Wc Qz Yk GI XX GQ Gn GB Ml Ds Gz yS Xv G1 GP Gw jT K6 Mm Gx LS qS aC aOp aUn xW qQ aCB Yl aFz aOw HI Ft aB Zw FQ aOr VB GK GE aIf A3 kP yj WJ D7 vE xA AZ wJ DL As asL Vg Mw GX GC Fy aiS Mf aiE Ms yz BS aI0 aU Y7 aIx fOp Hz IN Mg Gu fSl Mj X7 Ze aIn YU bI2 WH fCB Al Kc GO Iy MK Gv B7 aBM X5 AX DO Gh IB AL IR HZ Hu L4 MG LU MQ Mv Me Bs V4 Option.map_some LB IZ Hm HK Ha Ly La Ld Br HP Bh Hw Lf V8 G3 BH IG G7 Wd Ii WO HA IK W0 ID B4 Ic G4 WD Ia Dv Hi Ib WT Le Wj FE VW zT qV Eo XU GL G8 IE LQ FA F9 FF FR EI F6 Ez kX L8 zZ Ih Lc y6 qo Li Aw LC LF LK Il HS id decide_true decide_false Bool.decide_eq_true not_true_eq_false not_false_eq_true xQ List.getElem?_cons_zero List.getElem?_cons_succ Option.some.injEq exists_eq_left' exists_eq_left AV.d.injEq AV.ref.injEq Dat.int.injEq Dat.bl.injEq Dat.str.injEq Dat.lst.injEq Dat.tup.injEq Dat.ty.injEq List.cons.injEq and_true true_and and_assoc decide_eq_true_eq Bool.not_eq_true' decide_eq_false_iff_not Bool.false_eq_true if_false if_true reduceIte exists_and_left exists_and_right List.set_cons_zero List.set_cons_succ List.nil_append List.cons_append List.length_map List.map_cons List.map_nil Nat.zero_le Bool.not_true Bool.not_false Bool.true_eq_false eq_self List.length_cons List.length_nil".splitOn " ").toArray.map fun s=>(gR s.toName:Lean.Ident)
 `(tactic| try simp only [$[$t:ident],*])
local macro_rules | `(tactic| walk_at "sk")=>`(tactic| (refine zd fun r9 hr9=>?_;walk_at "ra";refine ⟨_,rfl,_,rfl,by rw [zZ];omega,?_⟩;rw [qo,if_neg (by decide +kernel)];subst hr9))
theorem Q0 (ns:List Int)(lo hi:Option Int):Zc (ns.map V.int) lo hi=cC V.int ((ns.drop (HT.sIx ns.length 0 lo)).take (HT.sIx ns.length ns.length hi - HT.sIx ns.length 0 lo)):=by
 unfold Zc
 rw [aw,<- List.map_drop,<- List.map_take]
theorem Qy (cs:List Int)(j:Nat)(v:Int):(cs.map V.int).set j (.int v)=(cs.set j v).map V.int:=by rw [gi]
variable {cs:List Int}
theorem vp {k:Int}(h0:0<=k)(h1:k<cs.length):ixN (cs.map V.int).length k=some k.toNat/\atI (cs.map V.int) k=some (.int (cs.getD k.toNat 0)):=by
 have hk:k.toNat<cs.length:=by omega
 have e1:ixN (cs.map V.int).length k=some k.toNat:=by unfold ixN;rw [aw,if_pos h0,if_pos h1]
 refine ⟨e1,?_⟩
 unfold atI
 rw [e1]
 show (cs.map V.int)[k.toNat]?=_
 rw [aK,aD,au hk];rfl
theorem Qa {ns:List Int}{i:Nat}{x:V}(h:(ns.map V.int)[i]?=some x):x=.int (ns.getD i 0)/\i<ns.length:=by
 rw [aK] at h
 cases e:ns[i]? with
 | none=>rw [e] at h;cases h
 | some v=>
  rw [e] at h
  cases h
  exact ⟨by rw [aD,e];rfl,(aG.mp e).1⟩
noncomputable abbrev Xe:cg:=top 22
theorem XF:zr ["_law_box_here","_law_many","_law_once","_law_found"] ["_law_box_here","_law_many"] (zg Xe):=⟨rfl,rfl,rfl,by decide +kernel,rfl,by decide +kernel,by decide +kernel⟩
noncomputable def KB:Sp:=fun vs H Q _=>∃ (b:ay) (many:Int) (N:Nat),vs=[.ref b,.int many]/\Bx H b N/\N<1000000000/\0<many/\many<1073741824/\∀ r H',Kp [b] H H'->Bx H' b (N+1)->0<=r->r<many->Q (.int r) H'
theorem Gd (a:At K mg "_law_take" Xe)(B:Blt mg):Df P w K mg base "_law_take" ["_law_box_here","_law_many"] 1 KB:=by
 refine wj (k:=0) a XF (fun _ _ _ _ _ _=>Pn2_ fun _ _=>rfl) (fun vs H Q E h=>?_) (fun f cdv A outer s H vs Q E hr h=>?_)
 ·obtain ⟨b,m,N,rfl,_⟩:=h;rfl
 obtain ⟨b,m,N,rfl,⟨x,y,z,hb,hx,hy,hy',hz,hz'⟩,hN,hm,hm',q⟩:=h
 have sc:=XF
 refine ⟨_,(zc (zN (zo Gr (zu qO (pv 0) zh (fun _ _=>rfl)) zh (zq _)) (zc (qk (zn Jo rfl B.divmod Vp (za (zu qO (pv 0) zh (fun _ _=>rfl)) (za (pv 1) zb))) (qj (K:=K) 2 rfl rfl (zy (qU (pv 0) zh zP) (zy (zx (i:=3) sc.nd rfl (by first | exact aV rfl | exact aW rfl)) qi))))
  (ze (zA (pv 3)))) zw)
  (zc (qk (zL jy (zu qO (pv 0) zh (fun _ _=>rfl)) zh) (qU (pv 0) zh zP))
  (zc (zE (i:=2) sc.nd rfl (by first | exact aV rfl | exact aW rfl) (zL kA (zL xD (zL jy (zu qO (pv 0) zh (fun _ _=>rfl)) (zL xD zh (zu qO (pv 0) zh (fun _ _=>rfl)))) (zL jy zh (zu qO (pv 0) zh (fun _ _=>rfl)))) zh))
  (zc (qk (zL kA (zL jy (zL xD (pv 2) (zL jy (zL kA (pv 2) zh) zh)) (zu qO (pv 0) zh (fun _ _=>rfl))) zh) (qU (pv 0) zh zP))
  (ze (zA (zL kA (zL Xp (zL kA (zL xD (zu qO (pv 0) zh (fun _ _=>rfl)) (zL jy (zL kA (zu qO (pv 0) zh (fun _ _=>rfl)) zh) zh)) zh) zh) (pv 1)))))))),?_⟩
 rw [show start ["_law_box_here","_law_many","_law_once","_law_found"] [V.ref b,V.int m]=[some (.ref b),some (.int m),none,none] from rfl]
 walk_at "rd"
 walk_at "xs"
 refine MU (fun c=>?_) (fun c=>?_)
 ·walk_at "xs"
  refine fun p hp=>?_
  walk_at "xs"
  refine q _ _ ((Kp.new _ hp).trans (Kp.set _ (by simp))) ⟨_,_,_,zl,Int.ediv_nonneg hx (by omega),hy,hy',hz,by omega⟩ (kZ x hm).1 (kZ x hm).2
 ·walk_at "xs"
  refine q _ _ ((Kp.set _ (by simp)).trans (Kp.set _ (by simp))) ⟨_,_,_,zl,hx,?_,?_,?_,?_⟩ (kZ _ hm).1 (kZ _ hm).2
  ·exact (kZ _ (by decide)).1
  ·exact Int.lt_trans (kZ _ (by decide)).2 (by decide)
  ·omega
  ·omega
noncomputable abbrev Wm:cg:=top 21
theorem Dc:zr ["_law_script","_law_k","_law_cell"] ["_law_script","_law_k"] (zg Wm):=⟨rfl,rfl,rfl,by decide +kernel,rfl,by decide +kernel,by decide +kernel⟩
noncomputable def GU:Sp:=fun vs H Q _=>∃ (a:ay) (k:Int) (cs:List Int),vs=[.ref a,.int k]/\H a=some (il cs)/\0<=k/\k<=1000/\cs.length<=1000/\∀ p H',Kp [] H H'->H p=none->Bx H' p 0->Q (.ref p) H'
theorem EB {k:Int}(h0:0<=k):∃ c:Int,atI (cs.map V.int ++ aH (k+1).toNat (V.int 0)) k=some (.int c):=by
 have e:cs.map V.int ++ aH (k+1).toNat (V.int 0)=(cs ++ aH (k+1).toNat 0).map V.int:=by simp
 have ek:k=((k.toNat:Nat):Int):=by omega
 have hk:k.toNat<(cs ++ aH (k+1).toNat (0:Int)).length:=by rw [bA,bU];omega
 refine ⟨(cs ++ aH (k+1).toNat 0)[k.toNat],?_⟩
 rw [e]
 have q:atI ((cs ++ aH (k+1).toNat (0:Int)).map V.int) ((k.toNat:Nat):Int)=some (.int (cs ++ aH (k+1).toNat 0)[k.toNat]):=Fz (by rw [aK,au hk] <;> rfl)
 rw [<- ek] at q
 exact q
theorem Hd (a:At K mg "_law_box" Wm)(B:Blt mg):Df P w K mg base "_law_box" ["_law_script","_law_k"] 1 GU:=by
 refine wj (k:=0) a Dc (fun _ _ _ _ _ _=>Pn2_ fun _ _=>rfl) (fun vs H Q E h=>?_) (fun f cdv A outer s H vs Q E hr h=>?_)
 ·obtain ⟨a,k,cs,rfl,_⟩:=h;rfl
 obtain ⟨a,k,cs,rfl,ha,hk,hk',hcs,q⟩:=h
 have sc:=Dc
 have hsl:=hsl
 refine ⟨_,(zc (zE (i:=2) sc.nd rfl (by first | exact aV rfl | exact aW rfl) (zu qO (zL kQ (pv 0) (zL yM (zR (za zh zb)) (zL jy (pv 1) zh))) (pv 1) (fun _ _=>rfl)))
  (ze (zA (zR (za (zL xD (zn QV rfl B.abs Aa (za (pv 2) zb)) (zH Zt rfl B.int wQ (za (kS Mh (zn QV rfl B.abs Aa (za (pv 2) zb)) (zL HB zh zh) (zq _)) zb))) (za (zL kA (zL xD (zL jy (zL jy (zL kA (pv 2) zh) (zL xD zh (pv 1))) zh) zh) zh) (za zh zb))))))),?_⟩
 rw [show start ["_law_script","_law_k","_law_cell"] [V.ref a,V.int k]=[some (.ref a),some (.int k),none] from rfl]
 walk_at "rd"
 walk_at "xs"
 intro p1 hp1
 walk_at "xs"
 intro p2 hp2
 walk_at "xs"
 intro p3 hp3
 simp only [BO] at hp3 ⊢
 obtain ⟨c,hc⟩:=EB (cs:=cs) hk
 walk_at "xs"
 intro p4 hp4
 refine q _ _ (by walk_at "kp") (by walk_at "fr") ⟨_,_,_,zl,?_,?_,?_,?_,?_⟩
 ·exact Int.mul_nonneg (by split <;> omega) (b01 _)
 ·exact (kZ _ (by decide)).1
 ·exact Int.lt_trans (kZ _ (by decide)).2 (by decide)
 ·decide
 ·decide
noncomputable abbrev wU:cg:=top 23
theorem ZQ:zr ["_law_script","_law_many","_law_cells","_law_k","_law_cell"] ["_law_script","_law_many"] (zg wU):=⟨rfl,rfl,rfl,by decide +kernel,rfl,by decide +kernel,by decide +kernel⟩
noncomputable def Q1 (K:aA):Sp:=fun vs H Q _=>∃ (a:ay) (m:Int) (ns:List Int),vs=[.ref a,.int m]/\SqL K H a (ns.map V.int)/\0<m/\m<=60/\ns.length<=63/\∀ p H' cs,Kp [] H H'->H p=none->H' p=some (il cs)->cs.length<=1000->Q (.ref p) H'
theorem Vj (a:At K mg "_law_folded" wU)(B:Blt mg):Df P w K mg base "_law_folded" ["_law_script","_law_many"] 1 (Q1 K):=by
 refine wj (k:=0) a ZQ (fun _ _ _ _ _ _=>Pn2_ fun _ _=>rfl) (fun vs H Q E h=>?_) (fun f cdv A outer s H vs Q E hr h=>?_)
 ·obtain ⟨a,k,cs,rfl,_⟩:=h;rfl
 obtain ⟨a,m,ns,rfl,ha,hm,hm',hns,q⟩:=h
 obtain ⟨M,rfl⟩:∃ M:Nat,m=M:=⟨m.toNat,by omega⟩
 have sc:=ZQ
 have hsl:=hsl
 refine ⟨_,(zc (zE (i:=2) sc.nd rfl (by first | exact aV rfl | exact aW rfl) (zH qZ rfl B.list qy (za (j9 yt (pv 0) xG (kj (pv 1))) zb)))
  (zc (jP cu rfl (Ge rfl B.enumerate (za (j9 yt (pv 0) (kj (pv 1)) (kj zh)) zb)) (qj (K:=K) 2 rfl rfl (zy (zx (i:=3) sc.nd rfl (by first | exact aV rfl | exact aW rfl)) (zy (zx (i:=4) sc.nd rfl (by first | exact aV rfl | exact aW rfl)) qi))) (ze (qk (zL jy (zu qO (pv 2) (zL kA (pv 3) (pv 1)) (fun _ _=>rfl)) (zL xD (pv 4) (zL jy (pv 3) zh))) (qU (pv 2) (zL kA (pv 3) (pv 1)) zP))))
  (ze (zA (pv 2))))),?_⟩
 rw [show start ["_law_script","_law_many","_law_cells","_law_k","_law_cell"] [V.ref a,V.int M]=[some (.ref a),some (.int M),none,none,none] from rfl]
 walk_at "rd"
 walk_at "xs"
 intro p1 hp1
 rw [Q0]
 walk_at "xs"
 intro p2 hp2
 walk_at "xs"
 intro p3 hp3
 rw [Q0]
 have e63:(63:Int)=((63:Nat):Int):=rfl
 simp only [HT.sIx_none,HT.sIx_nat,e63,List.drop_zero,Nat.sub_zero] at hp2 hp3 ⊢
 walk_at "xs"
 generalize hc0:ns.take (min M ns.length)=c0 at hp2 hp3 ⊢
 generalize hd0:(ns.drop (min M ns.length)).take (min 63 ns.length - min M ns.length)=d0 at hp2 hp3 ⊢
 have lc:c0.length=min M ns.length:=by rw [<- hc0,bI];omega
 have ld:d0.length<=ns.length - M:=by rw [<- hd0,bI,cw];omega
 have n23:p2 ≠ p3:=by walk_at "ne"
 refine Fu (xs:=d0.map V.int) (fun i τ H'=>∃ u v cs,τ=[some (.ref a),some (.int M),some (.ref p2),u,v]/\Kp [p2] (upd (upd (upd H p1 (HO.lst (cC V.int c0))) p2 (HO.lst (cC V.int c0))) p3 (HO.lst (cC V.int d0))) H'/\H' p2=some (il cs)/\cs.length=c0.length) ?_ ?_ ?_ ?_
 ·exact ⟨none,none,c0,rfl,Kp.refl,by walk_at "hp",rfl⟩
 ·rintro i τ H' _ ⟨u,v,cs,rfl,kp,_⟩
  exact SqL.of (kp _ _ (by simp [Ne.symm n23]) (by walk_at "hp"))
 ·rintro i x pp τ H' hx hpp ⟨u,v,cs,rfl,kp,hcs,hl⟩
  obtain ⟨rfl,hi⟩:=Qa hx
  have b1:=kZ (i:Int) hm
  obtain ⟨g1,g2⟩:=vp (cs:=cs) (k:=(i:Int) % (M:Int)) b1.1 (by omega)
  have hcs':upd H' pp (HO.tup [V.int i,V.int (d0.getD i 0)]) p2=some (il cs):=by walk_at "hp"
  walk_at "rd"
  walk_at "xs"
  refine ⟨(kp.trans (Kp.new _ hpp)).trans (Kp.set _ (by simp)),_,zl.trans (congrArg some (congrArg HO.lst (Qy _ _ _))),by rw [bN];exact hl⟩
 ·rintro τ H' ⟨u,v,cs,rfl,kp,hcs,hl⟩
  walk_at "rd"
  refine q _ _ cs (fun c o hc hh=>kp c o ?_ ((((Kp.new _ hp1).trans (Kp.new _ hp2)).trans (Kp.new _ hp3)) c o hc hh)) (by walk_at "fr") hcs (by omega)
  have:c ≠ p2:=xE (JW hp2 (Kp.new _ hp1)) hh
  simpa using this
noncomputable abbrev QM:List Int:=[0,1,2,3,4,5,6,7,4,5,6,7]
noncomputable abbrev wb:cg:=top 24
theorem Zv:zr ["_law_box_here","_law_most","_law_few"] ["_law_box_here","_law_most"] (zg wb):=⟨rfl,rfl,rfl,by decide +kernel,rfl,by decide +kernel,by decide +kernel⟩
noncomputable def Jk:Sp:=fun vs H Q _=>∃ (b:ay) (m:Int) (N:Nat),vs=[.ref b,.int m]/\Bx H b N/\N<100000000/\24<=m/\m<=1000/\∀ r H',Kp [b] H H'->Bx H' b (N+10)->0<=r->r<=m->Q (.int r) H'
theorem YL (a:At K mg "_law_length" wb)(B:Blt mg)(D_law_take:Df P w K mg base "_law_take" ["_law_box_here","_law_many"] 1 KB):Df P w K mg base "_law_length" ["_law_box_here","_law_most"] 2 Jk:=by
 refine wj (k:=1) a Zv (fun _ _ _ _ _ _=>Pn2_ fun _ _=>rfl) (fun vs H Q E h=>?_) (fun f cdv A outer s H vs Q E hr h=>?_)
 ·obtain ⟨a,k,cs,rfl,_⟩:=h;rfl
 obtain ⟨b,m,N,rfl,hb,hN,hm,hm',q⟩:=h
 have sc:=Zv
 have hsl:=hsl
 refine' ⟨_,zc (zN (zo GW (zO D_law_take hr rfl (za (pv 0) (za zh zb))) zh (zq _)) (ze (zA (zL wm (pv 1) (zO D_law_take hr rfl (za (pv 0) (za (zn (Zk rfl) rfl B.max BI (za zh (za (zL Xp (pv 1) zh) zb))) zb)))))) zw) (zc _ _),?_⟩
 rotate_left 2
 ·refine' zE (i:=2) _ _ _ _ _ _
  rotate_left 1
  ·exact sc.nd
  ·rfl
  ·first | exact aV rfl | exact aW rfl
  ·refine' zu _ _ _ _
   rotate_left 3
   ·exact qO
   ·refine' zR _
    rotate_left 1
    refine' YE (is:=[0,1,2,3,4,5,6,7,4,5,6,7]) _
    rfl
   ·exact (zO D_law_take hr rfl (za (pv 0) (za zh zb)))
   ·exact (fun _ _=>rfl)
  ·rfl
  ·first | exact .inl rfl | exact .inr rfl | assumption
 ·refine' ze _
  rotate_left 1
  refine' zA _
  rotate_left 1
  refine' zu _ _ _ _
  rotate_left 3
  ·exact qO
  ·refine' zR _
   rotate_left 1
   refine' za _ _ _
   rotate_left 2
   ·exact pv 2
   ·exact (za (zL jy zh (zO D_law_take hr rfl (za (pv 0) (za zh zb)))) zb)
   ·rfl
  ·exact (zH Zt rfl B.int wQ (za (kS GW (zO D_law_take hr rfl (za (pv 0) (za zh zb))) zh (zq _)) zb))
  ·exact (fun _ _=>rfl)
 rw [show start ["_law_box_here","_law_most","_law_few"] [V.ref b,V.int m]=[some (.ref b),some (.int m),none] from rfl]
 walk_at "rd"
 refine ⟨b,16,N,rfl,hb,by omega,by decide,by decide,fun r1 H1 k1 b1 l1 u1=>⟨rfl,?_⟩⟩
 walk_at "rd"
 refine MU (fun c=>?_) (fun c=>?_)
 ·walk_at "xs"
  refine ⟨b,_,_,rfl,b1,by omega,by split <;> omega,by split <;> omega,fun r2 H2 k2 b2 l2 u2=>⟨_,rfl,?_⟩⟩
  refine q _ _ (k1.trans k2) (b2.mono (by omega)) ?_ ?_
  ·split at u2 <;> omega
  ·omega
 ·walk_at "xs"
  intro p1 hp1
  refine ⟨b,12,_,rfl,b1.new hp1,by omega,by decide,by decide,fun r2 H2 k2 b2 l2 u2=>?_⟩
  have hne:p1 ≠ b:=by obtain ⟨_,_,_,h,_⟩:=b1;exact Ne.symm (zp h hp1)
  have h2:=k2 p1 _ (by simpa using hne) zl
  obtain ⟨e1,e2⟩:=vp (cs:=QM) (k:=r2) l2 (by simpa using u2)
  refine ⟨_,_,rfl,SqL.of h2,_,e2,b,17,_,rfl,b2,by omega,by decide,by decide,fun r3 H3 k3 b3 l3 u3=>?_⟩
  have hv:0<=QM.getD r2.toNat 0/\QM.getD r2.toNat 0<=(24:Int):=by
   have:∀ j:Nat,0<=QM.getD j 0/\QM.getD j 0<=(24:Int):=by
    intro j
    by_cases hj:j<12
    ·have hd:∀ j:Nat,j<12->0<=QM.getD j 0/\QM.getD j 0<=(24:Int):=by decide
     exact hd j hj
    ·have e:QM.getD j (0:Int)=0:=by rw [aD,List.getElem?_eq_none (by simpa using hj)];rfl
     rw [e];decide
   exact this _
  refine ⟨_,rfl,by show 2<=aQ;decide,fun p2 hp2=>?_⟩
  refine ⟨b,6,_,rfl,b3.new hp2,by omega,by decide,by decide,fun r4 H4 k4 b4 l4 u4=>⟨rfl,?_⟩⟩
  have hne2:p2 ≠ b:=by obtain ⟨_,_,_,h,_⟩:=b3;exact Ne.symm (zp h hp2)
  have h4:=k4 p2 _ (by simpa using hne2) zl
  have fin:∀ r,0<=r->r<=24->Q (.int r) H4:=fun r g1 g2=>by
   refine q r H4 ?_ (b4.mono (by omega)) g1 (by omega)
   exact (((k1.trans (Kp.new _ hp1)).trans k2).trans k3).trans ((Kp.new _ hp2).trans k4)
  by_cases c4:r4=0
  ·subst c4
   exact ⟨_,SqL.of h4,_,rfl,fin _ (by omega) (by omega)⟩
  ·rw [if_neg (fun z=>c4 (V.int.inj z))]
   exact ⟨_,SqL.of h4,_,rfl,fin _ hv.1 hv.2⟩
noncomputable def cE:Option Int->V
 | none=>.non
 | some x=>.int x
inductive De where
 | swap (a b:Nat) | take (p:Nat) | move (p g:Nat) | lay (g:Nat)
abbrev ES:=List (Option Int) × Option Int
inductive DoE:De->ES->ES->Prop
 | swap {a b:Nat} {row:List (Option Int)} {h:Option Int} {x y:Int}:a ≠ b->row[a]?=some (some x)->row[b]?=some (some y)->DoE (.swap a b) (row,h) ((row.set a (some y)).set b (some x),h)
 | take {p:Nat} {row:List (Option Int)} {x:Int}:row[p]?=some (some x)->DoE (.take p) (row,none) (row.set p none,some x)
 | move {p g:Nat} {row:List (Option Int)} {h:Option Int} {x:Int}:row[p]?=some (some x)->row[g]?=some none->DoE (.move p g) (row,h) ((row.set p none).set g (some x),h)
 | lay {g:Nat} {row:List (Option Int)} {x:Int}:row[g]?=some none->DoE (.lay g) (row,some x) (row.set g (some x),none)
inductive vA:List De->ES->ES->Prop
 | nil {s:ES}:vA [] s s
 | cons {d:De} {l:List De} {s t u:ES}:DoE d s t->vA l t u->vA (d :: l) s u
theorem vA.append {a b:List De}{s t u:ES}(h1:vA a s t)(h2:vA b t u):vA (a ++ b) s u:=by
 induction h1 with
 | nil=>exact h2
 | cons d _ ih=>exact .cons d (ih h2)
variable {d:De} {s t:ES}
theorem vA.one (h:DoE d s t):vA [d] s t:=.cons h .nil
theorem DoE.len (h:DoE d s t):t.1.length=s.1.length:=by
 cases h <;> simp
abbrev Tst (c:AT)(ρ:ASt)(M:MH)(b:Bool):Prop:=∀ Q,Q b M->c ρ M Q
variable {c:AT} {ρ:ASt} {M:MH}
theorem zC {b b':Bool}(h:Tst c ρ M b)(e:b=b'):Tst c ρ M b':=e ▸ h
theorem ju {c d:AT} (h:Tst c ρ M false):Tst (FQ c d) ρ M false:=fun Q q=>h _ (by rw [if_neg (fun z=>nomatch z)];exact q)
theorem qL {c d:AT} {b:Bool}(h:Tst c ρ M true)(h':Tst d ρ M b):Tst (FQ c d) ρ M b:=fun Q q=>h _ (by rw [if_pos rfl];exact h' _ q)
theorem jD {c d:AT} {b:Bool}(h:Tst c ρ M false)(h':Tst d ρ M b):Tst (aOr c d) ρ M b:=fun Q q=>h _ (by rw [if_neg (fun z=>nomatch z)];exact h' _ q)
theorem yX {c d:AT} (h:Tst c ρ M true):Tst (aOr c d) ρ M true:=fun Q q=>h _ (by rw [if_pos rfl];exact q)
variable {B:MH} {D:jn}
theorem qK {t r:AS} (h:Tst c ρ M false)(k:r B D ρ M):yj (vE c t kP) r B D ρ M:=h _ (by rw [if_neg (fun z=>nomatch z)];exact k)
variable {e:AE} {r:AS}
theorem xv (h:Tst c ρ M true)(k:e ρ M D.rt):yj (vE c (D7 e) kP) r B D ρ M:=h _ (by rw [if_pos rfl];exact k)
theorem IH {t:AS} (h:Tst c ρ M false)(k:D.nx ρ M):vE c t kP B D ρ M:=h _ (by rw [if_neg (fun z=>nomatch z)];exact k)
variable {f:AE} {Q:AK}
theorem VI (h:Tst c ρ M true)(k:e ρ M Q):aIf c e f ρ M Q:=h _ (by rw [if_pos rfl];exact k)
theorem DG (h:Tst c ρ M false)(k:f ρ M Q):aIf c e f ρ M Q:=h _ (by rw [if_neg (fun z=>nomatch z)];exact k)
variable {ps:List Dat}
theorem vY {w:Dat}:atI (AV.d w :: ps.map AV.d) 0=some (.d w):=by
 unfold atI
 rw [jc (by omega) (by rw [ba];omega)]
 rfl
theorem tW {i:Nat}{w w':Str} (hρ:ρ[i]?=some (some (.d (.tup (.str w :: ps))))):Tst (aB (aOp (Ze id) (aOp (aIx qF) (qS i) (aC (.int 0))) (aC (.str w')))) ρ M (decide (w=w')):=fun Q q=>by
 refine ⟨_,hρ,_,0,.d (.str w),rfl,rfl,vY,_,_,rfl,rfl,by rw [zZ];omega,by rw [zZ];omega,_,rfl,?_⟩
 rw [qo]
 exact q
theorem tNN {i:Nat}{x:AV} (hρ:ρ[i]?=some (some x)):Tst (aB (aOp (Y7 not) (qS i) (aC .non))) ρ M (!j7 x):=fun Q q=>⟨_,hρ,rfl,_,rfl,q⟩
theorem tIN {i:Nat}{x:AV} (hρ:ρ[i]?=some (some x)):Tst (aB (aOp (Y7 id) (qS i) (aC .non))) ρ M (j7 x):=fun Q q=>⟨_,hρ,rfl,_,rfl,q⟩
theorem tNt {b:Bool}(h:Tst c ρ M b):Tst (VB c) ρ M (!b):=fun Q q=>h _ q
theorem MD {i:Nat}{x:AV}{t c:String}{b:Bool} (h:ρ[i]?=some (some x))(ht:tyA x M=some t)(hb:isT t c=some b):Tst (aB (aCB Kc (qQ (qS i) (qQ (aC (.ty c)) xW)))) ρ M b:=fun Q q=>⟨_,h,_,_,_,_,rfl,ht,hb,_,rfl,q⟩
theorem Vr {i:Nat}{w:Dat} {t c:String}{b:Bool} (h:ρ[i]?=some (some (.d (.tup (w :: ps)))))(ht:tyA (.d w) M=some t)(hb:isT t c=some b):Tst (aB (aCB Kc (qQ (aOp (aIx qF) (qS i) (aC (.int 0))) (qQ (aC (.ty c)) xW)))) ρ M b:=fun Q q=>⟨_,h,_,_,_,rfl,rfl,vY,_,_,_,_,rfl,ht,hb,_,rfl,q⟩
theorem tNo {i:Nat}{x:AV}{t c:String}{d:AT} (h:ρ[i]?=some (some x))(ht:tyA x M=some t)(hb:isT t c=some false):Tst (aOr (VB (aB (aCB Kc (qQ (qS i) (qQ (aC (.ty c)) xW))))) d) ρ M true:=yX (tNt (MD h ht hb))
theorem DH {t r:AS} (h:Tst c ρ M true)(k:t B { D with nx:=r B D } ρ M):yj (vE c t kP) r B D ρ M:=h _ (by rw [if_pos rfl];exact k)
noncomputable def j3 (ms:List Int)(x:Int):List Int:=ms.set x.toNat (ms.getD x.toNat 0+1)
theorem wl (ms:List Int)(x:Int):(j3 ms x).length=ms.length:=by unfold j3;rw [bN]
def OkM (s:ES)(n:Nat):Prop:=(∀ x,some x ∈ s.1->0<=x/\x<(n:Int))/\∀ x,s.2=some x->0<=x/\x<(n:Int)
noncomputable def cA:Option Int->AV
 | none=>.d .non
 | some x=>.d (.int x)
noncomputable abbrev Vl (row:List (Option Int)):MO:=.lst (row.map cA)
noncomputable abbrev msA (ms:List Int):MO:=.lst (ms.map fun i=>AV.d (.int i))
noncomputable abbrev BF (C rw_ mv:ay)(h:Option Int):MO:=.ins C [("row",.ref rw_),("hand",cA h),("moved",.ref mv)]
structure zV (C:ay)(M:MH)(p rw_ mv:ay)(s:ES)(ms:List Int):Prop where
 ins:M p=some (BF C rw_ mv s.2)
 row:M rw_=some (Vl s.1)
 mvd:M mv=some (msA ms)
 ne:rw_ ≠ mv
noncomputable def rmP (C:ay)(M:MH)(p rw_ mv:ay)(s:ES)(ms:List Int):MH:=mup (mup (mup M p (BF C rw_ mv s.2)) rw_ (Vl s.1)) mv (msA ms)
variable {C p rw_ mv:ay} {ms:List Int}
theorem zV.pr (r:zV C M p rw_ mv s ms):p ≠ rw_/\p ≠ mv:=
 ⟨fun z=>(by have:=r.ins;rw [z,r.row] at this;cases this),fun z=>(by have:=r.ins;rw [z,r.mvd] at this;cases this)⟩
theorem zV.same (r:zV C M p rw_ mv s ms):rmP C M p rw_ mv s ms=M:=by
 funext b
 unfold rmP mup
 by_cases c1:b=mv
 ·rw [if_pos c1,c1,r.mvd]
 ·rw [if_neg c1]
  by_cases c2:b=rw_
  ·rw [if_pos c2,c2,r.row]
  ·rw [if_neg c2]
   by_cases c3:b=p
   ·rw [if_pos c3,c3,r.ins]
   ·rw [if_neg c3]
theorem zV.to (r:zV C M p rw_ mv s ms)(s':ES)(ms':List Int):zV C (rmP C M p rw_ mv s' ms') p rw_ mv s' ms':=by
 obtain ⟨n1,n2⟩:=r.pr
 have n3:=r.ne
 unfold rmP
 exact ⟨by rw [zi n2,zi n1,zf],by rw [zi n3,zf],zf,n3⟩
theorem zV.again (r:zV C M p rw_ mv s ms)(s' s2:ES)(ms' ms2:List Int):rmP C (rmP C M p rw_ mv s' ms') p rw_ mv s2 ms2=rmP C M p rw_ mv s2 ms2:=by
 funext b
 unfold rmP mup
 by_cases c1:b=mv <;> by_cases c2:b=rw_ <;> by_cases c3:b=p <;> simp [c1,c2,c3]
theorem zV.setRow (r:zV C M p rw_ mv s ms)(row:List (Option Int)):mup M rw_ (Vl row)=rmP C M p rw_ mv (row,s.2) ms:=by
 obtain ⟨n1,n2⟩:=r.pr
 funext b
 unfold rmP mup
 by_cases c1:b=mv
 ·rw [if_pos c1,if_neg (fun z=>r.ne (z.symm.trans c1)),c1,r.mvd]
 ·rw [if_neg c1]
  by_cases c2:b=rw_
  ·rw [if_pos c2,if_pos c2]
  ·rw [if_neg c2,if_neg c2]
   by_cases c3:b=p
   ·rw [if_pos c3,c3,r.ins]
   ·rw [if_neg c3]
theorem zV.setMv (r:zV C M p rw_ mv s ms)(ms':List Int):mup M mv (msA ms')=rmP C M p rw_ mv s ms':=by
 have:=r.same
 calc mup M mv (msA ms')=mup (rmP C M p rw_ mv s ms) mv (msA ms'):=by rw [this]
  _=_:=by unfold rmP;rw [xQ]
theorem zV.setHand (r:zV C M p rw_ mv s ms)(h:Option Int):mup M p (BF C rw_ mv h)=rmP C M p rw_ mv (s.1,h) ms:=by
 obtain ⟨n1,n2⟩:=r.pr
 funext b
 unfold rmP mup
 by_cases c1:b=mv
 ·rw [if_pos c1,if_neg (fun z=>n2 (z.symm.trans c1)),c1,r.mvd]
 ·rw [if_neg c1]
  by_cases c2:b=rw_
  ·rw [if_pos c2,if_neg (fun z=>n1 (z.symm.trans c2)),c2,r.row]
  ·rw [if_neg c2]
theorem zV.fin (r:zV C M p rw_ mv s ms)(s':ES)(ms':List Int)(d:Dat):vG M (rmP C M p rw_ mv s' ms') (.d d) (.d d) (rmP C M p rw_ mv s' ms'):=by
 have t:=r.to s' ms'
 refine ⟨fun q=>.inl rfl,fun q o e=>?_,.inl ⟨rfl,fun p z=>nomatch z⟩⟩
 by_cases c1:q=mv
 ·rw [c1,t.mvd] at e
  cases e
  exact .inr fun z hz=>absurd hz (yG (ds:=ms'.map .int) (qV _) z)
 ·by_cases c2:q=rw_
  ·rw [c2,t.row] at e
   cases e
   refine .inr fun z hz=>?_
   obtain ⟨y,hy,hz⟩:=(show ∃ x ∈ s'.1.map cA,x.Has z from hz)
   obtain ⟨x,_,rfl⟩:=bE.mp hy
   cases x <;> exact (show False from hz).elim
  ·by_cases c3:q=p
   ·rw [c3,t.ins] at e
    cases e
    refine .inr fun z hz=>?_
    obtain ⟨y,hy,hz⟩:=(show ∃ x ∈ [AV.ref rw_,cA s'.2,AV.ref mv],x.Has z from hz)
    simp only [aF,aN,or_false] at hy
    rcases hy with rfl | rfl | rfl
    ·obtain rfl:rw_=z:=hz
     rw [t.row];exact fun z=>nomatch z
    ·cases h:s'.2 <;> rw [h] at hz <;> exact (show False from hz).elim
    ·obtain rfl:mv=z:=hz
     rw [t.mvd];exact fun z=>nomatch z
   ·refine .inl ?_
    unfold rmP at e
    rw [zi c1,zi c2,zi c3] at e
    exact e
structure RTx (K:aA)(C:ay):Prop where
 cl:Cls K C
 nr:j8 K C "row"
 nh:j8 K C "hand"
 nm:j8 K C "moved"
noncomputable abbrev wrd (x:String):List (Str × V):=[("word",.str (af x))]
noncomputable def fnW (vs:List V):List (Str × V):=[("word",vs.getD 0 .non)]
variable {row:List (Option Int)}
theorem yA {a:Nat}(h:a<row.length):atI (row.map cA) (a:Int)=some (cA (row.getD a none))/\ixN (row.map cA).length (a:Int)=some a:=by
 have e:ixN (row.map cA).length (a:Int)=some a:=by rw [aw,jc (by omega) (by omega),bp]
 refine ⟨?_,e⟩
 unfold atI
 rw [e]
 show (row.map cA)[a]?=_
 rw [aK,au h,aD,au h];rfl
theorem Ju {x:Int}(h0:0<=x)(h1:x<(ms.length:Int)):atI (ms.map fun i=>AV.d (.int i)) x=some (.d (.int (ms.getD x.toNat 0)))/\ixN (ms.map fun i=>AV.d (Dat.int i)).length x=some x.toNat:=by
 have hx:x.toNat<ms.length:=by omega
 have e:ixN (ms.map fun i=>AV.d (Dat.int i)).length x=some x.toNat:=by rw [aw,jc h0 (by omega)]
 refine ⟨?_,e⟩
 unfold atI
 rw [e]
 show (ms.map fun i=>AV.d (Dat.int i))[x.toNat]?=_
 rw [aK,au hx,aD,au hx];rfl
theorem Ac (x:Int):(ms.map fun i=>AV.d (.int i)).set x.toNat (.d (.int (ms.getD x.toNat 0+1)))=(j3 ms x).map fun i=>AV.d (.int i):=by unfold j3;rw [gi]
theorem BX (row:List (Option Int))(a:Nat)(c:Option Int):(row.map cA).set a (cA c)=(row.set a c).map cA:=gi.symm
theorem rz {M0 M' M'':MH}{E0:AXK}{cB:ay}{w:Str}(f:vG M0 M' (.d .non) (.d .non) M'')(q:E0 cB [("word",.str w)] M''):∃ vs,[WR (.d (.str w))]=cC some vs/\vs.length=1/\1<=1000/\exA M0 E0 cB (fnW vs) M':=⟨[.str w],rfl,rfl,by decide,M'',f,q⟩
theorem qN (c:Option Int):j7 (cA c)=c.isNone:=by cases c <;> rfl
noncomputable def BE (C cB:ay):xo:=fun xs M Q E=>∃ (p rw_ mv:ay) (s:ES) (ms:List Int) (a:Nat),xs=[.ref p,.d (.int a)]/\zV C M p rw_ mv s ms/\a<s.1.length/\OkM s ms.length /\
 (∀ x,s.1.getD a none=some x->Q (.d (.int x)) (rmP C M p rw_ mv (s.1.set a none,s.2) (j3 ms x)))/\(s.1.getD a none=none->E cB (wrd "empty") M)
noncomputable abbrev Ke:cg:=(qM (top 14) 6)
theorem YH:zr ["self","a","thing"] ["self","a"] (zg Ke):=⟨rfl,rfl,rfl,by decide +kernel,rfl,by decide +kernel,by decide +kernel⟩
theorem DW {C:ay}(a:AtM K C "lift" "Room.lift" Ke)(R:RTx K C)(B:Blt mg){cBadDeed:ay}(MX_BadDeed:MkX P w K mg base cBadDeed 1 1 fnW)(XG_BadDeed:mg "BadDeed"=some (.ref cBadDeed)):DmX P w K mg base C "lift" ["self","a"] 3 (jk (BE C cBadDeed)):=by
 refine Vm (k:=2) a YH (fun _ _ _ _ _ _=>Pn2_ fun _ _=>rfl) (fun xs M Q E h=>?_) (fun f cdv A outer s H HX OX MX E1 hr hD=>?_)
 ·obtain ⟨_,_,_,_,_,_,rfl,_⟩:=h;rfl
 have sc:=YH
 have hsl:=hsl
 have CL:=R.cl
 refine ⟨_,(zc (zE (i:=2) sc.nd rfl (by first | exact aV rfl | exact aW rfl) (zu zB (qg (pv 0) rfl) (pv 1) (fun _ _=>rfl)))
  (zc (zN (zo je (pv 2) zI (zq _)) (ze (qC hD rfl MX_BadDeed hr rfl XG_BadDeed (za zm zb))) zw)
  (zc (qk zI (qU (qg (pv 0) rfl) (pv 1) zP))
  (zc (vK (qg (pv 0) rfl) (pv 2) xI zh Z0 zP)
  (ze (zA (pv 2))))))),?_⟩
 refine exX (by walk_at "sim") ?_
 rintro xs Q E0 rfl ⟨p,rw_,mv,⟨row,hd⟩,ms,a,rfl,r,ha,ok,q,qe⟩
 rw [show zM ["self","a","thing"] [.ref p,.d (.int a)]=[some (.ref p),some (.d (.int a)),none] from rfl]
 refine zd fun r1 hr1=>?_
 walk_at "ra"
 obtain ⟨c1,c2⟩:=yA ha
 refine ⟨_,_,r.ins,R.cl,R.nr,_,rfl,_,zF r.row,_,c1,?_⟩
 subst hr1
 refine zd fun r1 hr1=>?_
 walk_at "ra"
 cases hx:row.getD a none with
 | none=>
  rw [if_pos (by rw [qN];rfl)]
  exact rz (qD Fr.refl .non) (qe hx)
 | some x=>
  rw [if_neg (by rw [qN];exact fun z=>nomatch z)]
  subst hr1
  obtain ⟨x0,x1⟩:=ok.1 x (by rw [aD,au ha] at hx;rw [<- hx];exact bv ha)
  obtain ⟨m1,m2⟩:=Ju x0 x1
  show yj _ _ _ _ _ _
  rw [show cA (some x)=.d (.int x) from rfl]
  refine zd fun r1 hr1=>?_
  walk_at "ra"
  refine ⟨_,_,r.ins,R.cl,R.nr,_,rfl,_,rfl,_,r.row,_,c2,?_⟩
  rw [show (row.map cA).set a (.d .non)=(row.set a none).map cA from BX row a none,r.setRow]
  have r2:=r.to (row.set a none,hd) ms
  subst hr1
  walk_at "ra"
  refine ⟨_,_,r2.ins,R.cl,R.nm,_,rfl,_,qY r2.mvd,_,m1,_,rfl,_,rfl,_,r2.mvd,_,m2,?_⟩
  rw [Ac,r2.setMv,r.again]
  exact ⟨_,_,r.fin _ _ (.int x),q x hx⟩
variable {n:Nat}
theorem X9 (ok:OkM s n){a:Nat}{x:Int}(ha:a<s.1.length)(h:s.1.getD a none=some x):0<=x/\x<(n:Int):=ok.1 x (by rw [aD,au ha] at h;rw [<- h];exact bv ha)
noncomputable def GA (C cB:ay):xo:=fun xs M Q E=>∃ (p rw_ mv:ay) (s:ES) (ms:List Int) (a b:Nat),xs=[.ref p,.d (.int a),.d (.int b)]/\zV C M p rw_ mv s ms/\a<s.1.length/\b<s.1.length/\OkM s ms.length /\
 (a=b->E cB (wrd "same") M)/\(a ≠ b->s.1.getD a none=none \/ s.1.getD b none=none->E cB (wrd "empty") M) /\
 (a ≠ b->∀ x y,s.1.getD a none=some x->s.1.getD b none=some y->Q (.d .non) (rmP C M p rw_ mv ((s.1.set a (some y)).set b (some x),s.2) (j3 (j3 ms x) y)))
noncomputable abbrev J9:cg:=(qM (top 14) 2)
theorem YB:zr ["self","a","b","one","other"] ["self","a","b"] (zg J9):=⟨rfl,rfl,rfl,by decide +kernel,rfl,by decide +kernel,by decide +kernel⟩
theorem AC {C:ay}(a:AtM K C "swap" "Room.swap" J9)(R:RTx K C)(B:Blt mg){cBadDeed:ay}(MX_BadDeed:MkX P w K mg base cBadDeed 1 1 fnW)(XG_BadDeed:mg "BadDeed"=some (.ref cBadDeed)):DmX P w K mg base C "swap" ["self","a","b"] 3 (jk (GA C cBadDeed)):=by
 refine Vm (k:=2) a YB (fun _ _ _ _ _ _=>Pn3_ fun _ _ _=>rfl) (fun xs M Q E h=>?_) (fun f cdv A outer s H HX OX MX E1 hr hD=>?_)
 ·obtain ⟨_,_,_,_,_,_,_,rfl,_⟩:=h;rfl
 have sc:=YB
 have hsl:=hsl
 have CL:=R.cl
 refine ⟨_,(zc (zN (zo (zY hr.units) (pv 1) (pv 2) (zq _)) (ze (qC hD rfl MX_BadDeed hr rfl XG_BadDeed (za zm zb))) zw)
  (zc (zE (i:=3) sc.nd rfl (by first | exact aV rfl | exact aW rfl) (zu zB (qg (pv 0) rfl) (pv 1) (fun _ _=>rfl)))
  (zc (zE (i:=4) sc.nd rfl (by first | exact aV rfl | exact aW rfl) (zu zB (qg (pv 0) rfl) (pv 2) (fun _ _=>rfl)))
  (zc (zN (PW.pt (kl (zo je (pv 3) zI (zq _)) (jE (zo je (pv 4) zI (zq _))))) (ze (qC hD rfl MX_BadDeed hr rfl XG_BadDeed (za zm zb))) zw)
  (zc (qk (pv 4) (qU (qg (pv 0) rfl) (pv 1) zP))
  (zc (qk (pv 3) (qU (qg (pv 0) rfl) (pv 2) zP))
  (zc (vK (qg (pv 0) rfl) (pv 3) xI zh Z0 zP)
  (ze (vK (qg (pv 0) rfl) (pv 4) xI zh Z0 zP))))))))),?_⟩
 refine exX (by walk_at "sim") ?_
 rintro xs Q E0 rfl ⟨p,rw_,mv,⟨row,hd⟩,ms,a,b,rfl,r,ha,hb,ok,qs,qe,q⟩
 rw [show zM ["self","a","b","one","other"] [.ref p,.d (.int a),.d (.int b)]=[some (.ref p),some (.d (.int a)),some (.d (.int b)),none,none] from rfl]
 refine zd fun r1 hr1=>?_
 walk_at "ra"
 by_cases hab:a=b
 ·rw [if_pos (by rw [hab])]
  exact rz (qD Fr.refl .non) (qs hab)
 rw [if_neg (by omega)]
 subst hr1
 obtain ⟨c1,c2⟩:=yA ha
 obtain ⟨d1,d2⟩:=yA hb
 refine zd fun r1 hr1=>?_
 walk_at "ra"
 refine ⟨_,_,r.ins,R.cl,R.nr,_,rfl,_,zF r.row,_,c1,?_⟩
 subst hr1
 refine zd fun r1 hr1=>?_
 walk_at "ra"
 refine ⟨_,_,r.ins,R.cl,R.nr,_,rfl,_,zF r.row,_,d1,?_⟩
 subst hr1
 refine zd fun r1 hr1=>?_
 walk_at "ra"
 cases hx:row.getD a none with
 | none=>
  rw [if_pos (by rw [qN];rfl)]
  exact rz (qD Fr.refl .non) (qe hab (.inl hx))
 | some x=>
  rw [if_neg (by rw [qN];exact fun z=>nomatch z)]
  cases hy:row.getD b none with
  | none=>
   rw [if_pos (by rw [qN];rfl)]
   exact rz (qD Fr.refl .non) (qe hab (.inr hy))
  | some y=>
   rw [if_neg (by rw [qN];exact fun z=>nomatch z)]
   obtain ⟨x0,x1⟩:=X9 ok ha hx
   obtain ⟨y0,y1⟩:=X9 ok hb hy
   obtain ⟨m1,m2⟩:=Ju x0 x1
   obtain ⟨n1,n2⟩:=Ju (ms:=j3 ms x) y0 (by rw [wl];exact y1)
   subst hr1
   rw [show cA (some x)=.d (.int x) from rfl,show cA (some y)=.d (.int y) from rfl]
   refine zd fun r1 hr1=>?_
   walk_at "ra"
   refine ⟨_,_,r.ins,R.cl,R.nr,_,rfl,_,rfl,_,r.row,_,c2,?_⟩
   rw [show (row.map cA).set a (.d (.int y))=(row.set a (some y)).map cA from BX row a (some y),r.setRow]
   have r2:=r.to (row.set a (some y),hd) ms
   subst hr1
   refine zd fun r1 hr1=>?_
   walk_at "ra"
   refine ⟨_,_,r2.ins,R.cl,R.nr,_,rfl,_,rfl,_,r2.row,b,by rw [aw,bN,jc (by omega) (by show (b:Int)<row.length;have:b<row.length:=hb;omega),bp],?_⟩
   rw [show ((row.set a (some y)).map cA).set b (.d (.int x))=((row.set a (some y)).set b (some x)).map cA from BX _ b (some x),r2.setRow,r.again]
   have r3:=r.to ((row.set a (some y)).set b (some x),hd) ms
   subst hr1
   refine zd fun r1 hr1=>?_
   walk_at "ra"
   refine ⟨_,_,r3.ins,R.cl,R.nm,_,rfl,_,qY r3.mvd,_,m1,_,rfl,_,rfl,_,r3.mvd,_,m2,?_⟩
   rw [Ac,r3.setMv,r.again]
   have r4:=r.to ((row.set a (some y)).set b (some x),hd) (j3 ms x)
   subst hr1
   walk_at "ra"
   refine ⟨_,_,r4.ins,R.cl,R.nm,_,rfl,_,qY r4.mvd,_,n1,_,rfl,_,rfl,_,r4.mvd,_,n2,?_⟩
   rw [Ac,r4.setMv,r.again]
   exact ⟨_,_,r.fin _ _ .non,q hab x y hx hy⟩
theorem JC {a b c y:AV}:jT (af "hand") y [(af "row",a),(af "hand",b),(af "moved",c)]=[(af "row",a),(af "hand",y),(af "moved",c)]:=by
 unfold jT;rw [if_neg (by decide +kernel)];unfold jT;rw [if_pos rfl]
noncomputable def Bv (C cB:ay):xo:=fun xs M Q E=>∃ (p rw_ mv:ay) (s:ES) (ms:List Int) (a:Nat),xs=[.ref p,.d (.int a)]/\zV C M p rw_ mv s ms/\a<s.1.length/\OkM s ms.length /\
 (s.2 ≠ none->E cB (wrd "full") M)/\(s.2=none->s.1.getD a none=none->E cB (wrd "empty") M) /\
 (s.2=none->∀ x,s.1.getD a none=some x->Q (.d .non) (rmP C M p rw_ mv (s.1.set a none,some x) (j3 ms x)))
noncomputable abbrev ZT:cg:=(qM (top 14) 3)
theorem QO:zr ["self","a"] ["self","a"] (zg ZT):=⟨rfl,rfl,rfl,by decide +kernel,rfl,by decide +kernel,by decide +kernel⟩
theorem VH {C:ay}(a:AtM K C "take" "Room.take" ZT)(R:RTx K C)(B:Blt mg){cBadDeed:ay}(MX_BadDeed:MkX P w K mg base cBadDeed 2 1 fnW)(XG_BadDeed:mg "BadDeed"=some (.ref cBadDeed))(DM_lift:DmX P w K mg base C "lift" ["self","a"] 3 (jk (BE C cBadDeed))):DmX P w K mg base C "take" ["self","a"] 4 (jk (Bv C cBadDeed)):=by
 refine Vm (k:=3) a QO (fun _ _ _ _ _ _=>Pn2_ fun _ _=>rfl) (fun xs M Q E h=>?_) (fun f cdv A outer s H HX OX MX E1 hr hD=>?_)
 ·obtain ⟨_,_,_,_,_,_,rfl,_⟩:=h;rfl
 have sc:=QO
 have hsl:=hsl
 have CL:=R.cl
 refine ⟨_,(zc (zN (zo jx (qg (pv 0) rfl) zI (zq _)) (ze (qC hD rfl MX_BadDeed hr rfl XG_BadDeed (za zm zb))) zw)
  (ze (xj (pv 0) (kB CL DM_lift hr hD.passX (pv 0) (za (pv 1) zb)) rfl))),?_⟩
 refine exX (by walk_at "sim") ?_
 rintro xs Q E0 rfl ⟨p,rw_,mv,⟨row,hd⟩,ms,a,rfl,r,ha,ok,qf,qe,q⟩
 rw [show zM ["self","a"] [.ref p,.d (.int a)]=[some (.ref p),some (.d (.int a))] from rfl]
 refine zd fun r1 hr1=>?_
 walk_at "ra"
 refine ⟨_,_,r.ins,R.cl,R.nh,_,rfl,?_⟩
 cases hd with
 | some x=>
  rw [if_pos (by rw [qN];rfl)]
  exact rz (qD Fr.refl .non) (qf (fun z=>nomatch z))
 | none=>
  rw [if_neg (by rw [qN];exact fun z=>nomatch z)]
  subst hr1
  walk_at "ra"
  refine ⟨_,r.ins,rfl,p,rw_,mv,(row,none),ms,a,rfl,r,ha,ok,fun x hx=>?_,fun hx=>⟨_,qD Fr.refl .non,qe rfl hx⟩⟩
  have r2:=r.to (row.set a none,none) (j3 ms x)
  refine ⟨_,_,r2.ins,R.cl,R.nh,d9 rfl,?_⟩
  rw [JC,show AV.d (.int x)=cA (some x) from rfl,r2.setHand,r.again]
  exact ⟨_,_,r.fin _ _ .non,q rfl x hx⟩
noncomputable def GZ (C cB:ay):xo:=fun xs M Q E=>∃ (p rw_ mv:ay) (s:ES) (ms:List Int) (a b:Nat),xs=[.ref p,.d (.int a),.d (.int b)]/\zV C M p rw_ mv s ms/\a<s.1.length/\b<s.1.length/\OkM s ms.length /\
 (a=b->E cB (wrd "same") M)/\(a ≠ b->s.1.getD b none ≠ none->E cB (wrd "full") M)/\(a ≠ b->s.1.getD b none=none->s.1.getD a none=none->E cB (wrd "empty") M) /\
 (a ≠ b->s.1.getD b none=none->∀ x,s.1.getD a none=some x->Q (.d .non) (rmP C M p rw_ mv ((s.1.set a none).set b (some x),s.2) (j3 ms x)))
noncomputable abbrev Kl:cg:=(qM (top 14) 4)
theorem Ym:zr ["self","a","b"] ["self","a","b"] (zg Kl):=⟨rfl,rfl,rfl,by decide +kernel,rfl,by decide +kernel,by decide +kernel⟩
theorem Ax {C:ay}(a:AtM K C "move" "Room.move" Kl)(R:RTx K C)(B:Blt mg){cBadDeed:ay}(MX_BadDeed:MkX P w K mg base cBadDeed 2 1 fnW)(XG_BadDeed:mg "BadDeed"=some (.ref cBadDeed))(DM_lift:DmX P w K mg base C "lift" ["self","a"] 3 (jk (BE C cBadDeed))):DmX P w K mg base C "move" ["self","a","b"] 4 (jk (GZ C cBadDeed)):=by
 refine Vm (k:=3) a Ym (fun _ _ _ _ _ _=>Pn3_ fun _ _ _=>rfl) (fun xs M Q E h=>?_) (fun f cdv A outer s H HX OX MX E1 hr hD=>?_)
 ·obtain ⟨_,_,_,_,_,_,_,rfl,_⟩:=h;rfl
 have sc:=Ym
 have hsl:=hsl
 have CL:=R.cl
 refine ⟨_,(zc (zN (zo (zY hr.units) (pv 1) (pv 2) (zq _)) (ze (qC hD rfl MX_BadDeed hr rfl XG_BadDeed (za zm zb))) zw)
  (zc (zN (zo jx (zu zB (qg (pv 0) rfl) (pv 2) (fun _ _=>rfl)) zI (zq _)) (ze (qC hD rfl MX_BadDeed hr rfl XG_BadDeed (za zm zb))) zw)
  (ze (qk (kB CL DM_lift hr hD.passX (pv 0) (za (pv 1) zb)) (qU (qg (pv 0) rfl) (pv 2) zP))))),?_⟩
 refine exX (by walk_at "sim") ?_
 rintro xs Q E0 rfl ⟨p,rw_,mv,⟨row,hd⟩,ms,a,b,rfl,r,ha,hb,ok,qs,qf,qe,q⟩
 rw [show zM ["self","a","b"] [.ref p,.d (.int a),.d (.int b)]=[some (.ref p),some (.d (.int a)),some (.d (.int b))] from rfl]
 refine zd fun r1 hr1=>?_
 walk_at "ra"
 by_cases hab:a=b
 ·rw [if_pos (by rw [hab])]
  exact rz (qD Fr.refl .non) (qs hab)
 rw [if_neg (by omega)]
 subst hr1
 obtain ⟨d1,d2⟩:=yA hb
 refine zd fun r1 hr1=>?_
 walk_at "ra"
 refine ⟨_,_,r.ins,R.cl,R.nr,_,rfl,_,zF r.row,_,d1,?_⟩
 cases hy:row.getD b none with
 | some y=>
  rw [if_pos (by rw [qN];rfl)]
  exact rz (qD Fr.refl .non) (qf hab (by rw [hy];exact fun z=>nomatch z))
 | none=>
  rw [if_neg (by rw [qN];exact fun z=>nomatch z)]
  subst hr1
  walk_at "ra"
  refine ⟨_,r.ins,rfl,p,rw_,mv,(row,hd),ms,a,rfl,r,ha,ok,fun x hx=>?_,fun hx=>⟨_,qD Fr.refl .non,qe hab hy hx⟩⟩
  have r2:=r.to (row.set a none,hd) (j3 ms x)
  refine ⟨_,_,r2.ins,R.cl,R.nr,_,rfl,_,rfl,_,r2.row,b,by rw [aw,bN,jc (by omega) (by show (b:Int)<row.length;have:b<row.length:=hb;omega),bp],?_⟩
  rw [show ((row.set a none).map cA).set b (.d (.int x))=((row.set a none).set b (some x)).map cA from BX _ b (some x),r2.setRow,r.again]
  exact ⟨_,_,r.fin _ _ .non,q hab hy x hx⟩
noncomputable def LZ (C cB:ay):xo:=fun xs M Q E=>∃ (p rw_ mv:ay) (s:ES) (ms:List Int) (b:Nat),xs=[.ref p,.d (.int b)]/\zV C M p rw_ mv s ms/\b<s.1.length/\OkM s ms.length /\
 (s.1.getD b none ≠ none->E cB (wrd "full") M)/\(s.1.getD b none=none->s.2=none->E cB (wrd "empty") M) /\
 (s.1.getD b none=none->∀ x,s.2=some x->Q (.d .non) (rmP C M p rw_ mv (s.1.set b (some x),none) (j3 ms x)))
noncomputable abbrev Dz:cg:=(qM (top 14) 5)
theorem Wh:zr ["self","b"] ["self","b"] (zg Dz):=⟨rfl,rfl,rfl,by decide +kernel,rfl,by decide +kernel,by decide +kernel⟩
theorem E8 {C:ay}(a:AtM K C "lay" "Room.lay" Dz)(R:RTx K C)(B:Blt mg){cBadDeed:ay}(MX_BadDeed:MkX P w K mg base cBadDeed 1 1 fnW)(XG_BadDeed:mg "BadDeed"=some (.ref cBadDeed)):DmX P w K mg base C "lay" ["self","b"] 3 (jk (LZ C cBadDeed)):=by
 refine Vm (k:=2) a Wh (fun _ _ _ _ _ _=>Pn2_ fun _ _=>rfl) (fun xs M Q E h=>?_) (fun f cdv A outer s H HX OX MX E1 hr hD=>?_)
 ·obtain ⟨_,_,_,_,_,_,rfl,_⟩:=h;rfl
 have sc:=Wh
 have hsl:=hsl
 have CL:=R.cl
 refine ⟨_,(zc (zN (zo jx (zu zB (qg (pv 0) rfl) (pv 1) (fun _ _=>rfl)) zI (zq _)) (ze (qC hD rfl MX_BadDeed hr rfl XG_BadDeed (za zm zb))) zw)
  (zc (zN (zo je (qg (pv 0) rfl) zI (zq _)) (ze (qC hD rfl MX_BadDeed hr rfl XG_BadDeed (za zm zb))) zw)
  (zc (qk (qg (pv 0) rfl) (qU (qg (pv 0) rfl) (pv 1) zP))
  (zc (vK (qg (pv 0) rfl) (qg (pv 0) rfl) xI zh Z0 zP)
  (ze (xj (pv 0) zI rfl)))))),?_⟩
 refine exX (by walk_at "sim") ?_
 rintro xs Q E0 rfl ⟨p,rw_,mv,⟨row,hd⟩,ms,b,rfl,r,hb,ok,qf,qe,q⟩
 rw [show zM ["self","b"] [.ref p,.d (.int b)]=[some (.ref p),some (.d (.int b))] from rfl]
 obtain ⟨d1,d2⟩:=yA hb
 refine zd fun r1 hr1=>?_
 walk_at "ra"
 refine ⟨_,_,r.ins,R.cl,R.nr,_,rfl,_,zF r.row,_,d1,?_⟩
 cases hy:row.getD b none with
 | some y=>
  rw [if_pos (by rw [qN];rfl)]
  exact rz (qD Fr.refl .non) (qf (by rw [hy];exact fun z=>nomatch z))
 | none=>
  rw [if_neg (by rw [qN];exact fun z=>nomatch z)]
  subst hr1
  refine zd fun r1 hr1=>?_
  walk_at "ra"
  refine ⟨_,_,r.ins,R.cl,R.nh,_,rfl,?_⟩
  cases hd with
  | none=>
   rw [if_pos (by rw [qN];rfl)]
   exact rz (qD Fr.refl .non) (qe hy rfl)
  | some x=>
   rw [if_neg (by rw [qN];exact fun z=>nomatch z)]
   obtain ⟨x0,x1⟩:=ok.2 x rfl
   obtain ⟨m1,m2⟩:=Ju x0 x1
   subst hr1
   refine zd fun r1 hr1=>?_
   walk_at "ra"
   refine ⟨_,_,r.ins,R.cl,R.nh,_,rfl,_,_,r.ins,R.cl,R.nr,_,rfl,_,rfl,_,r.row,_,d2,?_⟩
   rw [show (row.map cA).set b (cA (some x))=(row.set b (some x)).map cA from BX row b (some x),r.setRow]
   have r2:=r.to (row.set b (some x),some x) ms
   subst hr1
   refine zd fun r1 hr1=>?_
   walk_at "ra"
   refine ⟨_,_,r2.ins,R.cl,R.nm,_,rfl,_,_,r2.ins,R.cl,R.nh,_,rfl,_,qY r2.mvd,_,rfl,_,m1,_,rfl,_,rfl,_,_,rfl,r2.mvd,_,m2,?_⟩
   rw [Ac,r2.setMv,r.again]
   have r3:=r.to (row.set b (some x),some x) (j3 ms x)
   subst hr1
   walk_at "ra"
   refine ⟨_,_,r3.ins,R.cl,R.nh,d9 rfl,?_⟩
   rw [JC,show AV.d .non=cA none from rfl,r3.setHand,r.again]
   exact ⟨_,_,r.fin _ _ .non,q hy x rfl⟩
noncomputable abbrev yd:cg:=top 9
theorem vq:zr ["thing","n"] ["thing","n"] (zg yd):=⟨rfl,rfl,rfl,by decide +kernel,rfl,by decide +kernel,by decide +kernel⟩
noncomputable def qc (d:Dat)(n:Int):Bool:=match d with
 | .int i=>decide (0<=i/\i<n)
 | _=>false
noncomputable def QY:ASp:=fun xs M Q=>∃ (d:Dat) (n:Int),xs=[.d d,.d (.int n)]/\dp d<=100/\Q (.d (.bl (qc d n))) M
theorem QQ (a:At K mg "is_place" yd)(B:Blt mg):Df P w K mg base "is_place" ["thing","n"] 1 (cSp QY):=by
 refine dfA (k:=0) a vq (fun _ _ _ _ _ _=>Pn2_ fun _ _=>rfl) (fun xs M Q h=>?_) (fun f cdv A outer s H E hr=>?_)
 ·obtain ⟨_,_,rfl,_⟩:=h;rfl
 have sc:=vq
 have hsl:=hsl
 refine ⟨_,(zc (zN (PW.pt (kl (qp (zn qm rfl B.isinstance zz (za (pv 0) (za (zW (v:=.ty "bool") rfl B.bool vM rfl) zb))) (fun _=>rfl)) (jE (qJ (qp (zn qm rfl B.isinstance zz (za (pv 0) (za (zW (v:=.ty "int") rfl B.int wQ rfl) zb))) (fun _=>rfl)))))) (ze (zA kf)) zw)
  (ze (zA (Jg GN G0 zh (pv 0) (pv 1))))),?_⟩
 refine ex2 (by walk_at "sim") ?_
 rintro xs M Q ⟨d,n,rfl,hd,q⟩
 rw [show zM ["thing","n"] [.d d,.d (.int n)]=[some (.d d),some (.d (.int n))] from rfl]
 have fin:=fun b=>qD (M0:=M) Fr.refl (.bl b)
 cases d with
 | non=>walk_at "ra";exact ⟨_,_,fin _,q⟩
 | bl b=>walk_at "ra";exact ⟨_,_,fin _,q⟩
 | str b=>walk_at "ra";exact ⟨_,_,fin _,q⟩
 | lst b=>walk_at "ra";exact ⟨_,_,fin _,q⟩
 | tup b=>walk_at "ra";exact ⟨_,_,fin _,q⟩
 | int i=>
  walk_at "ra"
  have q:Q (.d (.bl (decide (0<=i/\i<n)))) M:=q
  by_cases c:0<=i
  ·rw [if_pos c]
   rw [show decide (0<=i/\i<n)=decide (i<n) by simp [c]] at q
   walk_at "ra"
   exact ⟨_,_,fin _,q⟩
  ·rw [if_neg c]
   rw [show decide (0<=i/\i<n)=false by simp [c]] at q
   walk_at "ra"
   exact ⟨_,_,fin _,q⟩
 | ty _=>rw [dp] at hd;omega
 | rng _ _ _=>rw [dp] at hd;omega
 | scr _ _=>rw [dp] at hd;omega
noncomputable abbrev Ep:List (Key × V):=[(bG (af "swap"),.int 2),(bG (af "take"),.int 1),(bG (af "move"),.int 2),(bG (af "lay"),.int 1)]
noncomputable def jA (w:Str):Option Int:=if w=af "swap" then some 2 else if w=af "take" then some 1 else if w=af "move" then some 2 else if w=af "lay" then some 1 else none
noncomputable def oD:Option Int->Dat
 | none=>.non
 | some x=>.int x
theorem IV (w:Str):Yn ((xw Ep (bG w)).getD .non)=some (oD (jA w)):=by
 unfold jA xw
 by_cases c1:w=af "swap"
 ·subst c1;rfl
 rw [if_neg c1]
 by_cases c2:w=af "take"
 ·subst c2;rfl
 rw [if_neg c2]
 by_cases c3:w=af "move"
 ·subst c3;rfl
 rw [if_neg c3]
 by_cases c4:w=af "lay"
 ·subst c4;rfl
 rw [if_neg c4]
 have n:∀ x:Str,w ≠ x->¬ decide ((bG x:Key)=bG w)=true:=fun x h z=>h (bG.inj (of_decide_eq_true z)).symm
 simp only [bS,n _ c1,n _ c2,n _ c3,n _ c4,List.find?_nil]
 rfl
theorem vR:∀ {l:List Dat} {n:Nat},dps l<=n->∀ d ∈ l,dp d<=n
 | a :: r,n,h,d,hd=>by
  rw [dps] at h
  rcases aF.mp hd with rfl | hd
  ·omega
  ·exact vR (by omega) d hd
noncomputable def qa (x:Dat)(n:Int):Bool:=match x with
 | .tup (.str w :: ps)=>jA w == some (ps.length:Int) && ps.all (qc · n)
 | _=>false
noncomputable def Ya:ASp:=fun xs M Q=>∃ (x:Dat) (n:Int),xs=[.d x,.d (.int n)]/\dp x<=40/\(∀ l,x=.tup l->l.length<=1000)/\Q (.d (.bl (qa x n))) M
noncomputable abbrev wf:cg:=top 13
theorem Zx:zr ["thing","n","word","part"] ["thing","n"] (zg wf):=⟨rfl,rfl,rfl,by decide +kernel,rfl,by decide +kernel,by decide +kernel⟩
theorem Vs (a:At K mg "is_deed" wf)(B:Blt mg)(Ball:mg "all"=none)(D_is_place:Df P w K mg base "is_place" ["thing","n"] 1 (cSp QY)){pa:ay}(KP:KD K w pa Ep)(MP:mg "PLACES_OF"=some (.ref pa)):Df P w K mg base "is_deed" ["thing","n"] 2 (cSp Ya):=by
 refine dfA (k:=1) a Zx (fun _ _ _ _ _ _=>Pn2_ fun _ _=>rfl) (fun xs M Q h=>?_) (fun f cdv A outer s H E hr=>?_)
 ·obtain ⟨_,_,rfl,_⟩:=h;rfl
 have sc:=Zx
 have hsl:=hsl
 refine ⟨_,(zc (zN (PW.pt (kl (qJ (qp (zn qm rfl B.isinstance zz (za (pv 0) (za (zW (v:=.ty "tuple") rfl B.tuple qz rfl) zb))) (fun _=>rfl))) (jE (zo (zY hr.units) (zn zv rfl B.len qd (za (pv 0) zb)) zh (zq _))))) (ze (zA kf)) zw)
  (zc (zE (i:=2) sc.nd rfl (by first | exact aV rfl | exact aW rfl) (zu zB (pv 0) zh (fun _ _=>rfl)))
  (zc (zN (PW.pt (kl (qJ (qp (zn qm rfl B.isinstance zz (za (pv 2) (za (zW (v:=.ty "str") rfl B.str wO rfl) zb))) (fun _=>rfl))) (jE (zo (ka hr.units) (Gi KP rfl MP (pv 2) ⟨rfl,rfl,rfl,rfl⟩) (zL wm (zn zv rfl B.len qd (za (pv 0) zb)) zh) (zq _))))) (ze (zA kf)) zw)
  (ze (zA (zn (yO rfl) rfl Ball Kt (za (kR (ts:=[3]) rfl rfl (Jp (j9 BP (pv 0) (kj zh) xG)) (fun _ _ _ _=>(zx (i:=3) sc.nd rfl (by first | exact aV rfl | exact aW rfl))) (fun _ _ _ _=>yp) (fun _ _ _ _=>(zO D_is_place hr rfl (za (pv 3) (za (pv 1) zb))))) zb))))))),?_⟩
 refine ex2 (by walk_at "sim") ?_
 rintro xs M Q ⟨x,n,rfl,hd,hl,q⟩
 rw [show zM ["thing","n","word","part"] [.d x,.d (.int n)]=[some (.d x),some (.d (.int n)),none,none] from rfl]
 have fin:=fun b=>qD (M0:=M) Fr.refl (.bl b)
 refine zd fun r1 hr1=>?_
 cases x with
 | non=>walk_at "ra";exact ⟨_,_,fin _,q⟩
 | bl b=>walk_at "ra";exact ⟨_,_,fin _,q⟩
 | str b=>walk_at "ra";exact ⟨_,_,fin _,q⟩
 | lst b=>walk_at "ra";exact ⟨_,_,fin _,q⟩
 | int i=>walk_at "ra";exact ⟨_,_,fin _,q⟩
 | ty _=>rw [dp] at hd;omega
 | rng _ _ _=>rw [dp] at hd;omega
 | scr _ _=>rw [dp] at hd;omega
 | tup l=>
  have hl:=hl l rfl
  walk_at "ra"
  cases l with
  | nil=>walk_at "ra";exact ⟨_,_,fin _,q⟩
  | cons w ps=>
   rw [if_neg (by rw [ba];omega)]
   subst hr1
   refine zd fun r1 hr1=>?_
   walk_at "ra"
   have a0:atI (AV.d w :: ps.map AV.d) 0=some (.d w):=by
    unfold atI
    rw [jc (by omega) (by rw [ba];omega)]
    rfl
   refine ⟨_,a0,?_⟩
   have dw:dps (w :: ps)<=39:=by rw [dp] at hd;omega
   have dwi:∀ d ∈ w :: ps,dp d<=39:=vR dw
   subst hr1
   refine zd fun r1 hr1=>?_
   have no:(∀ t,w ≠ .str t)->Q (.d (.bl false)) M:=fun h=>by
    have e:qa (.tup (w :: ps)) n=false:=by
     unfold qa
     split
     ·rename_i w' ps' z
      cases z
      exact absurd rfl (h _)
     ·rfl
    rw [e] at q;exact q
   have dpw:=dwi w bD
   cases w with
   | non=>walk_at "ra";exact ⟨_,_,fin _,no fun _ z=>nomatch z⟩
   | bl b=>walk_at "ra";exact ⟨_,_,fin _,no fun _ z=>nomatch z⟩
   | lst b=>walk_at "ra";exact ⟨_,_,fin _,no fun _ z=>nomatch z⟩
   | tup b=>walk_at "ra";exact ⟨_,_,fin _,no fun _ z=>nomatch z⟩
   | int i=>walk_at "ra";exact ⟨_,_,fin _,no fun _ z=>nomatch z⟩
   | ty _=>rw [dp] at dpw;omega
   | rng _ _ _=>rw [dp] at dpw;omega
   | scr _ _=>rw [dp] at dpw;omega
   | str t=>
    walk_at "ra"
    refine ⟨_,IV t,?_,?_⟩
    ·cases jA t <;> simp [oD,dp]
    have ee:eqD (oD (jA t)) (.int (((ps.length+1:Nat):Int) - 1))=(jA t == some (ps.length:Int)):=by
     cases jA t with
     | none=>show eqD .non (.int _)=_;rw [Aw];rfl
     | some k=>
      show eqD (.int k) (.int _)=_
      rw [y6,show ((ps.length+1:Nat):Int) - 1=ps.length by omega]
      by_cases c:k=(ps.length:Int)
      ·simp [c]
      ·simp [c]
    rw [ee]
    have q:Q (.d (.bl (jA t == some (ps.length:Int) && ps.all (qc · n)))) M:=q
    cases hp:jA t == some (ps.length:Int) with
    | false=>
     rw [if_pos rfl]
     rw [hp,Bool.false_and] at q
     exact ⟨_,_,fin _,q⟩
    | true=>
     rw [if_neg (fun z=>nomatch z)]
     rw [hp,Bool.true_and] at q
     subst hr1
     walk_at "ra"
     have ec:xb (Dat.str t :: ps) (some 1) none=ps:=by
      rw [show (some 1:Option Int)=some ((1:Nat):Int) from rfl,vf];rfl
     rw [ec]
     refine ⟨?_,?_⟩
     ·rintro ⟨z,_⟩
      unfold HT.sIx at z
      simp at z
      try omega
     refine Ah (fun (o:Option AV)=>[some (.d (.tup (.str t :: ps))),some (.d (.int n)),some (.d (.str t)),o]) (fun x=>match x with | .d d=>.d (.bl (qc d n)) | x=>x) ⟨_,rfl⟩ trivial (by rw [aw];rw [ba] at hl;omega) (fun o x Q hx q=>?_) fun o=>?_
     ·obtain ⟨d,hd,rfl⟩:=bE.mp hx
      walk_at "ra"
      exact ⟨d,n,rfl,by have:=dwi d (bj _ hd);omega,q (some (.d d))⟩
     ·refine ⟨ps.map fun d=>.bl (qc d n),by rw [aZ,<- zT (ps.map fun d=>.bl (qc d n)),aZ];rfl,ps.map (qc · n),by rw [aZ,aZ];rfl,?_⟩
      rw [mM]
      exact ⟨_,_,fin _,q⟩
theorem Vq {pa:ay}{t1 t2 t3 t4 u1 u2 u3 u4:Tok}{ep:Nat}(lP:K.lookup pa=some ⟨.type "dict",none,.dict #[⟨ia w "swap",.str "swap" t1,.int 2 u1⟩,⟨ia w "take",.str "take" t2,.int 1 u2⟩,⟨ia w "move",.str "move" t3,.int 2 u3⟩,⟨ia w "lay",.str "lay" t4,.int 1 u4⟩] ep,#[]⟩)(nP:(pa == dJ)=false):KD K w pa Ep:=by
 refine ⟨⟨_,_,lP,fun P=>?_⟩,nP⟩
 refine ⟨fun e he=>?_,[(bG "swap",.int 2 u1),(bG "take",.int 1 u2),(bG "move",.int 2 u3),(bG "lay",.int 1 u4)],?_,?_,by show ([bG (af "swap"),bG (af "take"),bG (af "move"),bG (af "lay")]:List Key).Nodup;decide +kernel⟩
 ·have he:e ∈ [_,_,_,_]:=lv.mpr he
  rcases aF.mp he with z | he
  ·exact ⟨bG "swap",by rw [z];rfl,by rw [z];rfl⟩
  rcases aF.mp he with z | he
  ·exact ⟨bG "take",by rw [z];rfl,by rw [z];rfl⟩
  rcases aF.mp he with z | he
  ·exact ⟨bG "move",by rw [z];rfl,by rw [z];rfl⟩
  rw [cj.mp he]
  exact ⟨bG "lay",rfl,rfl⟩
 ·exact .cons ⟨rfl,_,rfl⟩ (.cons ⟨rfl,_,rfl⟩ (.cons ⟨rfl,_,rfl⟩ (.cons ⟨rfl,_,rfl⟩ .nil)))
 ·exact .cons rfl rfl (.cons rfl rfl (.cons rfl rfl (.cons rfl rfl .nil)))
abbrev RS:=ES × List Int
noncomputable def jl (s:ES)(ms:List Int)(a b:Nat):Except String RS:=if a=b then .error "same" else match s.1.getD a none,s.1.getD b none with
 | some x,some y=>.ok (((s.1.set a (some y)).set b (some x),s.2),j3 (j3 ms x) y)
 | _,_=>.error "empty"
noncomputable def ji (s:ES)(ms:List Int)(a b:Nat):Except String RS:=if a=b then .error "same" else match s.1.getD b none with
 | some _=>.error "full"
 | none=>match s.1.getD a none with
  | some x=>.ok (((s.1.set a none).set b (some x),s.2),j3 ms x)
  | none=>.error "empty"
noncomputable def jt (s:ES)(ms:List Int)(a:Nat):Except String RS:=match s.2 with
 | some _=>.error "full"
 | none=>match s.1.getD a none with
  | some x=>.ok ((s.1.set a none,some x),j3 ms x)
  | none=>.error "empty"
noncomputable def kN (s:ES)(ms:List Int)(b:Nat):Except String RS:=match s.1.getD b none with
 | some _=>.error "full"
 | none=>match s.2 with
  | some x=>.ok ((s.1.set b (some x),none),j3 ms x)
  | none=>.error "empty"
noncomputable def iN:Dat->Nat
 | .int i=>i.toNat
 | _=>0
noncomputable def doR (s:ES)(ms:List Int)(x:Dat):Except String RS:=if qa x s.1.length=true then (match x with
  | .tup (.str w :: ps)=>if w=af "swap" then jl s ms (iN (ps.getD 0 .non)) (iN (ps.getD 1 .non)) else if w=af "take" then jt s ms (iN (ps.getD 0 .non)) else if w=af "move" then ji s ms (iN (ps.getD 0 .non)) (iN (ps.getD 1 .non)) else kN s ms (iN (ps.getD 0 .non))
  | _=>.error "form") else .error "form"
theorem xS {x:Dat} (h:qa x n=true):∃ (w:Str) (ps:List Dat),x=.tup (.str w :: ps)/\jA w=some (ps.length:Int)/\∀ d ∈ ps,∃ k:Nat,d=.int k/\k<n:=by
 unfold qa at h
 split at h
 ·rename_i w ps
  rw [dj] at h
  refine ⟨w,ps,rfl,eq_of_beq h.1,fun d hd=>?_⟩
  have:=eE.mp h.2 d hd
  cases d with
  | int i=>
   have:decide (0<=i/\i<(n:Int))=true:=this
   have:=of_decide_eq_true this
   exact ⟨i.toNat,by rw [Int.toNat_of_nonneg this.1],by omega⟩
  | _=>cases this
 ·cases h
theorem yJ {w:Str}{ps:List Dat}{n:Nat}(h:jA w=some (ps.length:Int))(hp:∀ d ∈ ps,∃ k:Nat,d=.int k/\k<n)(hw:w=af "swap" \/ w=af "move"):∃ a b:Nat,ps=[.int a,.int b]/\a<n/\b<n:=by
 have e:jA w=some 2:=by rcases hw with rfl | rfl <;> rfl
 rw [e] at h
 have hl:ps.length=2:=by injection h with h;omega
 match ps,hl with
 | [x,y],_=>
  obtain ⟨a,rfl,ha⟩:=hp x (by simp)
  obtain ⟨b,rfl,hb⟩:=hp y (by simp)
  exact ⟨a,b,rfl,ha,hb⟩
theorem vc {w:Str} (h:jA w=some (ps.length:Int))(hp:∀ d ∈ ps,∃ k:Nat,d=.int k/\k<n)(h1:w ≠ af "swap")(h2:w ≠ af "move"):∃ a:Nat,ps=[.int a]/\a<n:=by
 have e:jA w=some 1 \/ jA w=none:=by
  unfold jA
  rw [if_neg h1]
  by_cases c:w=af "take"
  ·rw [if_pos c];exact .inl rfl
  rw [if_neg c,if_neg h2]
  by_cases c:w=af "lay"
  ·rw [if_pos c];exact .inl rfl
  rw [if_neg c];exact .inr rfl
 rcases e with e | e <;> rw [e] at h
 ·have hl:ps.length=1:=by injection h with h;omega
  match ps,hl with
  | [x],_=>
   obtain ⟨a,rfl,ha⟩:=hp x (by simp)
   exact ⟨a,rfl,ha⟩
 ·cases h
noncomputable def aDo (C cB:ay):xo:=fun xs M Q E=>∃ (p rw_ mv:ay) (s:ES) (ms:List Int) (x:Dat),xs=[.ref p,.d x]/\zV C M p rw_ mv s ms/\OkM s ms.length/\dp x<=40/\(∀ l,x=.tup l->l.length<=1000) /\
 (∀ w,doR s ms x=.error w->E cB (wrd w) M)/\(∀ t,doR s ms x=.ok t->Q (.d .non) (rmP C M p rw_ mv t.1 t.2))
noncomputable abbrev LA:cg:=(qM (top 14) 1)
theorem GS:zr ["self","thing","word"] ["self","thing"] (zg LA):=⟨rfl,rfl,rfl,by decide +kernel,rfl,by decide +kernel,by decide +kernel⟩
theorem Hx {C:ay}(a:AtM K C "do" "Room.do" LA)(R:RTx K C)(B:Blt mg){cBadDeed:ay}(MX_BadDeed:MkX P w K mg base cBadDeed 3 1 fnW)(XG_BadDeed:mg "BadDeed"=some (.ref cBadDeed))(D_is_deed:Df P w K mg base "is_deed" ["thing","n"] 4 (cSp Ya))(DM_swap:DmX P w K mg base C "swap" ["self","a","b"] 4 (jk (GA C cBadDeed)))(DM_take:DmX P w K mg base C "take" ["self","a"] 4 (jk (Bv C cBadDeed)))(DM_move:DmX P w K mg base C "move" ["self","a","b"] 4 (jk (GZ C cBadDeed)))(DM_lay:DmX P w K mg base C "lay" ["self","b"] 4 (jk (LZ C cBadDeed))):DmX P w K mg base C "do" ["self","thing"] 5 (jk (aDo C cBadDeed)):=by
 refine Vm (k:=4) a GS (fun _ _ _ _ _ _=>Pn2_ fun _ _=>rfl) (fun xs M Q E h=>?_) (fun f cdv A outer s H HX OX MX E1 hr hD=>?_)
 ·obtain ⟨_,_,_,_,_,_,rfl,_⟩:=h;rfl
 have sc:=GS
 have hsl:=hsl
 have CL:=R.cl
 refine ⟨_,(zc (zN (qJ (qp (zO D_is_deed hr rfl (za (pv 1) (za (zn zv rfl B.len qd (za (qg (pv 0) rfl) zb)) zb))) (fun _=>rfl))) (ze (qC hD rfl MX_BadDeed hr rfl XG_BadDeed (za zm zb))) zw)
  (zc (zE (i:=2) sc.nd rfl (by first | exact aV rfl | exact aW rfl) (zu zB (pv 1) zh (fun _ _=>rfl)))
  (ze (zN (zo (zY hr.units) (pv 2) zm (zq _)) (ze (qB (kB CL DM_swap hr hD.passX (pv 0) (za (zu zB (pv 1) zh (fun _ _=>rfl)) (za (zu zB (pv 1) zh (fun _ _=>rfl)) zb))))) (ze (zN (zo (zY hr.units) (pv 2) zm (zq _)) (ze (qB (kB CL DM_take hr hD.passX (pv 0) (za (zu zB (pv 1) zh (fun _ _=>rfl)) zb)))) (ze (zN (zo (zY hr.units) (pv 2) zm (zq _)) (ze (qB (kB CL DM_move hr hD.passX (pv 0) (za (zu zB (pv 1) zh (fun _ _=>rfl)) (za (zu zB (pv 1) zh (fun _ _=>rfl)) zb))))) (ze (qB (kB CL DM_lay hr hD.passX (pv 0) (za (zu zB (pv 1) zh (fun _ _=>rfl)) zb)))))))))))),?_⟩
 refine exX (by walk_at "sim") ?_
 rintro xs Q E0 rfl ⟨p,rw_,mv,⟨row,hd⟩,ms,x,rfl,r,ok,hdp,hl,qe,q⟩
 rw [show zM ["self","thing","word"] [.ref p,.d x]=[some (.ref p),some (.d x),none] from rfl]
 refine zd fun r1 hr1=>?_
 walk_at "ra"
 refine ⟨_,_,r.ins,R.cl,R.nr,_,rfl,_,zF r.row,x,row.length,by rw [aw],hdp,hl,_,rfl,?_⟩
 cases hf:qa x row.length with
 | false=>
  rw [if_pos rfl]
  exact rz (qD Fr.refl .non) (qe "form" (by unfold doR;rw [if_neg (by show ¬ qa x row.length=true;rw [hf];exact fun z=>nomatch z)]))
 | true=>
  rw [if_neg (fun z=>nomatch z)]
  obtain ⟨w,ps,rfl,hpl,hps⟩:=xS hf
  have ed:doR (row,hd) ms (.tup (.str w :: ps))=if w=af "swap" then jl (row,hd) ms (iN (ps.getD 0 .non)) (iN (ps.getD 1 .non)) else if w=af "take" then jt (row,hd) ms (iN (ps.getD 0 .non)) else if w=af "move" then ji (row,hd) ms (iN (ps.getD 0 .non)) (iN (ps.getD 1 .non)) else kN (row,hd) ms (iN (ps.getD 0 .non)):=by
   unfold doR;rw [if_pos (show qa (.tup (.str w :: ps)) row.length=true from hf)]
  rw [ed] at qe q
  subst hr1
  refine zd fun r1 hr1=>?_
  walk_at "ra"
  have a0:atI (AV.d (.str w) :: ps.map AV.d) 0=some (.d (.str w)):=by
   unfold atI
   rw [jc (by omega) (by rw [ba];omega)]
   rfl
  refine ⟨_,a0,?_⟩
  subst hr1
  walk_at "ra"
  have f0:=qD (M0:=MX) Fr.refl .non
  by_cases w1:w=af "swap"
  ·rw [if_pos w1] at qe q ⊢
   obtain ⟨a,b,rfl,ha,hb⟩:=yJ hpl hps (.inl w1)
   have qe:∀ w,jl (row,hd) ms a b=.error w->E0 cBadDeed (wrd w) MX:=qe
   have q:∀ t,jl (row,hd) ms a b=.ok t->Q (.d .non) (rmP C MX p rw_ mv t.1 t.2):=q
   refine ⟨_,r.ins,rfl,_,rfl,_,rfl,p,rw_,mv,(row,hd),ms,a,b,rfl,r,ha,hb,ok,fun hab=>⟨_,f0,qe "same" (by unfold jl;rw [if_pos hab])⟩,fun hab hh=>⟨_,f0,qe "empty" ?_⟩,fun hab x y hx hy=>⟨_,_,r.fin _ _ .non,q (_,_) ?_⟩⟩
   ·unfold jl
    rw [if_neg hab]
    dsimp only at hh ⊢
    rcases hh with hh | hh
    ·rw [hh]
    ·rw [hh];cases row.getD a none <;> rfl
   ·unfold jl
    rw [if_neg hab]
    dsimp only at hx hy ⊢
    rw [hx,hy];rfl
  rw [if_neg w1] at qe q ⊢
  by_cases w2:w=af "take"
  ·rw [if_pos w2] at qe q ⊢
   obtain ⟨a,rfl,ha⟩:=vc hpl hps w1 (by rw [w2];decide +kernel)
   have qe:∀ w,jt (row,hd) ms a=.error w->E0 cBadDeed (wrd w) MX:=qe
   have q:∀ t,jt (row,hd) ms a=.ok t->Q (.d .non) (rmP C MX p rw_ mv t.1 t.2):=q
   refine ⟨_,r.ins,rfl,_,rfl,p,rw_,mv,(row,hd),ms,a,rfl,r,ha,ok,fun hh=>⟨_,f0,qe "full" ?_⟩,fun hh hx=>⟨_,f0,qe "empty" ?_⟩,fun hh x hx=>⟨_,_,r.fin _ _ .non,q (_,_) ?_⟩⟩
   ·unfold jt
    cases hd with
    | none=>exact absurd rfl hh
    | some y=>rfl
   ·unfold jt
    dsimp only at hh hx ⊢
    rw [hh];dsimp only;rw [hx]
   ·unfold jt
    dsimp only at hh hx ⊢
    rw [hh];dsimp only;rw [hx];rfl
  rw [if_neg w2] at qe q ⊢
  by_cases w3:w=af "move"
  ·rw [if_pos w3] at qe q ⊢
   obtain ⟨a,b,rfl,ha,hb⟩:=yJ hpl hps (.inr w3)
   have qe:∀ w,ji (row,hd) ms a b=.error w->E0 cBadDeed (wrd w) MX:=qe
   have q:∀ t,ji (row,hd) ms a b=.ok t->Q (.d .non) (rmP C MX p rw_ mv t.1 t.2):=q
   refine ⟨_,r.ins,rfl,_,rfl,_,rfl,p,rw_,mv,(row,hd),ms,a,b,rfl,r,ha,hb,ok,fun hab=>⟨_,f0,qe "same" (by unfold ji;rw [if_pos hab])⟩,fun hab hh=>⟨_,f0,qe "full" ?_⟩,fun hab hb' hx=>⟨_,f0,qe "empty" ?_⟩,fun hab hb' x hx=>⟨_,_,r.fin _ _ .non,q (_,_) ?_⟩⟩
   ·unfold ji
    rw [if_neg hab]
    dsimp only at hh ⊢
    cases z:row.getD b none with
    | none=>exact absurd z hh
    | some y=>rfl
   ·unfold ji
    rw [if_neg hab]
    dsimp only at hb' hx ⊢
    rw [hb'];dsimp only;rw [hx]
   ·unfold ji
    rw [if_neg hab]
    dsimp only at hb' hx ⊢
    rw [hb'];dsimp only;rw [hx];rfl
  rw [if_neg w3] at qe q ⊢
  obtain ⟨b,rfl,hb⟩:=vc hpl hps w1 w3
  have qe:∀ w,kN (row,hd) ms b=.error w->E0 cBadDeed (wrd w) MX:=qe
  have q:∀ t,kN (row,hd) ms b=.ok t->Q (.d .non) (rmP C MX p rw_ mv t.1 t.2):=q
  refine ⟨_,r.ins,rfl,_,rfl,p,rw_,mv,(row,hd),ms,b,rfl,r,hb,ok,fun hh=>⟨_,f0,qe "full" ?_⟩,fun hh hx=>⟨_,f0,qe "empty" ?_⟩,fun hh x hx=>⟨_,_,r.fin _ _ .non,q (_,_) ?_⟩⟩
  ·unfold kN
   dsimp only at hh ⊢
   cases z:row.getD b none with
   | none=>exact absurd z hh
   | some y=>rfl
  ·unfold kN
   dsimp only at hh hx ⊢
   rw [hh];dsimp only;rw [hx]
  ·unfold kN
   dsimp only at hh hx ⊢
   rw [hh];dsimp only;rw [hx];rfl
theorem Gq (c:Option Int):cA c=.d (oD c):=by cases c <;> rfl
theorem EY (row:List (Option Int)):pur (row.map cA)=some (row.map oD):=by
 rw [show row.map cA=(row.map oD).map AV.d by rw [aZ];exact fC fun c _=>Gq c,zT]
noncomputable def Wy (C:ay):ASp:=fun xs M Q=>∃ (p rw_ mv:ay) (s:ES) (ms:List Int),xs=[.ref p]/\zV C M p rw_ mv s ms/\s.1.length<=1000/\Q (.d (.tup (s.1.map oD))) M
noncomputable abbrev Xc:cg:=(qM (top 14) 7)
theorem Xw:zr ["self"] ["self"] (zg Xc):=⟨rfl,rfl,rfl,by decide +kernel,rfl,by decide +kernel,by decide +kernel⟩
theorem Fj (a:AtM K C "row_now" "Room.row_now" Xc)(R:RTx K C)(B:Blt mg):Dm P w K mg base C "row_now" ["self"] 1 (cSp (Wy C)):=by
 refine dmA (k:=0) a Xw (fun _ _ _ _ _ _=>Pn1_ fun _=>rfl) (fun xs M Q h=>?_) (fun f cdv A outer s H E hr=>?_)
 ·obtain ⟨_,_,_,_,_,rfl,_⟩:=h;rfl
 have sc:=Xw
 have hsl:=hsl
 have CL:=R.cl
 refine ⟨_,(ze (zA (zH ql rfl B.tuple qz (za (qg (pv 0) rfl) zb)))),?_⟩
 refine ex2 (by walk_at "sim") ?_
 rintro xs M Q ⟨p,rw_,mv,⟨row,hd⟩,ms,rfl,r,hl,q⟩
 rw [show zM ["self"] [.ref p]=[some (.ref p)] from rfl]
 walk_at "ra"
 refine ⟨_,_,r.ins,R.cl,R.nr,_,rfl,_,zF r.row,_,EY _,?_⟩
 exact ⟨_,_,qD Fr.refl _,q⟩
noncomputable def A2 (C:ay):ASp:=fun xs M Q=>∃ (p rw_ mv:ay) (s:ES) (ms:List Int),xs=[.ref p]/\zV C M p rw_ mv s ms/\ms.length<=1000/\Q (.d (.tup (ms.map .int))) M
noncomputable abbrev Xa:cg:=(qM (top 14) 9)
theorem YC:zr ["self"] ["self"] (zg Xa):=⟨rfl,rfl,rfl,by decide +kernel,rfl,by decide +kernel,by decide +kernel⟩
theorem Fh (a:AtM K C "moved_now" "Room.moved_now" Xa)(R:RTx K C)(B:Blt mg):Dm P w K mg base C "moved_now" ["self"] 1 (cSp (A2 C)):=by
 refine dmA (k:=0) a YC (fun _ _ _ _ _ _=>Pn1_ fun _=>rfl) (fun xs M Q h=>?_) (fun f cdv A outer s H E hr=>?_)
 ·obtain ⟨_,_,_,_,_,rfl,_⟩:=h;rfl
 have sc:=YC
 have hsl:=hsl
 have CL:=R.cl
 refine ⟨_,(ze (zA (zH ql rfl B.tuple qz (za (qg (pv 0) rfl) zb)))),?_⟩
 refine ex2 (by walk_at "sim") ?_
 rintro xs M Q ⟨p,rw_,mv,⟨row,hd⟩,ms,rfl,r,hl,q⟩
 rw [show zM ["self"] [.ref p]=[some (.ref p)] from rfl]
 walk_at "ra"
 refine ⟨_,_,r.ins,R.cl,R.nm,_,rfl,_,zF r.mvd,_,qV _,?_⟩
 exact ⟨_,_,qD Fr.refl _,q⟩
noncomputable def AH (C:ay):ASp:=fun xs M Q=>∃ (p rw_ mv:ay) (s:ES) (ms:List Int),xs=[.ref p]/\zV C M p rw_ mv s ms/\Q (.d (oD s.2)) M
noncomputable abbrev Kx:cg:=(qM (top 14) 8)
theorem Yd:zr ["self"] ["self"] (zg Kx):=⟨rfl,rfl,rfl,by decide +kernel,rfl,by decide +kernel,by decide +kernel⟩
theorem ET (a:AtM K C "hand_now" "Room.hand_now" Kx)(R:RTx K C)(B:Blt mg):Dm P w K mg base C "hand_now" ["self"] 1 (cSp (AH C)):=by
 refine dmA (k:=0) a Yd (fun _ _ _ _ _ _=>Pn1_ fun _=>rfl) (fun xs M Q h=>?_) (fun f cdv A outer s H E hr=>?_)
 ·obtain ⟨_,_,_,_,_,rfl,_⟩:=h;rfl
 have sc:=Yd
 have hsl:=hsl
 have CL:=R.cl
 refine ⟨_,(ze (zA (qg (pv 0) rfl))),?_⟩
 refine ex2 (by walk_at "sim") ?_
 rintro xs M Q ⟨p,rw_,mv,⟨row,hd⟩,ms,rfl,r,q⟩
 rw [show zM ["self"] [.ref p]=[some (.ref p)] from rfl]
 walk_at "ra"
 refine ⟨_,_,r.ins,R.cl,R.nh,_,rfl,?_⟩
 rw [Gq]
 exact ⟨_,_,qD Fr.refl _,q⟩
theorem JF {s':ES}{ms':List Int}(t:zV C (rmP C M p rw_ mv s' ms') p rw_ mv s' ms')(d:Dat):vG M (rmP C M p rw_ mv s' ms') (.d d) (.d d) (rmP C M p rw_ mv s' ms'):=by
 refine ⟨fun q=>.inl rfl,fun q o e=>?_,.inl ⟨rfl,fun p z=>nomatch z⟩⟩
 by_cases c1:q=mv
 ·rw [c1,t.mvd] at e
  cases e
  exact .inr fun z hz=>absurd hz (yG (ds:=ms'.map .int) (qV _) z)
 ·by_cases c2:q=rw_
  ·rw [c2,t.row] at e
   cases e
   refine .inr fun z hz=>?_
   obtain ⟨y,hy,hz⟩:=(show ∃ x ∈ s'.1.map cA,x.Has z from hz)
   obtain ⟨x,_,rfl⟩:=bE.mp hy
   cases x <;> exact (show False from hz).elim
  ·by_cases c3:q=p
   ·rw [c3,t.ins] at e
    cases e
    refine .inr fun z hz=>?_
    obtain ⟨y,hy,hz⟩:=(show ∃ x ∈ [AV.ref rw_,cA s'.2,AV.ref mv],x.Has z from hz)
    simp only [aF,aN,or_false] at hy
    rcases hy with rfl | rfl | rfl
    ·obtain rfl:rw_=z:=hz
     rw [t.row];exact fun z=>nomatch z
    ·cases h:s'.2 <;> rw [h] at hz <;> exact (show False from hz).elim
    ·obtain rfl:mv=z:=hz
     rw [t.mvd];exact fun z=>nomatch z
   ·refine .inl ?_
    unfold rmP at e
    rw [zi c1,zi c2,zi c3] at e
    exact e
theorem V3 {a b y:AV}:jT (af "moved") y [(af "row",a),(af "hand",b)]=[(af "row",a),(af "hand",b),(af "moved",y)]:=by
 unfold jT;rw [if_neg (by decide +kernel)];unfold jT;rw [if_neg (by decide +kernel)];unfold jT;rfl
noncomputable def Zg (C:ay):ASp:=fun xs M Q=>∃ (p:ay) (n:Nat),xs=[.ref p,.d (.int n)]/\M p=some (.ins C [])/\n<=1000 /\
 ∀ rw_ mv,M rw_=none->M mv=none->rw_ ≠ mv->rw_ ≠ p->mv ≠ p->Q (.d .non) (rmP C M p rw_ mv ((z0 0 1 n).map some,none) (aH n 0))
noncomputable abbrev ZY:cg:=(qM (top 14) 0)
theorem JD:zr ["self","n"] ["self","n"] (zg ZY):=⟨rfl,rfl,rfl,by decide +kernel,rfl,by decide +kernel,by decide +kernel⟩
theorem JO (a:AtM K C "__init__" "Room.__init__" ZY)(R:RTx K C)(B:Blt mg):Dm P w K mg base C "__init__" ["self","n"] 1 (cSp (Zg C)):=by
 refine dmA (k:=0) a JD (fun _ _ _ _ _ _=>Pn2_ fun _ _=>rfl) (fun xs M Q h=>?_) (fun f cdv A outer s H E hr=>?_)
 ·obtain ⟨_,_,rfl,_⟩:=h;rfl
 have sc:=JD
 have hsl:=hsl
 have CL:=R.cl
 refine ⟨_,(zc (xj (pv 0) (qX (zH (jh rfl) rfl B.list qy (za (zH jI rfl B.range xt (za (pv 1) zb)) zb))) rfl)
  (zc (xj (pv 0) zI rfl)
  (ze (xj (pv 0) (qX (zL yM (zR (za zh zb)) (pv 1))) rfl)))),?_⟩
 refine ex2 (by walk_at "sim") ?_
 rintro xs M Q ⟨p,n,rfl,hp,hn,q⟩
 rw [show zM ["self","n"] [.ref p,.d (.int n)]=[some (.ref p),some (.d (.int n))] from rfl]
 refine zd fun r1 hr1=>?_
 walk_at "ra"
 refine ⟨_,_,_,rfl,iF (by omega) (by omega) (by omega) (by omega),n,by rw [fE];split <;> omega,by omega,fun rw_ hrw _=>?_⟩
 have np:p ≠ rw_:=fun z=>by rw [z,hrw] at hp;cases hp
 refine ⟨C,[],by rw [zi np];exact hp,R.cl,R.nr,d9 rfl,?_⟩
 subst hr1
 refine zd fun r1 hr1=>?_
 walk_at "ra"
 refine ⟨_,_,zf,R.cl,R.nh,d9 rfl,?_⟩
 subst hr1
 walk_at "ra"
 rw [if_neg (show ¬ af "row"=af "hand" by decide +kernel)]
 refine ⟨by omega,by omega,by omega,by omega,fun mv hmv _=>?_⟩
 have n1:mv ≠ p:=fun z=>by rw [z,zf] at hmv;cases hmv
 rw [zi n1] at hmv
 have n2:mv ≠ rw_:=fun z=>by rw [z,zf] at hmv;cases hmv
 rw [zi n2] at hmv
 refine ⟨C,_,by rw [zi (Ne.symm n1),zf],R.cl,R.nm,d9 rfl,?_⟩
 rw [V3,BO,bp]
 have e1:(MO.lst ((z0 0 1 n).map fun i=>AV.d (.int i)))=Vl ((z0 0 1 n).map some):=by show MO.lst _=MO.lst _;rw [aZ];rfl
 have e2:MO.lst (aH n (AV.d (.int 0)))=msA (aH n 0):=by show MO.lst _=MO.lst _;rw [fP]
 rw [e1,e2]
 have em:∀ (x y:MO),mup (mup (mup (mup M rw_ (Vl ((z0 0 1 n).map some))) p x) mv (msA (aH n 0))) p (BF C rw_ mv none)=rmP C M p rw_ mv ((z0 0 1 n).map some,none) (aH n 0):=fun x _=>by
  funext b
  unfold rmP mup
  by_cases c1:b=mv
  ·have:¬ b=p:=fun z=>n1 (c1.symm.trans z)
   simp [c1,n1]
  ·by_cases c2:b=rw_
   ·have:¬ b=p:=fun z=>np (z.symm.trans c2)
    simp [c1,c2,Ne.symm np,Ne.symm n2]
   ·by_cases c3:b=p <;> simp [c1,c2,c3,np,Ne.symm n1]
 show rtA M Q (.d .non) (mup (mup (mup (mup M rw_ (Vl ((z0 0 1 n).map some))) p _) mv (msA (aH n 0))) p (BF C rw_ mv none))
 rw [em _ (.lst [])]
 have t:zV C (rmP C M p rw_ mv ((z0 0 1 n).map some,none) (aH n 0)) p rw_ mv ((z0 0 1 n).map some,none) (aH n 0):=by
  unfold rmP
  exact ⟨by rw [zi (Ne.symm n1),zi np,zf],by rw [zi (Ne.symm n2),zf],zf,Ne.symm n2⟩
 exact ⟨_,_,JF t .non,q rw_ mv hrw hmv (Ne.symm n2) (Ne.symm np) n1⟩
theorem MkX.mono {j k n:Nat}{fn:List V->List (Str × V)}(m:MkX P w K mg base C j n fn)(h:j<=k):MkX P w K mg base C k n fn:=
 let ⟨f,fd,ps,q,F,r⟩:=m
 ⟨f,fd,ps,q,F.mono h,r⟩
noncomputable abbrev wL:cg:=(qM (top 4) 0)
theorem ZL:zr ["self","word"] ["self","word"] (zg wL):=⟨rfl,rfl,rfl,by decide +kernel,rfl,by decide +kernel,by decide +kernel⟩
theorem IY {C f:ay}{fd:df}(F:Fun K "__init__" "BadDeed.__init__" wL f fd)(q:jF K C yW "ValueError.__new__" f=true)(hf:cQ K (.ref f)=true)(S:xV K C "word"):MkX P w K mg base C 1 1 fnW:=by
 refine Xn (k:=0) F ZL (fun _ _ _ _ _ _=>Pn2_ fun _ _=>rfl) q hf rfl (fun cdv A outer s H E=>?_)
 have sc:=ZL
 refine ⟨_,(ze (xP (pv 0) (pv 1) rfl)),?_⟩
 intro a t0 us Q hl ha hq
 match us,hl with
 | [v],_=>
  show ZC _ _ _ _ _ _ _
  refine ⟨v,rfl,.ref a,rfl,a,C,t0,rfl,S,.inl ⟨ha,fun dx hd hne=>hq dx hd hne⟩⟩
noncomputable def ZK:ASp:=fun xs M Q=>∃ (b:ay) (many:Int) (N:Nat),xs=[.ref b,.d (.int many)]/\BxM M b N/\N<1000000000/\0<many/\many<1073741824/\∀ r M',BxS M M' b (N+1)->0<=r->r<many->Q (.d (.int r)) M'
theorem FS (vs:List V)(H:Hp)(Q:VK)(E:XK)(h:cSp ZK vs H Q E):KB vs H Q E:=by
 obtain ⟨xs,M,O,Q',w,r,⟨b,many,N,rfl,hb,h1,h2,h3,q⟩,k⟩:=h
 obtain ⟨v,u,rfl,rv,ru⟩:=xZ r
 rw [zX ru,rv.1]
 refine ⟨b,many,N,rfl,hb.bx w,h1,h2,h3,fun r H' kp hb' r0 r1=>?_⟩
 obtain ⟨M',s,e,w'⟩:=BV w hb kp hb'
 exact k _ _ _ _ _ (q r M' s r0 r1) e w' .int
noncomputable def Mz:ASp:=fun xs M Q=>∃ (x:AV) (k:Int) (cs:List Int),xs=[x,.d (.int k)]/\qv x M=some (cs.map fun i=>.d (.int i))/\0<=k/\k<=1000/\cs.length<=1000/\∀ p o,M p=none->BxM (mup M p o) p 0->Q (.ref p) (mup M p o)
theorem Io (vs:List V)(H:Hp)(Q:VK)(E:XK)(h:cSp Mz vs H Q E):GU vs H Q E:=by
 obtain ⟨xs,M,O,Q',w,r,⟨x,n,cs,rfl,hx,h1,h2,h3,q⟩,k⟩:=h
 obtain ⟨v,u,rfl,rv,ru⟩:=xZ r
 rw [zX ru]
 obtain ⟨a,rfl,ha⟩:=AM w rv hx
 refine ⟨a,n,cs,rfl,ha,h1,h2,h3,fun p H' kp hp hb'=>?_⟩
 obtain ⟨x',y',z',g1,g2⟩:=hb'
 obtain ⟨e1,w1⟩:=WU w kp
 have fr:=w.fresh hp
 have e2:=Ext.owned (O':=yf O p) (p:=p) w ⟨fun a o h e=>⟨(e1.fix a o h e).1,fun z=>z.elim (zp e hp) h⟩,fun a h e=>⟨(e1.prv a h e).1,.inr h,e⟩,fun _ h=>h⟩ hp (.lst ([x',y',z'].map fun i=>.d (.int i)))
 refine k _ _ _ _ _ (q p _ fr.2 ⟨x',y',z',zf,g2⟩) e2 (JH (O:=yf O p) (xs:=[V.int x',V.int y',V.int z']) ⟨fun a o h=>?_,fun a h=>.inr (w1.own a h),fun a h=>?_⟩ (.inl rfl) fr.2 g1 (K1 [x',y',z'])) ⟨rfl,by rw [zf];exact fun z=>nomatch z⟩
 ·have e3:Ext H O M H' (yf O p) M:=⟨fun a o h e=>⟨(e1.fix a o h e).1,fun z=>z.elim (zp e hp) h⟩,fun a h e=>⟨(e1.prv a h e).1,.inr h,e⟩,fun _ h=>h⟩
  refine jm.ext e3 ?_ (w.mo a o h)
  obtain ⟨u,hu,_⟩:=w.al a (w.own a (zU h))
  rw [hu];exact kp a u (by simp) hu
 ·rcases h with rfl | h
  ·exact ⟨_,g1,fun xs z=>nomatch z⟩
  ·exact w1.al a h
noncomputable def X3 (K:aA):ASp:=fun xs M Q=>∃ (m:Int) (ns:List Int),xs=[.d (.scr K ns),.d (.int m)]/\0<m/\m<=60/\ns.length<=63/\∀ cs:List Int,cs.length<=1000->Q (.d (.lst (cs.map .int))) M
theorem YX (vs:List V)(H:Hp)(Q:VK)(E:XK)(h:cSp (X3 K) vs H Q E):Q1 K vs H Q E:=by
 obtain ⟨xs,M,O,Q',w,r,⟨m,ns,rfl,h1,h2,h3,q⟩,k⟩:=h
 obtain ⟨v,u,rfl,rv,ru⟩:=xZ r
 rw [zX ru]
 obtain ⟨a,rfl,ha⟩:=Fd rv
 refine ⟨a,m,ns,rfl,ha,h1,h2,h3,fun p H' cs kp hp hc lc=>?_⟩
 obtain ⟨e1,w1⟩:=WU w kp
 exact k _ _ _ _ _ (q cs lc) e1 w1 (DC (w.fresh hp).1 hc)
noncomputable def YI:ASp:=fun xs M Q=>∃ (b:ay) (m:Int) (N:Nat),xs=[.ref b,.d (.int m)]/\BxM M b N/\N<100000000/\24<=m/\m<=1000/\∀ r M',BxS M M' b (N+10)->0<=r->r<=m->Q (.d (.int r)) M'
theorem VJ (vs:List V)(H:Hp)(Q:VK)(E:XK)(h:cSp YI vs H Q E):Jk vs H Q E:=by
 obtain ⟨xs,M,O,Q',w,r,⟨b,many,N,rfl,hb,h1,h2,h3,q⟩,k⟩:=h
 obtain ⟨v,u,rfl,rv,ru⟩:=xZ r
 rw [zX ru,rv.1]
 refine ⟨b,many,N,rfl,hb.bx w,h1,h2,h3,fun r H' kp hb' r0 r1=>?_⟩
 obtain ⟨M',s,e,w'⟩:=BV w hb kp hb'
 exact k _ _ _ _ _ (q r M' s r0 r1) e w' .int
def OkX (x:Dat):Prop:=dp x<=40/\∀ l,x=.tup l->l.length<=1000
def OkP (x:Dat):Prop:=dp x<=41/\∀ l,(x=.tup l \/ x=.lst l)->l.length<=1000/\∀ d ∈ l,OkX d
structure OkS (x:Dat):Prop where
 d:dp x<=5
 s:Sh 500 x
 p:OkP x
noncomputable def dD:De->Dat
 | .swap a b=>.tup [.str (af "swap"),.int (a:Int),.int (b:Int)]
 | .take p=>.tup [.str (af "take"),.int (p:Int)]
 | .move p g=>.tup [.str (af "move"),.int (p:Int),.int (g:Int)]
 | .lay g=>.tup [.str (af "lay"),.int (g:Int)]
noncomputable def XE:ASp:=fun xs M Q=>∃ (d:De) (st st':ES),xs=[.d (.lst (st.1.map oD)),.d (oD st.2),.d (dD d)]/\DoE d st st'/\st.1.length<=1000/\Q (.d (.tup [.lst (st'.1.map oD),oD st'.2])) M
noncomputable abbrev MV (row:List (Option Int)):MO:=.lst ((row.map oD).map AV.d)
theorem kD {a:Nat}{c:Option Int}(h:row[a]?=some c):atI ((row.map oD).map AV.d) (a:Int)=some (.d (oD c))/\ixN ((row.map oD).map AV.d).length (a:Int)=some a:=by
 have hl:a<row.length:=(aG.mp h).1
 have e:ixN ((row.map oD).map AV.d).length (a:Int)=some a:=by rw [aw,aw,jc (by omega) (by omega),bp]
 refine ⟨?_,e⟩
 unfold atI
 rw [e]
 show ((row.map oD).map AV.d)[a]?=_
 rw [aK,aK,h];rfl
theorem j5 (row:List (Option Int))(a:Nat)(c:Option Int):((row.map oD).map AV.d).set a (.d (oD c))=((row.set a c).map oD).map AV.d:=by rw [gi,gi]
theorem E4 {t u:AS} {v:AS}(h:∀ r,r=t->yj (vE c r u) v B D ρ M):yj (vE c t u) v B D ρ M:=h t rfl
theorem xK {t:AS} (h:∀ D',D'=D->t B D' ρ M):t B D ρ M:=h D rfl
theorem jO {i:Nat}{w w':Str} {t r:AS} (hρ:ρ[i]?=some (some (.d (.tup (.str w :: ps)))))(hw:decide (w=w')=false)(h:r B D ρ M):yj (vE (aB (aOp (Ze id) (aOp (aIx qF) (qS i) (aC (.int 0))) (aC (.str w')))) t kP) r B D ρ M:=by
 refine ⟨_,hρ,_,0,.d (.str w),rfl,rfl,?_,?_⟩
 ·unfold atI;rw [jc (by omega) (by rw [aw,ba];omega)];rfl
 ·refine ⟨_,_,rfl,rfl,by rw [zZ];omega,by rw [zZ];omega,_,rfl,?_⟩
  show (if id (eqD (.str w) (.str w'))=true then _ else _)
  rw [qo,hw]
  exact h
theorem vV {i:Nat}{w w':Str} {t r:AS} (hρ:ρ[i]?=some (some (.d (.tup (.str w :: ps)))))(hw:decide (w=w')=true)(h:t B { nx:=fun ρ' M'=>r B D ρ' M',rt:=D.rt,bk:=D.bk,ct:=D.ct } ρ M):yj (vE (aB (aOp (Ze id) (aOp (aIx qF) (qS i) (aC (.int 0))) (aC (.str w')))) t kP) r B D ρ M:=by
 refine ⟨_,hρ,_,0,.d (.str w),rfl,rfl,?_,?_⟩
 ·unfold atI;rw [jc (by omega) (by rw [aw,ba];omega)];rfl
 ·refine ⟨_,_,rfl,rfl,by rw [zZ];omega,by rw [zZ];omega,_,rfl,?_⟩
  show (if id (eqD (.str w) (.str w'))=true then _ else _)
  rw [qo,hw]
  exact h
noncomputable abbrev Xd:cg:=top 26
theorem Xo:zr ["_law_row","_law_hand","_law_deed_here","_law_one","_law_other"] ["_law_row","_law_hand","_law_deed_here"] (zg Xd):=⟨rfl,rfl,rfl,by decide +kernel,rfl,by decide +kernel,by decide +kernel⟩
theorem FJ (a:At K mg "_law_done" Xd)(B:Blt mg):Df P w K mg base "_law_done" ["_law_row","_law_hand","_law_deed_here"] 1 (cSp XE):=by
 refine dfA (k:=0) a Xo (fun _ _ _ _ _ _=>Pn3_ fun _ _ _=>rfl) (fun xs M Q h=>?_) (fun f cdv A outer s H E hr=>?_)
 ·obtain ⟨_,_,_,rfl,_⟩:=h;rfl
 have sc:=Xo
 have hsl:=hsl
 refine ⟨_,(zc (zE (i:=0) sc.nd rfl (by first | exact aV rfl | exact aW rfl) (qX (zH qZ rfl B.list qy (za (pv 0) zb))))
  (zc (zN (zo (zY hr.units) (zu zB (pv 2) zh (fun _ _=>rfl)) zm (zq _)) (zc (KA (i:=3) (j:=4) rfl sc.nd rfl rfl (by decide) rfl rfl (za (zu zB (pv 0) (zu zB (pv 2) zh (fun _ _=>rfl)) (fun _ _=>rfl)) (za (zu zB (pv 0) (zu zB (pv 2) zh (fun _ _=>rfl)) (fun _ _=>rfl)) zb)) rfl)
  (ze (qk (zD (za (pv 4) (za (pv 3) zb))) (qj (K:=K) 2 rfl rfl (zy (qU (pv 0) (zu zB (pv 2) zh (fun _ _=>rfl)) zP) (zy (qU (pv 0) (zu zB (pv 2) zh (fun _ _=>rfl)) zP) qi)))))) zw)
  (zc (zN (zo (zY hr.units) (zu zB (pv 2) zh (fun _ _=>rfl)) zm (zq _)) (ze (qk (zD (za zI (za (zu zB (pv 0) (zu zB (pv 2) zh (fun _ _=>rfl)) (fun _ _=>rfl)) zb))) (qj (K:=K) 2 rfl rfl (zy (qU (pv 0) (zu zB (pv 2) zh (fun _ _=>rfl)) zP) (zy (zx (i:=1) sc.nd rfl (by first | exact aV rfl | exact aW rfl)) qi))))) zw)
  (zc (zN (zo (zY hr.units) (zu zB (pv 2) zh (fun _ _=>rfl)) zm (zq _)) (ze (qk (zD (za zI (za (zu zB (pv 0) (zu zB (pv 2) zh (fun _ _=>rfl)) (fun _ _=>rfl)) zb))) (qj (K:=K) 2 rfl rfl (zy (qU (pv 0) (zu zB (pv 2) zh (fun _ _=>rfl)) zP) (zy (qU (pv 0) (zu zB (pv 2) zh (fun _ _=>rfl)) zP) qi))))) zw)
  (zc (zN (zo (zY hr.units) (zu zB (pv 2) zh (fun _ _=>rfl)) zm (zq _)) (ze (qk (zD (za (pv 1) (za zI zb))) (qj (K:=K) 2 rfl rfl (zy (qU (pv 0) (zu zB (pv 2) zh (fun _ _=>rfl)) zP) (zy (zx (i:=1) sc.nd rfl (by first | exact aV rfl | exact aW rfl)) qi))))) zw)
  (EG 0 (ze (zA (zD (za (pv 0) (za (pv 1) zb))))))))))),?_⟩
 refine ex2 (by walk_at "sim") ?_
 rintro xs M Q ⟨d,⟨row,hd⟩,st',rfl,hdo,hl,q⟩
 rw [show zM ["_law_row","_law_hand","_law_deed_here","_law_one","_law_other"] [.d (.lst (row.map oD)),.d (oD hd),.d (dD d)]=[some (.d (.lst (row.map oD))),some (.d (oD hd)),some (.d (dD d)),none,none] from rfl]
 refine zd fun r1 hr1=>?_
 walk_at "ra"
 intro p hp _
 have hl:row.length<=1000:=hl
 have frz:∀ (row':List (Option Int)) (hd':Option Int) dd,st'=(row',hd')->∀ u v,¬ XM [u] 0 p->¬ XM [v] 0 p->Iy 0 (D7 (Ft (qQ (qS 0) (qQ (qS 1) xW)))) M { nx:=fun x M'=>rtA M Q (.d .non) M',rt:=rtA M Q } [some (.ref p),some (.d (oD hd')),some (.d dd),u,v] (mup M p (MV row')):=fun row' hd' dd e u v hu hv=>by
  subst e
  walk_at "ra"
  refine ⟨_,zf,_,zT _,hp,fun j hj z=>?_,fun q' o hq e=>?_,by omega,kC (fun q' hq'=>?_) q⟩
  ·match j with
   | 0=>exact hj rfl
   | 1=>cases z
   | 2=>cases z
   | 3=>exact hu z
   | 4=>exact hv z
   | n+5=>cases z
  ·rw [zi hq] at e;exact .inl e
  ·have hne:q' ≠ p:=fun z=>hq' (by rw [z];exact hp)
   rw [kY hne,zi hne]
 subst hr1
 cases hdo with
 | @swap a b row hd x y ne h1 h2=>
  rw [show dD (.swap a b)=.tup [.str (af "swap"),.int (a:Int),.int (b:Int)] from rfl]
  refine vV rfl (by decide +kernel) ?_
  refine xK fun D hD=>?_
  walk_at "ra"
  obtain ⟨a1,a2⟩:=kD h1
  obtain ⟨b1,b2⟩:=kD h2
  refine ⟨_,rfl,_,zF zf,_,rfl,_,a1,_,rfl,_,zF zf,_,rfl,_,b1,by omega,_,rfl,_,_,rfl,zf,a,a2,_,rfl,_,_,rfl,zf,b,by rw [bN];exact b2,?_⟩
  rw [j5,j5]
  subst hD
  refine jO rfl (by decide +kernel) ?_
  refine jO rfl (by decide +kernel) ?_
  refine jO rfl (by decide +kernel) ?_
  exact frz _ _ _ rfl _ _ (fun z=>by cases x <;> cases z) (fun z=>by cases y <;> cases z)
 | @take a row x h1=>
  rw [show dD (.take a)=.tup [.str (af "take"),.int (a:Int)] from rfl]
  refine jO rfl (by decide +kernel) ?_
  refine vV rfl (by decide +kernel) ?_
  refine xK fun D hD=>?_
  walk_at "ra"
  obtain ⟨a1,a2⟩:=kD h1
  refine ⟨_,rfl,_,zF zf,_,rfl,_,a1,by omega,_,rfl,_,_,rfl,zf,a,a2,?_⟩
  rw [show ((row.map oD).map AV.d).set a (AV.d .non)=_ from j5 row a none]
  subst hD
  refine jO rfl (by decide +kernel) ?_
  refine jO rfl (by decide +kernel) ?_
  exact frz _ (some x) _ rfl _ _ (fun z=>nomatch z) (fun z=>nomatch z)
 | @move a b row hd x h1 h2=>
  rw [show dD (.move a b)=.tup [.str (af "move"),.int (a:Int),.int (b:Int)] from rfl]
  refine jO rfl (by decide +kernel) ?_
  refine jO rfl (by decide +kernel) ?_
  refine vV rfl (by decide +kernel) ?_
  refine xK fun D hD=>?_
  walk_at "ra"
  obtain ⟨a1,a2⟩:=kD h1
  obtain ⟨b1,b2⟩:=kD h2
  refine ⟨_,rfl,_,zF zf,_,rfl,_,a1,by omega,_,rfl,_,_,rfl,zf,a,a2,_,rfl,_,_,rfl,zf,b,by rw [bN];exact b2,?_⟩
  rw [show ((row.map oD).map AV.d).set a (AV.d .non)=_ from j5 row a none,j5]
  subst hD
  refine jO rfl (by decide +kernel) ?_
  exact frz _ _ _ rfl _ _ (fun z=>nomatch z) (fun z=>nomatch z)
 | @lay g row x h1=>
  rw [show dD (.lay g)=.tup [.str (af "lay"),.int (g:Int)] from rfl]
  refine jO rfl (by decide +kernel) ?_
  refine jO rfl (by decide +kernel) ?_
  refine jO rfl (by decide +kernel) ?_
  refine vV rfl (by decide +kernel) ?_
  refine xK fun D hD=>?_
  walk_at "ra"
  obtain ⟨a1,a2⟩:=kD h1
  refine ⟨by omega,_,rfl,_,_,rfl,zf,g,a2,?_⟩
  rw [j5]
  subst hD
  exact frz _ none _ rfl _ _ (fun z=>nomatch z) (fun z=>nomatch z)
noncomputable def Kj (s:ES)(x:Dat):String:=match doR s [] x with
 | .error w=>w
 | .ok _=>""
theorem VS {x:Dat}(h:qa x s.1.length=false):Kj s x="form":=by
 unfold Kj doR
 rw [if_neg (by rw [h];exact fun z=>nomatch z)]
theorem EO (t:Str)(l:List Str):inV (.str t) (l.map V.str)=decide (t ∈ l):=by
 induction l with
 | nil=>rfl
 | cons a l ih=>
  show (eqV (.str a) (.str t) || inV (.str t) (l.map V.str))=_
  rw [ih]
  show ((a == t) || decide (t ∈ l))=_
  by_cases c:a=t
  ·subst c;simp
  ·have:(a == t)=false:=by simpa using c
   rw [this,Bool.false_or]
   have na:t ≠ a:=fun z=>c z.symm
   simp [na]
theorem jf {a:Nat}(h:a<row.length):atI ((row.map oD).map AV.d) (a:Int)=some (.d (oD (row.getD a none))):=by
 unfold atI
 rw [aw,aw,jc (by omega) (by omega),bp]
 show ((row.map oD).map AV.d)[a]?=_
 rw [aK,aK,au h,aD,au h];rfl
theorem tIn {i:Nat}{w a b:Str} (hρ:ρ[i]?=some (some (.d (.tup (.str w :: ps))))):Tst (aB (aOp (aIn false) (aOp (aIx qF) (qS i) (aC (.int 0))) (Ft (qQ (aC (.str a)) (qQ (aC (.str b)) xW))))) ρ M (decide (w=a \/ w=b)):=fun Q q=>by
 refine ⟨_,hρ,_,0,.d (.str w),rfl,rfl,vY,eV rfl,_,rfl,_,_,_,_,rfl,rfl,rfl,rfl,_,rfl,?_⟩
 rw [show (if false=true then !inV (.str w) [V.str a,V.str b] else inV (.str w) [V.str a,V.str b])=decide (w=a \/ w=b) by
  rw [if_neg (fun z=>nomatch z),show [V.str a,V.str b]=[a,b].map V.str from rfl,EO];simp]
 exact q
variable {l:List Dat}
theorem tL3 {i:Nat} (hρ:ρ[i]?=some (some (.d (.tup l)))):Tst (aB (aOp (Ze id) (aCB YU (qQ (qS i) xW)) (aC (.int 3)))) ρ M (decide ((l.length:Int)=3)):=fun Q q=>by
 refine ⟨_,hρ,_,_,rfl,rfl,_,_,rfl,rfl,by rw [kX];omega,by rw [kX];omega,_,rfl,?_⟩
 rw [y6,aw]
 exact q
theorem E2 {i:Nat}{t:Str}{a b:Nat} (hρ:ρ[i]?=some (some (.d (.tup [.str t,.int (a:Int),.int (b:Int)])))):Tst (aB (aOp (Ze id) (aOp (aIx qF) (qS i) (aC (.int 1))) (aOp (aIx qF) (qS i) (aC (.int 2))))) ρ M (decide ((a:Int)=(b:Int))):=fun Q q=>by
 refine ⟨_,hρ,_,_,_,rfl,rfl,rfl,_,hρ,_,_,_,rfl,rfl,rfl,_,_,rfl,rfl,by rw [kX];omega,by rw [kX];omega,_,rfl,?_⟩
 rw [y6]
 exact q
theorem tL0 {i:Nat} (hρ:ρ[i]?=some (some (.d (.tup l)))):Tst (aB (aOp (Ze id) (aCB YU (qQ (qS i) xW)) (aC (.int 0)))) ρ M (decide ((l.length:Int)=0)):=fun Q q=>by
 refine ⟨_,hρ,_,_,rfl,rfl,_,_,rfl,rfl,by rw [kX];omega,by rw [kX];omega,_,rfl,?_⟩
 rw [y6,aw]
 exact q
noncomputable def WM:Dat->Bool
 | .tup (.str _ :: _)=>true
 | _=>false
theorem tFm {i:Nat}{x:Dat}{ρ:ASt}{M:MH}(h2:ρ[i]?=some (some (.d x)))(hx:dp x<=40):Tst (aOr (VB (aB (aCB Kc (qQ (qS i) (qQ (aC (.ty "tuple")) xW))))) (aOr (aB (aOp (Ze id) (aCB YU (qQ (qS i) xW)) (aC (.int 0)))) (VB (aB (aCB Kc (qQ (aOp (aIx qF) (qS i) (aC (.int 0))) (qQ (aC (.ty "str")) xW))))))) ρ M (!WM x):=by
 cases x with
 | ty _=>rw [dp] at hx;omega
 | rng _ _ _=>rw [dp] at hx;omega
 | scr _ _=>rw [dp] at hx;omega
 | tup l=>
  have yes:=tNt (MD (c:="tuple") (M:=M) h2 rfl (Wj))
  cases l with
  | nil=>exact jD yes (yX (zC (tL0 h2) rfl))
  | cons w ps=>
   have l0:decide (((w :: ps).length:Int)=0)=false:=decide_eq_false (by rw [ba];omega)
   have dw:dp w<=39:=by
    have e:dps (w :: ps)<=39:=by rw [dp] at hx;omega
    exact vR e w bD
   refine jD yes (jD (zC (tL0 h2) l0) ?_)
   cases w with
   | ty _=>rw [dp] at dw;omega
   | rng _ _ _=>rw [dp] at dw;omega
   | scr _ _=>rw [dp] at dw;omega
   | str _=>exact tNt (Vr h2 rfl Wd)
   | non=>exact tNt (Vr h2 rfl W0)
   | bl _=>exact tNt (Vr h2 rfl V8)
   | lst _=>exact tNt (Vr h2 rfl WD)
   | tup _=>exact tNt (Vr h2 rfl WT)
   | int _=>exact tNt (Vr h2 rfl Br)
 | non=>exact tNo h2 rfl B4
 | bl _=>exact tNo h2 rfl BH
 | str _=>exact tNo h2 rfl WO
 | lst _=>exact tNo h2 rfl Dv
 | int _=>exact tNo h2 rfl Bh
theorem Mn {x:Dat}(h:WM x=true):∃ t ps,x=.tup (.str t :: ps):=by
 unfold WM at h
 split at h
 ·exact ⟨_,_,rfl⟩
 ·cases h
theorem Mo {x:Dat}{n:Nat}(h:WM x=false):qa x n=false:=by
 cases e:qa x n with
 | false=>rfl
 | true=>
  obtain ⟨w,ps,rfl,_⟩:=xS e
  cases h
theorem LV:decide (af "swap"=af "take")=false:=by decide +kernel
theorem MS:decide (af "swap"=af "lay")=false:=by decide +kernel
theorem Mp:decide (af "swap"=af "move" \/ af "swap"=af "lay")=false:=by decide +kernel
theorem ML:decide (af "take"=af "move" \/ af "take"=af "lay")=false:=by decide +kernel
theorem MB:decide (af "take"=af "lay")=false:=by decide +kernel
theorem L7:decide (af "take"=af "swap")=false:=by decide +kernel
theorem Gs:decide (af "move"=af "take")=false:=by decide +kernel
theorem ME:decide (af "move"=af "lay")=false:=by decide +kernel
theorem LY:decide (af "move"=af "swap")=false:=by decide +kernel
theorem GF:decide (af "lay"=af "take")=false:=by decide +kernel
theorem yw {t u:Str}:decide (t=t \/ t=u)=true:=decide_eq_true (.inl rfl)
theorem yw' {t u:Str}:decide (u=t \/ u=u)=true:=decide_eq_true (.inr rfl)
noncomputable def WP:ASp:=fun xs M Q=>∃ (b:ay) (row:List (Option Int)) (h:Option Int) (N:Nat),xs=[.ref b,.d (.lst (row.map oD)),.d (oD h)]/\BxM M b N/\N<2000000/\row.length<=1000 /\
 ∀ M',BxS M M' b (N+10)->Q (.d .non) M'/\∀ d t,DoE d (row,h) t->Q (.d (dD d)) M'
noncomputable def xh (p:Option Int->Bool)(row:List (Option Int)):List Nat:=(b8 row.length).filter fun k=>p (row.getD k none)
noncomputable abbrev niA (l:List Nat):List AV:=l.map fun k:Nat=>AV.d (.int k)
theorem Yi {p:Option Int->Bool} {k:Nat}(h:k ∈ xh p row):∃ c,row[k]?=some c/\p c=true:=by
 obtain ⟨h1,h2⟩:=lg.mp h
 have hk:=eZ.mp h1
 refine ⟨row.getD k none,?_,h2⟩
 rw [aD,au hk];rfl
theorem LL (p:Option Int->Bool)(row:List (Option Int)):(xh p row).Nodup:=lQ.sublist List.filter_sublist ng
theorem W2 {l:List Nat}{r:Int}(h0:0<=r)(h1:r<l.length):∃ k,k ∈ l/\l[r.toNat]?=some k/\atI (niA l) r=some (.d (.int k)):=by
 have hr:r.toNat<l.length:=by omega
 refine ⟨l[r.toNat],bv hr,au hr,?_⟩
 unfold atI
 rw [jc h0 (by rw [aw];exact h1)]
 show (niA l)[r.toNat]?=_
 rw [aK,au hr];rfl
theorem WA {l:List Nat}{r t:Int}(h0:0<=r)(h1:r<l.length)(t0:0<=t)(t1:t<(l.length:Int) - 1):∃ j k,j ≠ r.toNat/\l[j]?=some k/\atI (niA l) (r - 1 - t)=some (.d (.int k)):=by
 by_cases c:0<=r - 1 - t
 ·obtain ⟨k,_,e1,e2⟩:=W2 (l:=l) c (by omega)
  exact ⟨(r - 1 - t).toNat,k,by omega,e1,e2⟩
 ·have hj:(r - 1 - t+l.length).toNat<l.length:=by omega
  refine ⟨(r - 1 - t+l.length).toNat,l[(r - 1 - t+l.length).toNat],by omega,au hj,?_⟩
  unfold atI ixN
  rw [aw,if_neg c,if_pos (by omega)]
  show (niA l)[(r - 1 - t+(l.length:Int)).toNat]?=_
  rw [aK,au hj];rfl
theorem yy {j : Nat}{p : Option Int -> Bool}{row : List (Option Int)}{at_ : AT}{N : List AV -> ASt -> MH -> Prop}{M : MH}{R : Option AV -> ASt}{u : Option AV}(hl : row.length <= 1000)
    (ht:∀ (o:Option AV) (k:Nat) (Q:Bool->MH->Prop),k<row.length->Q (p (row.getD k none)) M->at_ ((R o).set j (some (.d (.int k)))) M Q) (hv:∀ o (y:AV),(R o).set j (some y)=R (some y)) (h7:∀ (y:AV),(R (some y))[j]?=some (some y)) (hN:∀ o,N (niA (xh p row)) (R o) M) :
    QU (xA j) at_ (yz (qS j)) (fun _=>True) N (wY 0 1 row.length) [] (R u) M:=by
  refine VG R (fun y=>match y with | .d (.int k)=>p (row.getD k.toNat none) | _=>false) id ⟨_,rfl⟩ trivial (by rw [jg];omega) (fun o y Q hy q=>?_) fun o=>?_
  · obtain ⟨i,hi⟩:=bC hy
    obtain ⟨hk,rfl⟩:=jw hi
    rw [show (0:Int)+(i:Int) * 1=(i:Int) by omega] at q ⊢
    show at_ _ _ _
    refine ht o i _ hk ?_
    have q:Q (if p (row.getD (i:Int).toNat none)=true then some (id (AV.d (.int i))) else none) (R (some (.d (.int i)))) M:=q (some (.d (.int i)))
    rw [bp] at q
    cases hp:p (row.getD i none) with
    | true=>
      rw [if_pos rfl]
      refine ⟨_,by rw [hv];exact h7 _,?_⟩
      rw [hv]
      rw [hp,if_pos rfl] at q;exact q
    | false=>
      rw [if_neg (fun z=>nomatch z),hv]
      rw [hp,if_neg (fun z=>nomatch z)] at q;exact q
  · have e : ((wY 0 1 row.length).filter (fun y => match y with | .d (.int k) => p (row.getD k.toNat none) | _ => false)).map id = niA (xh p row) := by
      rw [List.map_id]
      unfold wY xh niA
      rw [List.filter_map]
      have:((fun y=>match y with | AV.d (.int k)=>p (row.getD k.toNat none) | _=>false) ∘ fun i:Nat=>AV.d (.int (0+(i:Int) * 1)))=fun k=>p (row.getD k none):=by
        funext k
        show p (row.getD (0+(k:Int) * 1).toNat none)=_
        rw [show (0+(k:Int) * 1).toNat=k by omega]
      rw [this]
      exact fC fun k _=>by rw [show (0:Int)+(k:Int) * 1=(k:Int) by omega]
    rw [e];exact hN o
theorem Ni (l:List Dat):eqD (.lst l) (.lst [])=l.isEmpty:=by cases l <;> simp [eqD,vC]
theorem tNe {i:Nat}{x:AV} (h:ρ[i]?=some (some x))(hx:yl x M=some (.lst l))(hd:dp (.lst l)<=40):Tst (aB (aOp (Ze not) (qS i) (aFz (HI xW)))) ρ M (!l.isEmpty):=fun Q q=>
 ⟨_,h,cV _,_,rfl,_,_,hx,rfl,hd,by simp [dp,dps],_,rfl,by rw [Ni];exact q⟩
theorem yg (l:List Nat):dp (.lst (l.map fun k:Nat=>Dat.int k))<=40:=by
 rw [dp]
 have:=yN (l:=l.map fun k:Nat=>Dat.int k) (n:=0) fun d hd=>by obtain ⟨k,_,rfl⟩:=bE.mp hd;rw [kX];omega
 omega
variable {N:Nat}
theorem Yb {i:Nat}{l:List Nat} (h0:ρ[0]?=some (some (.ref b)))(hi:ρ[i]?=some (some (.d (.lst (l.map fun k:Nat=>Dat.int k)))))(hb:BxM M b N)(hN:N<10000000)(hl:l.length<=1000)(h:l ≠ [])(k:∀ k ∈ l,∀ M',BxS M M' b (N+1)->Q (.d (.int (k:Nat))) M') :
  aOp (aIx qF) (qS i) (Yl ZK (qQ (qS 0) (qQ (aCB YU (qQ (qS i) xW)) xW))) ρ M Q:=by
 have e:(l.map fun k:Nat=>Dat.int k).map AV.d=niA l:=by rw [aZ];rfl
 have hp:0<l.length:=List.length_pos_iff.mpr h
 refine ⟨_,hi,_,h0,_,hi,_,_,rfl,rfl,b,_,N,rfl,hb,by omega,by rw [e,aw];omega,by rw [e,aw];omega,fun r M' s r0 r1=>?_⟩
 rw [e,aw] at r1
 obtain ⟨j,hj,_,a⟩:=W2 r0 r1
 exact ⟨_,_,_,rfl,rfl,by rw [e];exact a,k j hj M' s⟩
theorem wG {l:List Nat}(h:l ≠ []):(!(l.map fun k:Nat=>Dat.int k).isEmpty)=true:=by cases l;exact absurd rfl h;rfl
theorem JQ {l:List AV}(h:M p=some (.lst l)):qv (.ref p) M=some l:=by unfold qv;dsimp only;rw [h]
structure DIn (M M':MH)(b p:ay)(row:List (Option Int))(hd:Option Int)(N j:Nat)(ds:List De):Prop where
 sb:SB M M' b (N+2 * j)
 p0:M p=none
 pb:p ≠ b
 at_:M' p=some (.lst ((ds.map dD).map .d))
 len:ds.length<=2 * j
 ok:∀ d ∈ ds,∃ t,DoE d (row,hd) t
variable {M':MH} {hd:Option Int} {ds:List De}
theorem DIn.mono {N j k:Nat} (I:DIn M M' b p row hd N j ds)(h:j<=k)(_:j<=k):DIn M M' b p row hd N k ds:=⟨I.sb.mono (by omega),I.p0,I.pb,I.at_,by have:=I.len;omega,I.ok⟩
structure VA (M M':MH)(b p:ay)(row:List (Option Int))(hd:Option Int)(N j:Nat)(ds:List De):Prop where
 sb:SB M M' b N
 p0:M p=none
 pb:p ≠ b
 at_:M' p=some (.lst ((ds.map dD).map .d))
 len:ds.length<=2 * j
 ok:∀ d ∈ ds,∃ t,DoE d (row,hd) t
theorem DIn.go {M M' M2:MH} {N j N':Nat} (I:DIn M M' b p row hd N j ds)(s:BxS M' M2 b N'):VA M M2 b p row hd N' j ds:=⟨I.sb.go s,I.p0,I.pb,by rw [s.at I.pb];exact I.at_,I.len,I.ok⟩
theorem VA.go {M M' M2:MH} {N j N':Nat} (I:VA M M' b p row hd N j ds)(s:BxS M' M2 b N'):VA M M2 b p row hd N' j ds:=⟨I.sb.go s,I.p0,I.pb,by rw [s.at I.pb];exact I.at_,I.len,I.ok⟩
theorem VA.add {N N0 j:Nat} (I:VA M M' b p row hd N j ds) (h:DoE d (row,hd) t)(hn:N<=N0+2 * (j+1)):DIn M (mup M' p (.lst ((ds.map dD).map .d ++ [.d (dD d)]))) b p row hd N0 (j+1) (ds ++ [d]):=by
 refine ⟨(I.sb.put I.p0 I.pb _).mono hn,I.p0,I.pb,?_,by rw [bA];have:=I.len;show _+1<=_;omega,fun e he=>?_⟩
 ·rw [bO,bO];exact zf
 ·rcases dM.mp he with he | he
  ·exact I.ok e he
  ·rw [cj.mp he];exact ⟨t,h⟩
noncomputable abbrev Km:cg:=top 25
theorem XR:zr ["_law_box_here","_law_row","_law_hand","_law_there","_law_free","_law_some","_law_one","_law_k"] ["_law_box_here","_law_row","_law_hand"] (zg Km):=⟨rfl,rfl,rfl,by decide +kernel,rfl,by decide +kernel,by decide +kernel⟩
theorem EN (a:At K mg "_law_deed" Km)(B:Blt mg)(D_law_take:Df P w K mg base "_law_take" ["_law_box_here","_law_many"] 1 (cSp ZK)):Df P w K mg base "_law_deed" ["_law_box_here","_law_row","_law_hand"] 2 (cSp WP):=by
 refine dfA (k:=1) a XR (fun _ _ _ _ _ _=>Pn3_ fun _ _ _=>rfl) (fun xs M Q h=>?_) (fun f cdv A outer s H E hr=>?_)
 ·obtain ⟨_,_,_,_,rfl,_⟩:=h;rfl
 have sc:=XR
 have hsl:=hsl
 refine ⟨_,(zc (Yz (j:=3) rfl sc.nd rfl (by first | exact aV rfl | exact aW rfl) (ts:=[7]) rfl (qE rfl B.range (za (zn zv rfl B.len qd (za (pv 1) zb)) zb)) (fun _ _ _ _=>(zx (i:=7) sc.nd rfl (by first | exact aV rfl | exact aW rfl))) (fun _ _ _ _=>vQ (zo jx (zu (Qr (K:=K) rfl) (pv 1) (pv 7) (fun _ _=>rfl)) zI (zq _))) (fun _ _ _ _=>(pv 7)))
  (zc (Yz (j:=4) rfl sc.nd rfl (by first | exact aV rfl | exact aW rfl) (ts:=[7]) rfl (qE rfl B.range (za (zn zv rfl B.len qd (za (pv 1) zb)) zb)) (fun _ _ _ _=>(zx (i:=7) sc.nd rfl (by first | exact aV rfl | exact aW rfl))) (fun _ _ _ _=>vQ (zo je (zu (Qr (K:=K) rfl) (pv 1) (pv 7) (fun _ _=>rfl)) zI (zq _))) (fun _ _ _ _=>(pv 7)))
  (zc (zE (i:=5) sc.nd rfl (by first | exact aV rfl | exact aW rfl) (qX (zR zb)))
  (zc (zN (zo Gr (zn zv rfl B.len qd (za (pv 3) zb)) zh (zq _)) (zc (zE (i:=6) sc.nd rfl (by first | exact aV rfl | exact aW rfl) (zO D_law_take hr rfl (za (pv 0) (za (zn zv rfl B.len qd (za (pv 3) zb)) zb))))
  (ze (qB (ym bV cL cM j6 (pv 5) (za (zD (za zm (za (zu zB (pv 3) (pv 6) (fun _ _=>rfl)) (za (zu zB (pv 3) (zL wm (zL wm (pv 6) zh) (zO D_law_take hr rfl (za (pv 0) (za (zL wm (zn zv rfl B.len qd (za (pv 3) zb)) zh) zb)))) (fun _ _=>rfl)) zb)))) zb))))) zw)
  (zc (zN (PW.pt (x9 (zo je (pv 2) zI (zq _)) (kO (zo (ka hr.units) (pv 3) (zR zb) (zq _))))) (ze (qB (ym bV cL cM j6 (pv 5) (za (zD (za zm (za (zu zB (pv 3) (zO D_law_take hr rfl (za (pv 0) (za (zn zv rfl B.len qd (za (pv 3) zb)) zb))) (fun _ _=>rfl)) zb))) zb)))) zw)
  (zc (zN (PW.pt (x9 (zo (ka hr.units) (pv 3) (zR zb) (zq _)) (kO (zo (ka hr.units) (pv 4) (zR zb) (zq _))))) (ze (zE (i:=5) sc.nd rfl (by first | exact aV rfl | exact aW rfl) (qX (zL kQ (pv 5) (zL yM (zR (za (zD (za zm (za (zu zB (pv 3) (zO D_law_take hr rfl (za (pv 0) (za (zn zv rfl B.len qd (za (pv 3) zb)) zb))) (fun _ _=>rfl)) (za (zu zB (pv 4) (zO D_law_take hr rfl (za (pv 0) (za (zn zv rfl B.len qd (za (pv 4) zb)) zb))) (fun _ _=>rfl)) zb)))) zb)) zh))))) zw)
  (zc (zN (PW.pt (x9 (zo jx (pv 2) zI (zq _)) (kO (zo (ka hr.units) (pv 4) (zR zb) (zq _))))) (ze (qB (ym bV cL cM j6 (pv 5) (za (zD (za zm (za (zu zB (pv 4) (zO D_law_take hr rfl (za (pv 0) (za (zn zv rfl B.len qd (za (pv 4) zb)) zb))) (fun _ _=>rfl)) zb))) zb)))) zw)
  (ze (zA (jL (zo (ka hr.units) (pv 5) (zR zb) (zq _)) (zu zB (pv 5) (zO D_law_take hr rfl (za (pv 0) (za (zn zv rfl B.len qd (za (pv 5) zb)) zb))) (fun _ _=>rfl)) zI)))))))))),?_⟩
 refine ex2 (by walk_at "sim") ?_
 rintro xs M Q ⟨b,row,hd,N,rfl,hb,hN,hl,q⟩
 rw [show zM ["_law_box_here","_law_row","_law_hand","_law_there","_law_free","_law_some","_law_one","_law_k"] [.ref b,.d (.lst (row.map oD)),.d (oD hd)]=[some (.ref b),some (.d (.lst (row.map oD))),some (.d (oD hd)),none,none,none,none,none] from rfl]
 have sb:=SB.refl hb
 refine zd fun r1 hr1=>?_
 walk_at "ra"
 refine ⟨by omega,by omega,?_⟩
 rw [bp]
 have pn:∀ l:List Nat,pur (niA l)=some (l.map fun k:Nat=>Dat.int k):=fun l=>by
  unfold niA;rw [show (fun k:Nat=>AV.d (.int k))=AV.d ∘ fun k:Nat=>Dat.int k from rfl,<- aZ];exact zT _
 refine yy (p:=fun c=>c.isSome) (R:=fun o=>[some (.ref b),some (.d (.lst (row.map oD))),some (.d (oD hd)),none,none,none,none,o]) hl (fun o k Q hk q=>?_) (fun _ _=>rfl) (fun _=>rfl) fun o=>⟨_,pn _,?_⟩
 ·refine ⟨_,rfl,_,rfl,_,_,_,rfl,rfl,jf hk,rfl,_,rfl,?_⟩
  cases h:row.getD k none <;> rw [h] at q <;> exact q
 subst hr1
 refine zd fun r1 hr1=>?_
 walk_at "ra"
 refine ⟨by omega,by omega,?_⟩
 rw [bp]
 refine yy (p:=fun c=>c.isNone) (R:=fun o=>[some (.ref b),some (.d (.lst (row.map oD))),some (.d (oD hd)),some (.d (.lst ((xh (fun c=>c.isSome) row).map fun k:Nat=>Dat.int k))),none,none,none,o]) hl (fun o k Q hk q=>?_) (fun _ _=>rfl) (fun _=>rfl) fun o=>⟨_,pn _,?_⟩
 ·refine ⟨_,rfl,_,rfl,_,_,_,rfl,rfl,jf hk,rfl,_,rfl,?_⟩
  cases h:row.getD k none <;> rw [h] at q <;> exact q
 have hth:∀ k ∈ xh (fun c=>c.isSome) row,∃ x,row[k]?=some (some x):=fun k hk=>by
  obtain ⟨c,h1,h2⟩:=Yi hk
  cases c with
  | none=>cases h2
  | some x=>exact ⟨x,h1⟩
 have hfr:∀ k ∈ xh (fun c=>c.isNone) row,row[k]?=some none:=fun k hk=>by
  obtain ⟨c,h1,h2⟩:=Yi hk
  cases c with
  | none=>exact h1
  | some x=>cases h2
 have ndt:=LL (fun c=>c.isSome) row
 have lth:(xh (fun c=>c.isSome) row).length<=1000:=bz (eU _ _) (by rw [dH];exact hl)
 have lfr:(xh (fun c=>c.isNone) row).length<=1000:=bz (eU _ _) (by rw [dH];exact hl)
 generalize xh (fun c=>c.isSome) row=th at *
 generalize xh (fun c=>c.isNone) row=fr at *
 subst hr1
 refine zd fun r1 hr1=>?_
 walk_at "ra"
 intro p hp _
 obtain ⟨p0,pb⟩:=sb.new hp
 have I0:DIn M (mup M p (.lst [])) b p row hd N 0 []:=⟨sb.put p0 pb _,p0,pb,zf,aM 0,by simp⟩
 generalize mup M p (.lst [])=M1 at *
 have mth:(th.map fun k:Nat=>Dat.int k).map AV.d=niA th:=by rw [aZ];rfl
 have mfr:(fr.map fun k:Nat=>Dat.int k).map AV.d=niA fr:=by rw [aZ];rfl
 subst hr1
 refine zd fun r1 hr1=>?_
 have go1:∀ ds u6 M',DIn M M' b p row hd N 1 ds->r1 M { nx:=fun x M'=>rtA M Q (.d .non) M',rt:=rtA M Q } [some (.ref b),some (.d (.lst (row.map oD))),some (.d (oD hd)),some (.d (.lst (th.map fun k:Nat=>Dat.int k))),some (.d (.lst (fr.map fun k:Nat=>Dat.int k))),some (.ref p),u6,none] M':=fun ds u6 M' I=>by
  subst hr1
  refine zd fun r1 hr1=>?_
  have go2:∀ ds M',DIn M M' b p row hd N 2 ds->r1 M { nx:=fun x M'=>rtA M Q (.d .non) M',rt:=rtA M Q } [some (.ref b),some (.d (.lst (row.map oD))),some (.d (oD hd)),some (.d (.lst (th.map fun k:Nat=>Dat.int k))),some (.d (.lst (fr.map fun k:Nat=>Dat.int k))),some (.ref p),u6,none] M':=fun ds M' I=>by
   subst hr1
   refine zd fun r1 hr1=>?_
   have go3:∀ p ds M',DIn M M' b p row hd N 3 ds->r1 M { nx:=fun x M'=>rtA M Q (.d .non) M',rt:=rtA M Q } [some (.ref b),some (.d (.lst (row.map oD))),some (.d (oD hd)),some (.d (.lst (th.map fun k:Nat=>Dat.int k))),some (.d (.lst (fr.map fun k:Nat=>Dat.int k))),some (.ref p),u6,none] M':=fun p ds M' I=>by
    subst hr1
    refine zd fun r1 hr1=>?_
    have go4:∀ ds M',DIn M M' b p row hd N 4 ds->r1 M { nx:=fun x M'=>rtA M Q (.d .non) M',rt:=rtA M Q } [some (.ref b),some (.d (.lst (row.map oD))),some (.d (oD hd)),some (.d (.lst (th.map fun k:Nat=>Dat.int k))),some (.d (.lst (fr.map fun k:Nat=>Dat.int k))),some (.ref p),u6,none] M':=fun ds M' I=>by
     subst hr1
     have hda:yl (.ref p) M'=some (.lst (ds.map dD)):=by unfold yl;dsimp only;rw [I.at_];dsimp only;rw [zT];rfl
     have hdd:dp (.lst (ds.map dD))<=40:=by
      rw [dp]
      have:=yN (l:=ds.map dD) (n:=1) fun x hx=>by obtain ⟨d,_,rfl⟩:=bE.mp hx;cases d <;> simp [dD,dp,dps]
      omega
     cases ds with
     | nil=>exact DG (zC (tNe rfl hda hdd) rfl) ((I.sb.mono (show _<=N+10 by omega)).rt fun M'' s=>(q M'' s).1)
     | cons d0 ds0=>
      refine VI (zC (tNe rfl hda hdd) rfl) ?_
      have hsq:∀ {M2},M2 p=M' p->qF (.ref p) M2=some (((d0 :: ds0).map dD).map .d):=fun h=>by unfold qF;dsimp only;rw [h,I.at_]
      have hl8:=I.len
      refine ⟨_,rfl,_,rfl,_,rfl,_,_,rfl,hsq rfl,b,_,_,rfl,I.sb.bx,by omega,by rw [aw,aw,ba];omega,by rw [aw,aw];omega,fun r M2 s2 r0 r1=>?_⟩
      rw [aw,aw] at r1
      have hr:r.toNat<(d0 :: ds0).length:=by omega
      have hm:=bv hr
      obtain ⟨t,ht⟩:=I.ok _ hm
      refine ⟨_,_,.d (dD ((d0 :: ds0)[r.toNat])),hsq (s2.at I.pb),rfl,?_,((I.sb.go s2).mono (show _<=N+10 by omega)).rt fun M'' s=>(q M'' s).2 _ t ht⟩
      unfold atI
      rw [jc r0 (by rw [aw,aw];exact r1)]
      show (((d0 :: ds0).map dD).map AV.d)[r.toNat]?=_
      rw [aK,aK,au hr];rfl
    cases hd with
    | none=>exact qK (ju (zC (tNN rfl) rfl)) (go4 ds M' (I.mono (by omega) (by omega)))
    | some x=>
     by_cases hf:fr=[]
     ·exact qK (qL (zC (tNN rfl) rfl) (zC (tNe rfl rfl (yg _)) (by rw [hf];rfl))) (go4 ds M' (I.mono (by omega) (by omega)))
     refine DH (qL (zC (tNN rfl) rfl) (zC (tNe rfl rfl (yg _)) (wG hf))) ?_
     have:=I.len
     refine ⟨_,rfl,⟨_,JQ I.at_⟩,Yb rfl rfl I.sb.bx (by omega) lfr hf fun k hk M2 s2=>⟨by show 2<=_;omega,_,rfl,_,_,_,rfl,rfl,(I.go s2).at_,by rw [aw,aw];omega,go4 _ _ ((I.go s2).add (d:=.lay k) (DoE.lay (hfr k hk)) (by omega))⟩⟩
   by_cases ht:th=[]
   ·exact qK (ju (zC (tNe rfl rfl (yg _)) (by rw [ht];rfl))) (go3 p ds M' (I.mono (by omega) (by omega)))
   by_cases hf:fr=[]
   ·exact qK (qL (zC (tNe rfl rfl (yg _)) (wG ht)) (zC (tNe rfl rfl (yg _)) (by rw [hf];rfl))) (go3 p ds M' (I.mono (by omega) (by omega)))
   refine DH (qL (zC (tNe rfl rfl (yg _)) (wG ht)) (zC (tNe rfl rfl (yg _)) (wG hf))) ?_
   have:=I.len
   refine ⟨_,rfl,Yb rfl rfl I.sb.bx (by omega) lth ht fun k hk M2 s2=>Yb rfl rfl (I.go s2).sb.bx (by omega) lfr hf fun g hg M3 s3=>?_⟩
   obtain ⟨x,hx⟩:=hth k hk
   have I3:=(I.go s2).go s3
   refine ⟨by show 3<=_;omega,_,rfl,by show 1<=_;omega,_,rfl,_,_,rfl,rfl,by decide,by decide,by show 1 * 2<=_;omega,_,rfl,_,_,JQ I3.at_,rfl,by rw [aw,aw];show _+2<=_;omega,fun p' hp0 hp'=>?_⟩
   obtain ⟨q0,qb⟩:=I3.sb.new hp'
   refine go3 p' (ds ++ [.move k g,.move k g]) _ ⟨(I3.sb.put q0 qb _).mono (by omega),q0,qb,?_,by rw [bA];show _+2<=_;omega,fun e he=>?_⟩
   ·rw [bO,bO];exact zf
   ·rcases dM.mp he with he | he
    ·exact I.ok e he
    ·obtain rfl | rfl:e=.move k g \/ e=.move k g:=by simpa using he
     all_goals exact ⟨_,DoE.move hx (hfr g hg)⟩
  cases hd with
  | some x=>exact qK (ju (zC (tIN rfl) rfl)) (go2 ds M' (I.mono (by omega) (by omega)))
  | none=>
   by_cases ht:th=[]
   ·exact qK (qL (zC (tIN rfl) rfl) (zC (tNe rfl rfl (yg _)) (by rw [ht];rfl))) (go2 ds M' (I.mono (by omega) (by omega)))
   refine DH (qL (zC (tIN rfl) rfl) (zC (tNe rfl rfl (yg _)) (wG ht))) ?_
   have:=I.len
   refine ⟨_,rfl,⟨_,JQ I.at_⟩,Yb rfl rfl I.sb.bx (by omega) lth ht fun k hk M2 s2=>⟨by show 2<=_;omega,_,rfl,_,_,_,rfl,rfl,(I.go s2).at_,by rw [aw,aw];omega,?_⟩⟩
   obtain ⟨x,hx⟩:=hth k hk
   exact go2 _ _ ((I.go s2).add (d:=.take k) (DoE.take hx) (by omega))
 refine E4 fun r2 hr2=>?_
 walk_at "ra"
 by_cases c:1<(th.length:Int)
 case neg=>rw [if_neg c];exact go1 [] none M1 (I0.mono (by omega) (by omega))
 rw [if_pos c]
 subst hr2
 walk_at "ra"
 refine ⟨b,_,_,rfl,I0.sb.bx,by omega,by omega,by omega,fun one M2 s2 o0 o1=>?_⟩
 have I1:=I0.go s2
 obtain ⟨k1,m1,e1,a1⟩:=W2 o0 o1
 refine ⟨⟨_,JQ I1.at_⟩,_,rfl,_,by rw [mth];exact a1,_,rfl,b,_,_,rfl,I1.sb.bx,by omega,by omega,by omega,fun oth M3 s3 t0 t1=>?_⟩
 have I2:=I1.go s3
 obtain ⟨j,k2,hj,e2,a2⟩:=WA o0 o1 t0 t1
 obtain ⟨x1,hx1⟩:=hth k1 m1
 obtain ⟨x2,hx2⟩:=hth k2 (bf e2)
 refine ⟨_,rfl,_,by rw [mth];exact a2,by omega,_,rfl,_,I2.at_,by show 0<_;omega,?_⟩
 refine go1 _ _ _ (I2.add (d:=.swap k1 k2) (DoE.swap (fun z=>hj ?_) hx1 hx2) (by omega))
 subst z
 exact (mP (aG.mp e2).1 ndt).mp (e2.trans e1.symm)
noncomputable def DR:Bk:=fun xs M Q=>∃ (b:ay) (n N:Nat) (m:Int),xs=[.ref b,.d (.int n),.d (.int m)]/\n<=1000/\0<=m/\m<=100/\BxM M b N/\N<1000000 /\
 ∀ M' (ds:List De) (st:ES) p,BxS M M' b (N+10 * m.toNat)->M p=none->p ≠ b->ds.length<=m.toNat->vA ds ((z0 0 1 n).map some,none) st->Q [.ref p,.d (.lst (st.1.map oD)),.d (oD st.2)] (mup M' p (.lst ((ds.map dD).map .d)))
theorem Mx {t:AS} (h:Tst c ρ M true)(k:t B D ρ M):vE c t kP B D ρ M:=h _ (by rw [if_pos rfl];exact k)
theorem exT {t:TS}{q:AST->Prop}{b:AST}(h:Zo t b)(k:q b):∃ b,Zo t b/\q b:=⟨b,h,k⟩
noncomputable abbrev KM:cg:=top 27
theorem Xy:zr ["_law_box_here","_law_n","_law_many","_law_turn","_law_row","_law_hand","_law_plan_here","_law_deed_here"] ["_law_box_here","_law_n","_law_many"] (zg KM):=⟨rfl,rfl,rfl,by decide +kernel,rfl,by decide +kernel,by decide +kernel⟩
theorem D9 (a:At K mg "_law_plan" KM)(B:Blt mg)(D_law_deed:Df P w K mg base "_law_deed" ["_law_box_here","_law_row","_law_hand"] 2 (cSp WP))(D_law_done:Df P w K mg base "_law_done" ["_law_row","_law_hand","_law_deed_here"] 2 (cSp XE)):Df P w K mg base "_law_plan" ["_law_box_here","_law_n","_law_many"] 3 (EK DR):=by
 refine dfT (k:=2) a Xy (fun _ _ _ _ _ _=>Pn3_ fun _ _ _=>rfl) (fun xs M Q h=>?_) (fun f cdv A outer s H E hr=>?_)
 ·obtain ⟨_,_,_,_,rfl,_⟩:=h;rfl
 have sc:=Xy
 have hsl:=hsl
 refine' ⟨_,?q0,?qr⟩
 (case q0=>
  refine' zc ?s1 ?s2
  (case s1=>exact (Xq (i:=4) (j:=5) (k:=6) rfl sc.nd rfl rfl rfl (by decide) (by decide) (by decide) rfl rfl rfl (za (zH (jh rfl) rfl B.list qy (za (zH jI rfl B.range xt (za (pv 1) zb)) zb)) (za zI (za (qX (zR zb)) zb))) rfl))
  (case s2=>
   refine' zc ?s3 ?s4
   (case s3=>exact (jP cu rfl (qE rfl B.range (za (pv 2) zb)) (zx (i:=3) sc.nd rfl (by first | exact aV rfl | exact aW rfl)) (zc (zE (i:=7) sc.nd rfl (by first | exact aV rfl | exact aW rfl) (zO D_law_deed hr rfl (za (pv 0) (za (pv 4) (za (pv 5) zb))))) (ze (zN (zo jx (pv 7) zI (zq _)) (zc (qB (ym bV cL cM j6 (pv 6) (za (pv 7) zb))) (ze (qk (zO D_law_done hr rfl (za (pv 4) (za (pv 5) (za (pv 7) zb)))) (qj (K:=K) 2 rfl rfl (zy (zx (i:=4) sc.nd rfl (by first | exact aV rfl | exact aW rfl)) (zy (zx (i:=5) sc.nd rfl (by first | exact aV rfl | exact aW rfl)) qi)))))) zw)))))
   (case s4=>exact (ze (zA (zD (za (pv 6) (za (pv 4) (za (pv 5) zb)))))))))
 refine exT (by walk_at "sim") ?_
 rintro xs M Q ⟨b,n,N,m,rfl,hn,hm0,hm1,hb,hN,q⟩
 rw [show zM ["_law_box_here","_law_n","_law_many","_law_turn","_law_row","_law_hand","_law_plan_here","_law_deed_here"] [.ref b,.d (.int n),.d (.int m)]=[some (.ref b),some (.d (.int n)),some (.d (.int m)),none,none,none,none,none] from rfl]
 refine Q4 fun r1 hr1=>?_
 walk_at "ra"
 refine ⟨0,n,1,rfl,iF (by omega) (by omega) (by omega) (by omega),n,by rw [fE];split <;> omega,by omega,fun p hp _=>?_⟩
 have pb:p ≠ b:=fun z=>hb.ne (z ▸ hp)
 subst hr1
 refine Q4 fun r1 hr1=>?_
 walk_at "ra"
 refine ⟨by omega,by omega,?_⟩
 refine ⟨fun i ρ Mi=>∃ (u3 u7:Option AV) (st:ES) (ds:List De),ρ=[some (.ref b),some (.d (.int n)),some (.d (.int m)),u3,some (.d (.lst (st.1.map oD))),some (.d (oD st.2)),some (.ref p),u7]/\BxM Mi b (N+10 * i)/\Mi p=some (.lst ((ds.map dD).map .d))/\(∀ q,q ≠ b->q ≠ p->Mi q=M q)/\ds.length<=i/\st.1.length=n/\vA ds ((z0 0 1 n).map some,none) st,?_,?_,?_⟩
 ·exact ⟨none,none,((z0 0 1 n).map some,none),[],by rw [aZ];rfl,((SB.refl hb).put hp pb _).bx,zf,fun q h1 h2=>zi h2,aM 0,by rw [aw,qW],.nil⟩
 ·rintro i y ρ Mi hy ⟨u3,u7,⟨row,hd⟩,ds,rfl,bx,hpl,fr,ld,lr,hdo⟩
  obtain ⟨hi,rfl⟩:=jw hy
  have lr:row.length=n:=lr
  refine ⟨trivial,_,rfl,_,rfl,_,rfl,b,row,hd,N+10 * i,rfl,bx,by omega,by omega,fun M2 s2=>?_⟩
  have p2:M2 p=_:=(s2.at pb).trans hpl
  refine ⟨IH (zC (tNN rfl) rfl) ⟨_,_,(row,hd),ds,rfl,s2.1.mono (by omega),p2,fun q h1 h2=>(s2.at h1).trans (fr q h1 h2),by omega,lr,hdo⟩,fun d t hd'=>?_⟩
  refine Mx (zC (tNN rfl) (by cases d <;> rfl)) ?_
  refine ⟨_,rfl,⟨_,JQ p2⟩,_,rfl,_,_,_,rfl,rfl,p2,by rw [aw,aw];omega,?_⟩
  refine ⟨_,rfl,_,rfl,_,rfl,d,(row,hd),t,rfl,hd',by show row.length<=1000;omega,?_⟩
  walk_at "ra"
  refine ⟨_,t,rfl,rfl,rfl,(s2.1.mono (by omega)).put (Ne.symm pb) _,ds ++ [d],?_,fun q h1 h2=>(zi h2).trans ((s2.at h1).trans (fr q h1 h2)),by rw [bA];show _+1<=_;omega,hd'.len.trans lr,hdo.append (.one hd')⟩
  rw [bO,bO];exact zf
 ·rintro ρ Mi ⟨u3,u7,st,ds,rfl,bx,hpl,fr,ld,lr,hdo⟩
  subst hr1
  walk_at "ra"
  refine ⟨by omega,?_⟩
  rw [jg] at bx ld
  obtain ⟨o,ho⟩:∃ o,Mi b=some o:=by
   cases e:Mi b with
   | none=>exact absurd e bx.ne
   | some o=>exact ⟨o,rfl⟩
  have e1:Mi=mup (mup M b o) p (.lst ((ds.map dD).map .d)):=by
   funext q
   by_cases c:q=p
   ·rw [c,hpl,zf]
   rw [zi c]
   by_cases c2:q=b
   ·rw [c2,ho,zf]
   ·rw [zi c2];exact fr q c2 c
  have bx2:BxM (mup M b o) b (N+10 * m.toNat):=by
   obtain ⟨x,y,z,h,k⟩:=bx
   exact ⟨x,y,z,by rw [zf,<- ho];exact h,k⟩
  rw [e1]
  exact q _ ds st p ⟨bx2,o,rfl⟩ hp pb ld hdo
theorem jZ {a:Nat}{c:Option Int}(h:row[a]?=some c):a<row.length/\row.getD a none=c:=⟨(aG.mp h).1,by rw [aD,h];rfl⟩
theorem ZP {n a:Nat}(h:a<n):qc (.int (a:Int)) n=true:=decide_eq_true ⟨by omega,by omega⟩
noncomputable def jb (ms:List Int):Option Int->List Int
 | none=>ms
 | some x=>j3 ms x
noncomputable def ja (s:ES):De->List (Option Int)
 | .swap a b=>[s.1.getD a none,s.1.getD b none]
 | .take p=>[s.1.getD p none]
 | .move p g=>[s.1.getD p none,s.1.getD g none]
 | .lay _=>[s.2]
theorem v8 {d:De}{s t:ES}(h:DoE d s t)(ms:List Int):doR s ms (dD d)=.ok (t,(ja s d).foldl jb ms):=by
 cases h with
 | @swap a b row hd x y ne h1 h2=>
  obtain ⟨l1,g1⟩:=jZ h1
  obtain ⟨l2,g2⟩:=jZ h2
  have hf:qa (dD (.swap a b)) row.length=true:=by
   show (jA (af "swap") == some 2 && [Dat.int (a:Int),Dat.int (b:Int)].all (qc · row.length))=true
   simp only [dW,lf,ZP l1,ZP l2];rfl
  show _=iT (_,[row.getD a none,row.getD b none].foldl jb ms)
  unfold doR
  rw [if_pos hf]
  show jl (row,hd) ms a b=_
  unfold jl
  rw [if_neg ne]
  dsimp only
  rw [g1,g2];rfl
 | @take p row x h1=>
  obtain ⟨l1,g1⟩:=jZ h1
  have hf:qa (dD (.take p)) row.length=true:=by
   show (jA (af "take") == some 1 && [Dat.int (p:Int)].all (qc · row.length))=true
   simp only [dW,lf,ZP l1];rfl
  show _=iT (_,[row.getD p none].foldl jb ms)
  unfold doR
  rw [if_pos hf]
  show jt (row,none) ms p=_
  unfold jt
  dsimp only
  rw [g1];rfl
 | @move p g row hd x h1 h2=>
  obtain ⟨l1,g1⟩:=jZ h1
  obtain ⟨l2,g2⟩:=jZ h2
  have ne:p ≠ g:=fun z=>by rw [z,h2] at h1;cases h1
  have hf:qa (dD (.move p g)) row.length=true:=by
   show (jA (af "move") == some 2 && [Dat.int (p:Int),Dat.int (g:Int)].all (qc · row.length))=true
   simp only [dW,lf,ZP l1,ZP l2];rfl
  show _=iT (_,[row.getD p none,row.getD g none].foldl jb ms)
  unfold doR
  rw [if_pos hf]
  show ji (row,hd) ms p g=_
  unfold ji
  rw [if_neg ne]
  dsimp only
  rw [g2];dsimp only;rw [g1];rfl
 | @lay g row x h1=>
  obtain ⟨l1,g1⟩:=jZ h1
  have hf:qa (dD (.lay g)) row.length=true:=by
   show (jA (af "lay") == some 1 && [Dat.int (g:Int)].all (qc · row.length))=true
   simp only [dW,lf,ZP l1];rfl
  show _=iT (_,[some x].foldl jb ms)
  unfold doR
  rw [if_pos hf]
  show kN (row,some x) ms g=_
  unfold kN
  dsimp only
  rw [g1];rfl
theorem xH {a:Nat}{c:Option Int}(h:a<row.length)(g:row.getD a none=c):row[a]?=some c:=by
 rw [aD,au h] at g
 rw [au h]
 exact congrArg some g
theorem vU {s:ES}{ms:List Int}{x:Dat}{t:RS}(h:doR s ms x=.ok t):∃ d,x=dD d/\DoE d s t.1:=by
 obtain ⟨row,hd⟩:=s
 unfold doR at h
 by_cases hf:qa x row.length=true
 case neg=>rw [if_neg hf] at h;cases h
 rw [if_pos hf] at h
 obtain ⟨w,ps,rfl,hpl,hps⟩:=xS hf
 dsimp only at h
 by_cases w1:w=af "swap"
 ·rw [if_pos w1] at h
  obtain ⟨a,b,rfl,ha,hb⟩:=yJ hpl hps (.inl w1)
  have h:jl (row,hd) ms a b=.ok t:=h
  unfold jl at h
  by_cases hab:a=b
  ·rw [if_pos hab] at h;cases h
  rw [if_neg hab] at h
  dsimp only at h
  cases hx:row.getD a none with
  | none=>rw [hx] at h;cases h
  | some x=>
   cases hy:row.getD b none with
   | none=>rw [hx,hy] at h;cases h
   | some y=>
    rw [hx,hy] at h
    cases h
    exact ⟨.swap a b,by rw [w1];rfl,.swap hab (xH ha hx) (xH hb hy)⟩
 rw [if_neg w1] at h
 by_cases w2:w=af "take"
 ·rw [if_pos w2] at h
  obtain ⟨a,rfl,ha⟩:=vc hpl hps w1 (by rw [w2];decide +kernel)
  have h:jt (row,hd) ms a=.ok t:=h
  unfold jt at h
  dsimp only at h
  cases hd with
  | some y=>cases h
  | none=>
   dsimp only at h
   cases hx:row.getD a none with
   | none=>rw [hx] at h;cases h
   | some x=>
    rw [hx] at h
    cases h
    exact ⟨.take a,by rw [w2];rfl,.take (xH ha hx)⟩
 rw [if_neg w2] at h
 by_cases w3:w=af "move"
 ·rw [if_pos w3] at h
  obtain ⟨a,b,rfl,ha,hb⟩:=yJ hpl hps (.inr w3)
  have h:ji (row,hd) ms a b=.ok t:=h
  unfold ji at h
  by_cases hab:a=b
  ·rw [if_pos hab] at h;cases h
  rw [if_neg hab] at h
  dsimp only at h
  cases hy:row.getD b none with
  | some y=>rw [hy] at h;cases h
  | none=>
   rw [hy] at h
   dsimp only at h
   cases hx:row.getD a none with
   | none=>rw [hx] at h;cases h
   | some x=>
    rw [hx] at h
    cases h
    exact ⟨.move a b,by rw [w3];rfl,.move (xH ha hx) (xH hb hy)⟩
 rw [if_neg w3] at h
 obtain ⟨b,rfl,hb⟩:=vc hpl hps w1 w3
 have w4:w=af "lay":=by
  unfold jA at hpl
  rw [if_neg w1,if_neg w2,if_neg w3] at hpl
  by_cases c:w=af "lay"
  ·exact c
  ·rw [if_neg c] at hpl;cases hpl
 have h:kN (row,hd) ms b=.ok t:=h
 unfold kN at h
 dsimp only at h
 cases hy:row.getD b none with
 | some y=>rw [hy] at h;cases h
 | none=>
  rw [hy] at h
  dsimp only at h
  cases hd with
  | none=>cases h
  | some x=>
   cases h
   exact ⟨.lay b,by rw [w4];rfl,.lay (xH hb hy)⟩
noncomputable def wI:ASp:=fun xs M Q=>∃ (m:ay) (d:De) (s t:ES) (ms:List Int),xs=[.ref m,.d (.lst (s.1.map oD)),.d (oD s.2),.d (dD d)]/\M m=some (msA ms)/\DoE d s t/\OkM s ms.length/\s.1.length<=1000/\Q (.d .non) (mup M m (msA ((ja s d).foldl jb ms)))
theorem V5 (ms:List Int)(c:Option Int):(jb ms c).length=ms.length:=by cases c;rfl;exact wl _ _
theorem kG (cs:List (Option Int)):∀ ms,(cs.foldl jb ms).length=ms.length:=by
 induction cs with
 | nil=>exact fun _=>rfl
 | cons c cs ih=>intro ms;rw [lj,ih,V5]
theorem VP {α:Type}{l:List α}{i:Nat}{x:α}(h:l[i]?=some x):l.take (i+1)=l.take i ++ [x]:=by rw [List.take_succ,h];rfl
theorem Lm {o:MO}(h:M p=some o):mup M p o=M:=by
 funext b;unfold mup;by_cases c:b=p
 ·rw [if_pos c,c,h]
 ·rw [if_neg c]
theorem HQ (M:MH)(m:ay)(ms:List Int){d:Dat}:vG M (mup M m (msA ms)) (.d d) (.d d) (mup M m (msA ms)):=by
 refine ⟨fun q=>.inl rfl,fun q o e=>?_,.inl ⟨rfl,fun p z=>nomatch z⟩⟩
 by_cases c1:q=m
 ·rw [c1,zf] at e
  cases e
  exact .inr fun z hz=>absurd hz (yG (ds:=ms.map .int) (qV _) z)
 ·rw [zi c1] at e;exact .inl e
theorem DoE.okM {d:De}{s t:ES}{n:Nat}(h:DoE d s t)(o:OkM s n):OkM t n:=by
 have g:∀ {row:List (Option Int)} {a:Nat} {c:Option Int},row[a]?=some c->c ∈ row:=fun h=>bf h
 cases h with
 | swap ne h1 h2=>
  refine ⟨fun x hx=>?_,o.2⟩
  rcases cF hx with hx | hx
  ·rcases cF hx with hx | hx
   ·exact o.1 x hx
   ·exact o.1 x (hx ▸ g h2)
  ·exact o.1 x (hx ▸ g h1)
 | take h1=>
  refine ⟨fun x hx=>?_,fun x hx=>?_⟩
  ·rcases cF hx with hx | hx
   ·exact o.1 x hx
   ·cases hx
  ·cases hx;exact o.1 _ (g h1)
 | move h1 h2=>
  refine ⟨fun x hx=>?_,o.2⟩
  rcases cF hx with hx | hx
  ·rcases cF hx with hx | hx
   ·exact o.1 x hx
   ·cases hx
  ·exact o.1 x (hx ▸ g h1)
 | lay h1=>
  refine ⟨fun x hx=>?_,fun x hx=>nomatch hx⟩
  rcases cF hx with hx | hx
  ·exact o.1 x hx
  ·exact o.2 x hx.symm
theorem DA {x:Dat}{w:String}(h:doR s ms x=.error w):w="form" \/ w="same" \/ w="full" \/ w="empty":=by
 have g1:∀ a b,jl s ms a b=.error w->w="form" \/ w="same" \/ w="full" \/ w="empty":=fun a b h=>by
  unfold jl at h
  split at h
  ·cases h;simp
  ·cases hb:s.1.getD a none <;> cases ha:s.1.getD b none <;> rw [hb] at h <;> (try rw [ha] at h) <;> cases h <;> simp
 have g2:∀ a b,ji s ms a b=.error w->w="form" \/ w="same" \/ w="full" \/ w="empty":=fun a b h=>by
  unfold ji at h
  split at h
  ·cases h;simp
  ·cases hb:s.1.getD b none <;> cases ha:s.1.getD a none <;> rw [hb] at h <;> (try rw [ha] at h) <;> cases h <;> simp
 have g3:∀ a,jt s ms a=.error w->w="form" \/ w="same" \/ w="full" \/ w="empty":=fun a h=>by
  unfold jt at h
  cases hb:s.2 <;> cases ha:s.1.getD a none <;> rw [hb] at h <;> (try rw [ha] at h) <;> cases h <;> simp
 have g4:∀ a,kN s ms a=.error w->w="form" \/ w="same" \/ w="full" \/ w="empty":=fun a h=>by
  unfold kN at h
  cases ha:s.1.getD a none <;> cases hb:s.2 <;> rw [ha] at h <;> (try rw [hb] at h) <;> cases h <;> simp
 unfold doR at h
 split at h
 ·split at h
  ·split at h
   ·exact g1 _ _ h
   ·split at h
    ·exact g3 _ h
    ·split at h
     ·exact g2 _ _ h
     ·exact g4 _ h
  ·cases h;simp
 ·cases h;simp
theorem YG {x:Dat}{w:String}(h:doR s ms x=.error w):¬ decide (af w=af "")=true:=by
 rcases DA h with rfl | rfl | rfl | rfl <;> decide +kernel
theorem Ys (n:Nat):OkM ((z0 0 1 n).map some,none) n:=by
 refine ⟨fun x hx=>?_,fun x hx=>nomatch hx⟩
 obtain ⟨y,hy,e⟩:=bE.mp hx
 injection e with e
 subst e
 unfold z0 at hy
 obtain ⟨k,hk,e⟩:=bE.mp hy
 rw [eZ] at hk
 omega
noncomputable def fnP (vs:List V):List (Str × V):=[("place",vs.getD 0 .non),("word",vs.getD 1 .non)]
noncomputable abbrev plw (i:Nat)(x:String):List (Str × V):=[("place",.int i),("word",.str (af x))]
noncomputable abbrev yv:cg:=(qM (top 5) 0)
theorem xN:zr ["self","place","word"] ["self","place","word"] (zg yv):=⟨rfl,rfl,rfl,by decide +kernel,rfl,by decide +kernel,by decide +kernel⟩
theorem YF {C a t0:ay}{us:List V}{H:Hp}{Q:VK}(S1:xV K C "place")(S2:xV K C "word")(hl:us.length=2)(ha:H a=some (ku a C t0 none))(hq:∀ dx,H dx=none->dx ≠ a->Q .non (upd (upd H a (ku a C t0 (some dx))) dx (XdE dx (fnP us)))) :
  VD (ZC K (wZ 0) (wZ 1) "place") (ZC K (wZ 0) (wZ 2) "word") { nx:=fun _ H'=>Q .non H',rt:=Q } (start ["self","place","word"] (.ref a :: us)) H:=by
 match us,hl with
 | [v,u],_=>
  show ZC _ _ _ _ _ _ _
  refine ⟨v,rfl,.ref a,rfl,a,C,t0,rfl,S1,.inl ⟨ha,fun dx hd hne=>?_⟩⟩
  refine ⟨u,rfl,.ref a,rfl,a,C,t0,rfl,S2,.inr ⟨dx,[("place",v)],by rw [zj (Ne.symm hne),zl],zl,eV rfl,?_⟩⟩
  rw [xJ]
  have e:jQ (af "word") u [(af "place",v)]=fnP [v,u]:=by
   unfold jQ;rw [if_neg (by decide +kernel)];rfl
  show Q .non (upd _ dx (XdE dx (jQ (af "word") u [(af "place",v)])))
  rw [e]
  exact hq dx hd hne
variable {fd:df}
theorem HU {C f:ay} (F:Fun K "__init__" "BadPlan.__init__" yv f fd)(q:jF K C yW "ValueError.__new__" f=true)(hf:cQ K (.ref f)=true)(S1:xV K C "place")(S2:xV K C "word"):MkX P w K mg base C 1 2 fnP:=by
 refine Xn (k:=0) F xN (fun _ _ _ _ _ _=>Pn3_ fun _ _ _=>rfl) q hf rfl (fun cdv A outer s H E=>?_)
 have sc:=xN
 refine ⟨_,(zc (xP (pv 0) (pv 1) rfl) (ze (xP (pv 0) (pv 2) rfl))),?_⟩
 intro a t0 us Q hl ha hq
 exact YF S1 S2 hl ha hq
theorem FV {C f:ay} (F:Fun K "__init__" "BadPlan.__init__" yv f fd)(q:jF K C yW "ValueError.__new__" f=true)(hf:cQ K (.ref f)=true)(S1:xV K C "place")(S2:xV K C "word"):Z1 P w K mg base C 1 2 fnP:=by
 refine FK F xN (fun _ _ _ _ _ _=>Pn3_ fun _ _ _=>rfl) q hf rfl (fun cdv A outer s H E x=>?_)
 have sc:=xN
 refine ⟨_,(zc (xP (pv 0) (pv 1) rfl) (ze (xP (pv 0) (pv 2) rfl))),?_⟩
 intro a t0 us Q hl ha hq
 exact YF S1 S2 hl ha hq
def yh (n:Nat)(s:ES):Prop:=s.1.length=n/\∀ x:Int,s.1.count (some x)+(if s.2=some x then 1 else 0)=if 0<=x/\x<(n:Int) then 1 else 0
theorem xO {l:List (Option Int)}{i:Nat}{c:Option Int}(h:l[i]?=some c)(a b:Option Int):(l.set i a).count b+(if c=b then 1 else 0)=l.count b+(if a=b then 1 else 0):=by
 induction l generalizing i with
 | nil=>cases h
 | cons e l ih=>
  cases i with
  | zero=>
   cases h
   rw [List.set_cons_zero,fM,fM]
   simp only [beq_iff_eq]
   omega
  | succ i=>
   have h:l[i]?=some c:=h
   rw [List.set_cons_succ,fM,fM]
   have:=ih h
   omega
theorem yk {d:De}{s t:ES}{n:Nat}(h:DoE d s t)(c:yh n s):yh n t:=by
 refine ⟨by rw [h.len];exact c.1,fun x=>?_⟩
 have cx:=c.2 x
 cases h with
 | @swap a b row hd u v ne h1 h2=>
  have e1:=xO h1 (some v) (some x)
  have e2:=xO (l:=row.set a (some v)) (i:=b) (c:=some v) (by rw [cU ne];exact h2) (some u) (some x)
  dsimp only at cx ⊢
  omega
 | @take p row u h1=>
  have e1:=xO h1 none (some x)
  rw [if_neg (show ¬ (none:Option Int)=some x from fun z=>nomatch z)] at e1
  dsimp only at cx ⊢
  rw [if_neg (show ¬ (none:Option Int)=some x from fun z=>nomatch z)] at cx
  omega
 | @move p g row hd u h1 h2=>
  have ne:p ≠ g:=fun z=>by rw [z,h2] at h1;cases h1
  have e1:=xO h1 none (some x)
  have e2:=xO (l:=row.set p none) (i:=g) (c:=none) (by rw [cU ne];exact h2) (some u) (some x)
  rw [if_neg (show ¬ (none:Option Int)=some x from fun z=>nomatch z)] at e1 e2
  dsimp only at cx ⊢
  omega
 | @lay g row u h1=>
  have e1:=xO h1 (some u) (some x)
  rw [if_neg (show ¬ (none:Option Int)=some x from fun z=>nomatch z)] at e1
  dsimp only at cx ⊢
  rw [if_neg (show ¬ (none:Option Int)=some x from fun z=>nomatch z)]
  omega
theorem Wb {α:Type}[BEq α][LawfulBEq α][DecidableEq α]{l:List α}(h:l.Nodup)(a:α):l.count a=if a ∈ l then 1 else 0:=by
 induction l with
 | nil=>rfl
 | cons b l ih=>
  have:=cr.mp h
  rw [fM,ih this.2]
  by_cases c:b=a
  ·subst c;simp [this.1]
  ·have:(b == a)=false:=by simpa using c
   simp [this,Ne.symm c,c]
theorem Kr (n:Nat):((z0 0 1 n).map some).Nodup:=by
 unfold z0
 rw [aZ]
 unfold List.Nodup
 rw [mQ]
 refine ng.imp fun {a b} h z=>h ?_
 have z:some ((0:Int)+(a:Int) * 1)=some (0+(b:Int) * 1):=z
 injection z with z
 omega
theorem vL {x:Int}:some x ∈ (z0 0 1 n).map some ↔ 0<=x/\x<(n:Int):=by
 unfold z0
 simp only [bE,eZ,Option.some.injEq]
 constructor
 ·rintro ⟨a,⟨k,hk,rfl⟩,rfl⟩;omega
 ·rintro ⟨h1,h2⟩;exact ⟨x,⟨x.toNat,by omega,by omega⟩,rfl⟩
theorem jC (n:Nat):yh n ((z0 0 1 n).map some,none):=by
 refine ⟨by show ((z0 0 1 n).map some).length=n;rw [aw,qW],fun x=>?_⟩
 show ((z0 0 1 n).map some).count (some x)+0=_
 rw [Wb (Kr n)]
 by_cases c:0<=x/\x<(n:Int)
 ·rw [if_pos c,if_pos (vL.mpr c)]
 ·rw [if_neg c,if_neg (fun z=>c (vL.mp z))]
theorem wq {α:Type}[DecidableEq α]:∀ {l r:List α},l.Nodup->(∀ x ∈ l,x ∈ r)->r.length<=l.length->l.Perm r
 | [],r,_,_,h=>by
  have:r=[]:=iQ.mp (by simpa using h)
  rw [this]
 | a :: l,r,nd,hs,h=>by
  have nd':=cr.mp nd
  have ha:=hs a bD
  have ih:=wq (l:=l) (r:=r.erase a) nd'.2 (fun x hx=>(List.mem_erase_of_ne (fun z=>nd'.1 (by rw [<- z];exact hx))).mpr (hs x (bj _ hx))) (by rw [List.length_erase_of_mem ha];rw [ba] at h;omega)
  exact (ih.cons a).trans (List.perm_cons_erase ha).symm
theorem D0 (c:yh n (row,none)):∃ os,row=os.map some/\vj n os:=by
 have hl:row.length=n:=c.1
 have hp:((z0 0 1 n).map some).Perm row:=wq (Kr n) (fun x hx=>by
  obtain ⟨i,hi,rfl⟩:=bE.mp hx
  have h:=c.2 i
  rw [if_pos (vL.mp hx)] at h
  have h:row.count (some i)+0=1:=h
  exact mq.mp (by omega)) (by rw [aw,qW];omega)
 have hm:∀ x ∈ row,∃ i,x=some i/\0<=i/\i<(n:Int):=fun x hx=>by
  have:=hp.mem_iff.mpr hx
  obtain ⟨i,hi,rfl⟩:=bE.mp this
  exact ⟨i,rfl,vL.mp this⟩
 have e:row=(row.map (·.getD 0)).map some:=by
  rw [aZ]
  conv=>lhs;rw [<- List.map_id row]
  exact fC fun x hx=>by obtain ⟨i,rfl,_⟩:=hm x hx;rfl
 refine ⟨row.map (·.getD 0),e,by rw [aw];exact hl,?_,fun x hx=>?_⟩
 ·have:row.Nodup:=hp.nodup_iff.mp (Kr n)
  rw [e] at this
  exact (mQ.mp this).imp fun h z=>h (by rw [z])
 ·obtain ⟨y,hy,rfl⟩:=bE.mp hx
  obtain ⟨i,rfl,h⟩:=hm y hy
  exact h
noncomputable def bL (row:List (Option Int)):List Int:=(b8 row.length).map fun k:Nat=>(row.idxOf (some (k:Int)):Int)
variable {os:List Int}
theorem Xs (ho:vj n os){k:Nat}(hk:k<n):(k:Int) ∈ os:=by
 have hp:os.Perm (z0 0 1 n):=by
  refine wq ho.2.1 (fun x hx=>?_) (by rw [qW,ho.1];exact aM _)
  have:=ho.2.2 x hx
  unfold z0
  exact bE.mpr ⟨x.toNat,eZ.mpr (by omega),by omega⟩
 exact hp.mem_iff.mpr (by unfold z0;exact bE.mpr ⟨k,eZ.mpr hk,by omega⟩)
theorem Xz (os:List Int)(x:Int):(os.map some).idxOf (some x)=os.idxOf x:=by
 induction os with
 | nil=>rfl
 | cons a l ih=>
  rw [bQ,List.idxOf_cons,List.idxOf_cons,ih]
  rfl
theorem E3 {os bs:List Int}(ho:vj n os)(hb:Dj os bs):bs=bL (os.map some):=by
 have h1:=ho.1
 unfold bL
 rw [aw]
 refine gu (by rw [aw,dH];exact hb.1) fun k k1 k2=>?_
 rw [List.getElem_map,List.getElem_range,Xz]
 have kn:k<n:=by rw [<- h1,<- hb.1];exact k1
 have hm:=Xs ho kn
 have hi:os.idxOf (k:Int)<os.length:=gS hm
 have:=hb.2 (os.idxOf (k:Int)) hi
 have e:os.getD (os.idxOf (k:Int)) 0=(k:Int):=by
  rw [aD,au hi]
  exact mr hi
 rw [e,bp,aD,au k1] at this
 exact this
noncomputable def G9:Dat->Option (List Dat)
 | .lst l=>some l
 | .tup l=>some l
 | _=>none
theorem Hv {d:Dat}{l:List Dat}(h:G9 d=some l)(M:MH):qF (.d d) M=some (l.map .d):=by
 cases d with
 | lst m=>cases h;rfl
 | tup m=>cases h;rfl
 | _=>cases h
theorem Qv {d:Dat} (h:G9 d=some (os.map .int))(M:MH):qF (.d d) M=some (os.map fun i=>.d (.int i)):=by rw [Hv h,XU]
noncomputable def X7:ASp:=fun xs M Q=>∃ (dx:Dat) (n:Nat) (os:List Int),xs=[.d dx]/\G9 dx=some (os.map .int)/\vj n os/\n<=2000/\∀ bs,Dj os bs->Q (.d (ilD bs)) M
noncomputable abbrev Kq:cg:=top 10
theorem Yo:zr ["order","back","place","goal"] ["order"] (zg Kq):=⟨rfl,rfl,rfl,by decide +kernel,rfl,by decide +kernel,by decide +kernel⟩
theorem EZ (a:At K mg "back_of" Kq)(B:Blt mg):Df P w K mg base "back_of" ["order"] 1 (cSp X7):=by
 refine dfA (k:=0) a Yo (fun _ _ _ _ _ _=>Pn1_ fun _=>rfl) (fun xs M Q h=>?_) (fun f cdv A outer s H E hr=>?_)
 ·obtain ⟨_,_,_,rfl,_⟩:=h;rfl
 have sc:=Yo
 have hsl:=hsl
 refine ⟨_,(zc (zE (i:=1) sc.nd rfl (by first | exact aV rfl | exact aW rfl) (qX (zL yM (zR (za zh zb)) (zn zv rfl B.len qd (za (pv 0) zb)))))
  (zc (jP cu rfl (vd rfl B.enumerate (za (pv 0) zb)) (qj (K:=K) 2 rfl rfl (zy (zx (i:=2) sc.nd rfl (by first | exact aV rfl | exact aW rfl)) (zy (zx (i:=3) sc.nd rfl (by first | exact aV rfl | exact aW rfl)) qi))) (ze (qk (pv 2) (qU (pv 1) (pv 3) zP))))
  (ze (zA (pv 1))))),?_⟩
 refine ex2 (by walk_at "sim") ?_
 rintro xs M Q ⟨dx,n,os,rfl,hx,ho,hn,q⟩
 rw [show zM ["order","back","place","goal"] [.d dx]=[some (.d dx),none,none,none] from rfl]
 have h1:=ho.1
 refine zd fun r hr0=>?_
 walk_at "ra"
 refine ⟨by omega,_,Qv hx M,by rw [aw];omega,by rw [aw];omega,by rw [aw];omega,fun p hp _=>?_⟩
 rw [aw,h1,bp,BO]
 have hp1:=zf (M:=M) (a:=p) (o:=.lst (aH n (AV.d (.int 0))))
 have f1:=(Fr.refl (M:=M)).mup hp (.lst (aH n (AV.d (.int 0))))
 subst hr0
 refine zd fun r hr0=>?_
 walk_at "ra"
 refine ⟨_,Qv hx _,_,qV _,?_⟩
 refine ⟨fun i ρ M'=>∃ u v bs,ρ=[some (.d dx),some (.ref p),u,v]/\M'=mup M p (.lst (bs.map fun i=>AV.d (.int i)))/\bs.length=n/\∀ j,j<i->bs.getD (os.getD j 0).toNat 0=(j:Int),⟨none,none,aH n 0,rfl,by rw [fP],by simp,fun j hj=>nomatch hj⟩,?_,?_⟩
 ·rintro i y ρ M' hy ⟨u,v,bs,rfl,rfl,lb,hj⟩
  refine ⟨Qv hx _,?_⟩
  obtain ⟨d,hd,rfl⟩:=kJ hy
  rw [aK] at hd
  cases e:os[i]? with
  | none=>rw [e] at hd;cases hd
  | some k=>
   rw [e] at hd
   cases hd
   have hi:=(aG.mp e).1
   have hk:os.getD i 0=k:=by rw [aD,e];rfl
   have kb:=ho.2.2 k (bf e)
   walk_at "ra"
   refine ⟨_,zf,k.toNat,by rw [aw,jc kb.1 (by omega)],bs.set k.toNat (i:Int),?_,by rw [bN];exact lb,fun j hj'=>?_⟩
   ·rw [gi]
   ·rw [W3 (by omega)]
    by_cases c:j=i
    ·subst c;rw [hk,if_pos rfl]
    ·rw [if_neg,hj j (by omega)]
     intro z
     have gj:=ho.getD (i:=j) (by omega)
     exact c (ho.inj (by omega) (by omega) (by rw [hk];omega))
 ·rintro ρ M' ⟨u,v,bs,rfl,rfl,lb,hj⟩
  refine ⟨Qv hx _,?_⟩
  subst hr0
  walk_at "ra"
  refine ⟨_,_,Em (Fr.refl.mup hp _) hp zf (qV _),q bs ⟨by omega,fun i hi=>hj i ?_⟩⟩
  simp only [j4,aw]
  exact hi
noncomputable def jX:Nat->RS->List Dat->Except (Nat × String) RS
 | _,t,[]=>.ok t
 | i,t,x :: l=>match doR t.1 t.2 x with
  | .error w=>.error (i,w)
  | .ok t'=>jX (i+1) t' l
noncomputable def kW (n:Nat):RS:=(((z0 0 1 n).map some,none),aH n 0)
noncomputable def jV (n:Nat)(x:Dat):Except (Nat × String) RS:=match x with
 | .lst l=>jX 0 (kW n) l
 | .tup l=>jX 0 (kW n) l
 | _=>.error (0,"form")
structure XB (K:aA)(cB:ay):Prop where
 x:vw K cB
 i:cf K (.ref cB) (.ref cB)=some true
 hd:ci K cB=true
 fw:aT K (.ref cB) "word"=some none
theorem jG (n1:rw_ ≠ mv)(n2:rw_ ≠ p)(n3:mv ≠ p):zV C (rmP C M p rw_ mv s ms) p rw_ mv s ms:=by
 unfold rmP
 exact ⟨by rw [zi (Ne.symm n3),zi (Ne.symm n2),zf],by rw [zi n1,zf],zf,n1⟩
theorem Fq (s' s2:ES)(ms' ms2:List Int):rmP C (rmP C M p rw_ mv s' ms') p rw_ mv s2 ms2=rmP C M p rw_ mv s2 ms2:=by
 funext b
 unfold rmP mup
 by_cases c1:b=mv <;> by_cases c2:b=rw_ <;> by_cases c3:b=p <;> simp [c1,c2,c3]
theorem Zj (t:zV C (rmP C M p rw_ mv s ms) p rw_ mv s ms):vG M (rmP C M p rw_ mv s ms) (.ref p) (.ref p) (rmP C M p rw_ mv s ms):=by
 have f:=JF t .non
 exact ⟨f.1,f.2,.inl ⟨rfl,fun q z=>by cases z;rw [t.ins];exact fun z=>nomatch z⟩⟩
noncomputable def GJ (C cP:ay):xo:=fun xs M Q E=>∃ (n:Nat) (x:Dat),xs=[.d (.int n),.d x]/\n<=1000/\OkP x /\
 (∀ i w,jV n x=.error (i,w)->E cP (plw i w) M)/\(∀ t,jV n x=.ok t->∀ p rw_ mv,M p=none->M rw_=none->M mv=none->rw_ ≠ mv->rw_ ≠ p->mv ≠ p->Q (.ref p) (rmP C M p rw_ mv t.1 t.2))
noncomputable abbrev Xm:cg:=top 16
theorem Yg:zr ["n","plan","room","at","deed","refusal"] ["n","plan"] (zg Xm):=⟨rfl,rfl,rfl,by decide +kernel,rfl,by decide +kernel,by decide +kernel⟩
theorem Es {C cBadDeed cBadPlan:ay}(a:At K mg "room_behind" Xm)(B:Blt mg)(CL:Cls K C)(XG_BadDeed:mg "BadDeed"=some (.ref cBadDeed))(XG_BadPlan:mg "BadPlan"=some (.ref cBadPlan))(MX_BadPlan:MkX P w K mg base cBadPlan 5 2 fnP)(MXH_BadPlan:Z1 P w K mg base cBadPlan 5 2 fnP)(X2:XB K cBadDeed)
  (M_Room:Mkr P w K mg base "Room" C ["self","n"] 5 (cSp (Zg C))) (DM_do:DmX P w K mg base C "do" ["self","thing"] 6 (jk (aDo C cBadDeed))):DfX P w K mg base "room_behind" ["n","plan"] 7 (jk (GJ C cBadPlan)):=by
 refine LG (k:=6) a Yg (fun _ _ _ _ _ _=>Pn2_ fun _ _=>rfl) (fun xs M Q E h=>?_) (fun f cdv A outer s H HX OX MX E1 hr hD=>?_)
 ·obtain ⟨_,_,rfl,_⟩:=h;rfl
 have sc:=Yg
 have hsl:=hsl
 refine ⟨_,(zc (zN (qJ (qp (zn xR rfl B.isinstance zz (za (pv 1) (za (zD (za (zW (v:=.ty "list") rfl B.list qy rfl) (za (zW (v:=.ty "tuple") rfl B.tuple qz rfl) zb))) zb))) (fun _=>rfl))) (ze (qC hD rfl MX_BadPlan hr rfl XG_BadPlan (za zh (za zm zb)))) zw)
  (zc (zE (i:=2) sc.nd rfl (by first | exact aV rfl | exact aW rfl) (Yp M_Room hr rfl (za (pv 0) zb)))
  (zc (jP hD.po rfl (vd rfl B.enumerate (za (pv 1) zb)) (qj (K:=K) 2 rfl rfl (zy (zx (i:=3) sc.nd rfl (by first | exact aV rfl | exact aW rfl)) (zy (zx (i:=4) sc.nd rfl (by first | exact aV rfl | exact aW rfl)) qi))) (ze (Az (K:=K) (i:=5) rfl hD sc.nd rfl rfl rfl XG_BadDeed MXH_BadPlan hr rfl XG_BadPlan (fun _=>aM 2) (fun pins xe Eh hP=>(ze (qB (kB CL DM_do hr hP (pv 2) (za (pv 4) zb))))) (fun x=>(za (pv 3) (za (Y1 (K:=K) rfl (pv 5) rfl) zb))))))
  (ze (zA (pv 2)))))),?_⟩
 refine exX (by walk_at "sim") ?_
 rintro xs Q E0 rfl ⟨n,x,rfl,hn,ok,qe,q⟩
 rw [show zM ["n","plan","room","at","deed","refusal"] [.d (.int n),.d x]=[some (.d (.int n)),some (.d x),none,none,none,none] from rfl]
 refine zd fun r1 hr1=>?_
 have hs2:0+1+1<=aQ:=by omega
 have bad:jV n x=.error (0,"form")->∃ vs,[some (V.int 0),some (V.str (af "form"))]=cC some vs/\vs.length=2/\2<=1000/\exA MX E0 cBadPlan (fnP vs) MX:=fun h=>
  ⟨[.int 0,.str (af "form")],rfl,rfl,by decide,_,qD Fr.refl .non,qe 0 "form" h⟩
 have main:∀ l,(x=.tup l \/ x=.lst l)->jV n x=jX 0 (kW n) l->r1 MX { nx:=fun x M'=>rtA MX Q (.d .non) M',rt:=rtA MX Q } [some (.d (.int n)),some (.d x),none,none,none,none] MX:=fun l hx hw=>by
  obtain ⟨ll,lo⟩:=ok.2 l hx
  have hsq:∀ M,qF (.d x) M=some (l.map AV.d):=fun M=>by rcases hx with rfl | rfl <;> rfl
  rw [hw] at qe q
  subst hr1
  refine zd fun r1 hr1=>?_
  walk_at "ra"
  intro p hp
  refine ⟨p,n,rfl,zf,hn,fun rw_ mv hrw hmv n1 n2 n3=>⟨rfl,?_⟩⟩
  rw [zi n2] at hrw
  rw [zi n3] at hmv
  have em:∀ t ms,rmP C (mup MX p (.ins C [])) p rw_ mv t ms=rmP C MX p rw_ mv t ms:=fun t ms=>by unfold rmP;rw [xQ]
  rw [em]
  subst hr1
  refine zd fun r1 hr1=>?_
  walk_at "ra"
  refine ⟨_,hsq _,_,zT _,?_⟩
  have fr:∀ t ms,Fr MX (rmP C MX p rw_ mv t ms):=fun t ms=>((Fr.refl.mup hp _).mup hrw _).mup hmv _
  refine ⟨fun i ρ M'=>∃ (t:RS),M'=rmP C MX p rw_ mv t.1 t.2/\jX i t (l.drop i)=jX 0 (kW n) l/\OkM t.1 t.2.length/\t.1.1.length=n/\t.2.length=n/\∃ u v,ρ=[some (.d (.int n)),some (.d x),some (.ref p),u,v,none],⟨kW n,rfl,rfl,by show OkM _ (aH n (0:Int)).length;rw [bU];exact Ys n,by show ((z0 0 1 n).map some).length=n;rw [aw,qW],bU,_,_,rfl⟩,?_,?_⟩
  ·rintro i y ρ M' hy ⟨t,rfl,ht,okt,l1,l2,u,v,rfl⟩
   refine ⟨hsq _,?_⟩
   obtain ⟨d,hd,rfl⟩:=kJ hy
   have r:=jG (C:=C) (M:=MX) (s:=t.1) (ms:=t.2) n1 n2 n3
   have hi:=(aG.mp hd).1
   have dm:=lo d (bf hd)
   rw [h9 hi,show l[i]=d from (aG.mp hd).2] at ht
   walk_at "ra"
   refine ⟨_,r.ins,rfl,p,rw_,mv,t.1,t.2,d,rfl,r,okt,dm.1,dm.2,fun wd hw=>?_,fun t' ht'=>?_⟩
   ·refine ⟨X2.i,.str (af wd),rfl,X2.x,X2.hd,X2.fw,by decide,by decide,MX,qD (fr _ _) .non,?_⟩
    refine qe i wd ?_
    rw [<- ht]
    unfold jX
    rw [hw]
   ·obtain ⟨dd,rfl,hdo⟩:=vU ht'
    have e2:=v8 hdo t.2
    rw [ht'] at e2
    have e2:t'.2=(ja t.1 dd).foldl jb t.2:=by injection e2 with e2;rw [e2]
    have lm:t'.2.length=t.2.length:=by rw [e2,kG]
    refine ⟨t',by rw [Fq],?_,by rw [lm];exact hdo.okM okt,by rw [hdo.len];exact l1,by rw [lm];exact l2,_,rfl⟩
    rw [<- ht]
    conv=>rhs;unfold jX
    rw [ht']
  ·rintro ρ M' ⟨t,rfl,ht,okt,l1,l2,u,v,rfl⟩
   refine ⟨hsq _,?_⟩
   subst hr1
   walk_at "ra"
   rw [gh (by rw [j4];exact aM _)] at ht
   exact ⟨_,_,Zj (jG n1 n2 n3),q t (by rw [<- ht];rfl) p rw_ mv hp hrw hmv n1 n2 n3⟩
 cases x with
 | tup l=>walk_at "ra";exact ⟨hs2,main l (.inl rfl) rfl⟩
 | lst l=>walk_at "ra";exact ⟨hs2,main l (.inr rfl) rfl⟩
 | non=>walk_at "ra";exact ⟨hs2,bad rfl⟩
 | bl b=>walk_at "ra";exact ⟨hs2,bad rfl⟩
 | str b=>walk_at "ra";exact ⟨hs2,bad rfl⟩
 | int b=>walk_at "ra";exact ⟨hs2,bad rfl⟩
 | ty _=>have:=ok.1;rw [dp] at this;omega
 | rng _ _ _=>have:=ok.1;rw [dp] at this;omega
 | scr _ _=>have:=ok.1;rw [dp] at this;omega
noncomputable def vi (t:RS):Dat:=match t.1.2 with
 | some h=>.tup [.str (af "open"),.tup (t.1.1.map oD),.int h,.tup (t.2.map .int)]
 | none=>.tup [.str (af "done"),.lst ((bL t.1.1).map .int),.tup (t.2.map .int)]
theorem x6 {n:Nat}:∀ {l:List Dat} {i:Nat} {t t':RS},jX i t l=.ok t'->yh n t.1->t.2.length=n->yh n t'.1/\t'.2.length=n
 | [],_,t,t',h,c,e=>by cases h;exact ⟨c,e⟩
 | x :: l,i,t,t',h,c,e=>by
  unfold jX at h
  cases hd:doR t.1 t.2 x with
  | error w=>rw [hd] at h;cases h
  | ok u=>
   rw [hd] at h
   obtain ⟨d,rfl,hdo⟩:=vU hd
   have e2:=v8 hdo t.2
   rw [hd] at e2
   have e2:u.2=(ja t.1 d).foldl jb t.2:=by injection e2 with e2;rw [e2]
   exact x6 h (yk hdo c) (by rw [e2,kG];exact e)
theorem x8 {x:Dat}{t:RS}(h:jV n x=.ok t):yh n t.1/\t.2.length=n:=by
 unfold jV at h
 split at h
 ·exact x6 h (jC n) bU
 ·exact x6 h (jC n) bU
 ·cases h
noncomputable def IM (cP:ay):xo:=fun xs M Q E=>∃ (n:Nat) (x:Dat),xs=[.d (.int n),.d x]/\n<=1000/\OkP x /\
 (∀ i w,jV n x=.error (i,w)->E cP (plw i w) M)/\(∀ t,jV n x=.ok t->Q (.d (vi t)) M)
noncomputable abbrev AU:cg:=top 17
theorem Wq:zr ["n","plan","room","row","hand","moved"] ["n","plan"] (zg AU):=⟨rfl,rfl,rfl,by decide +kernel,rfl,by decide +kernel,by decide +kernel⟩
theorem Ht {C cBadPlan:ay}(a:At K mg "walked" AU)(B:Blt mg)(CL:Cls K C)(DX_room_behind:DfX P w K mg base "room_behind" ["n","plan"] 7 (jk (GJ C cBadPlan)))(D_back_of:Df P w K mg base "back_of" ["order"] 7 (cSp X7))
  (M_row_now:Dm P w K mg base C "row_now" ["self"] 7 (cSp (Wy C))) (M_hand_now:Dm P w K mg base C "hand_now" ["self"] 7 (cSp (AH C))) (M_moved_now:Dm P w K mg base C "moved_now" ["self"] 7 (cSp (A2 C))):DfX P w K mg base "walked" ["n","plan"] 8 (jk (IM cBadPlan)):=by
 refine LG (k:=7) a Wq (fun _ _ _ _ _ _=>Pn2_ fun _ _=>rfl) (fun xs M Q E h=>?_) (fun f cdv A outer s H HX OX MX E1 hr hD=>?_)
 ·obtain ⟨_,_,rfl,_⟩:=h;rfl
 have sc:=Wq
 have hsl:=hsl
 refine ⟨_,(zc (zE (i:=2) sc.nd rfl (by first | exact aV rfl | exact aW rfl) (Yh DX_room_behind hr rfl hD.passX (za (pv 0) (za (pv 1) zb))))
  (zc (zE (i:=3) sc.nd rfl (by first | exact aV rfl | exact aW rfl) (ye CL M_row_now hr (pv 2)))
  (zc (zE (i:=4) sc.nd rfl (by first | exact aV rfl | exact aW rfl) (ye CL M_hand_now hr (pv 2)))
  (zc (zE (i:=5) sc.nd rfl (by first | exact aV rfl | exact aW rfl) (ye CL M_moved_now hr (pv 2)))
  (zc (zN (zo jx (pv 4) zI (zq _)) (ze (zA (zD (za zm (za (pv 3) (za (pv 4) (za (pv 5) zb))))))) zw)
  (ze (zA (zD (za zm (za (zO D_back_of hr rfl (za (pv 3) zb)) (za (pv 5) zb))))))))))),?_⟩
 refine exX (by walk_at "sim") ?_
 rintro xs Q E0 rfl ⟨n,x,rfl,hn,ok,qe,q⟩
 rw [show zM ["n","plan","room","row","hand","moved"] [.d (.int n),.d x]=[some (.d (.int n)),some (.d x),none,none,none,none] from rfl]
 refine zd fun r1 hr1=>?_
 walk_at "ra"
 refine ⟨n,x,rfl,hn,ok,fun i w h=>⟨_,qD Fr.refl .non,qe i w h⟩,fun t ht p rw_ mv hp hrw hmv n1 n2 n3=>?_⟩
 have fr:Fr MX (rmP C MX p rw_ mv t.1 t.2):=((Fr.refl.mup hp _).mup hrw _).mup hmv _
 have r:=jG (C:=C) (M:=MX) (s:=t.1) (ms:=t.2) n1 n2 n3
 generalize rmP C MX p rw_ mv t.1 t.2=M1 at fr r
 obtain ⟨cs,l2⟩:=x8 ht
 have l1:=cs.1
 subst hr1
 refine zd fun r1 hr1=>?_
 walk_at "ra"
 refine ⟨_,r.ins,rfl,p,rw_,mv,t.1,t.2,rfl,r,by omega,?_⟩
 subst hr1
 refine zd fun r1 hr1=>?_
 walk_at "ra"
 refine ⟨_,r.ins,rfl,p,rw_,mv,t.1,t.2,rfl,r,?_⟩
 subst hr1
 refine zd fun r1 hr1=>?_
 walk_at "ra"
 refine ⟨_,r.ins,rfl,p,rw_,mv,t.1,t.2,rfl,r,by omega,?_⟩
 subst hr1
 have q:=q t ht
 obtain ⟨⟨row,hd⟩,ms⟩:=t
 cases hd with
 | some h=>
  rw [show oD (some h)=.int h from rfl]
  walk_at "ra"
  exact ⟨by omega,kC fr q⟩
 | none=>
  rw [show oD none=.non from rfl]
  obtain ⟨os,rfl,ho⟩:=D0 cs
  walk_at "ra"
  refine ⟨n,os,?_,ho,by omega,fun bs hb=>?_⟩
  ·show some ((os.map some).map oD)=_
   rw [aZ];rfl
  ·refine ⟨by omega,kC fr ?_⟩
   rw [E3 ho hb]
   exact q
noncomputable def fnN (vs:List V):List (Str × V):=[("hand",vs.getD 0 .non)]
noncomputable abbrev wA:cg:=(qM (top 6) 0)
theorem ZA:zr ["self","hand"] ["self","hand"] (zg wA):=⟨rfl,rfl,rfl,by decide +kernel,rfl,by decide +kernel,by decide +kernel⟩
theorem HY {C f:ay}{fd:df}(F:Fun K "__init__" "NotDone.__init__" wA f fd)(q:jF K C yW "ValueError.__new__" f=true)(hf:cQ K (.ref f)=true)(S:xV K C "hand"):MkX P w K mg base C 1 1 fnN:=by
 refine Xn (k:=0) F ZA (fun _ _ _ _ _ _=>Pn2_ fun _ _=>rfl) q hf rfl (fun cdv A outer s H E=>?_)
 have sc:=ZA
 refine ⟨_,(ze (xP (pv 0) (pv 1) rfl)),?_⟩
 intro a t0 us Q hl ha hq
 match us,hl with
 | [v],_=>
  show ZC _ _ _ _ _ _ _
  refine ⟨v,rfl,.ref a,rfl,a,C,t0,rfl,S,.inl ⟨ha,fun dx hd hne=>hq dx hd hne⟩⟩
noncomputable abbrev hdw (h:Int):List (Str × V):=[("hand",.int h)]
noncomputable def Wn (cP cN:ay):xo:=fun xs M Q E=>∃ (n:Nat) (x:Dat),xs=[.d (.int n),.d x]/\n<=1000/\OkP x /\
 (∀ i w,jV n x=.error (i,w)->E cP (plw i w) M)/\(∀ t,jV n x=.ok t->(∀ h,t.1.2=some h->E cN (hdw h) M)/\(t.1.2=none->Q (.d (ilD (bL t.1.1))) M))
noncomputable abbrev Qk:cg:=top 19
theorem Jw:zr ["n","plan","told"] ["n","plan"] (zg Qk):=⟨rfl,rfl,rfl,by decide +kernel,rfl,by decide +kernel,by decide +kernel⟩
theorem Dx {cBadPlan cNotDone:ay}(a:At K mg "order_done" Qk)(B:Blt mg)(XG_NotDone:mg "NotDone"=some (.ref cNotDone))(MX_NotDone:MkX P w K mg base cNotDone 7 1 fnN)(DX_walked:DfX P w K mg base "walked" ["n","plan"] 8 (jk (IM cBadPlan))):DfX P w K mg base "order_done" ["n","plan"] 9 (jk (Wn cBadPlan cNotDone)):=by
 refine LG (k:=8) a Jw (fun _ _ _ _ _ _=>Pn2_ fun _ _=>rfl) (fun xs M Q E h=>?_) (fun f cdv A outer s H HX OX MX E1 hr hD=>?_)
 ·obtain ⟨_,_,rfl,_⟩:=h;rfl
 have sc:=Jw
 have hsl:=hsl
 refine ⟨_,(zc (zE (i:=2) sc.nd rfl (by first | exact aV rfl | exact aW rfl) (Yh DX_walked hr rfl hD.passX (za (pv 0) (za (pv 1) zb))))
  (zc (zN (zo (zY hr.units) (zu zB (pv 2) zh (fun _ _=>rfl)) zm (zq _)) (ze (qC hD rfl MX_NotDone hr rfl XG_NotDone (za (zu zB (pv 2) zh (fun _ _=>rfl)) zb))) zw)
  (ze (zA (zu zB (pv 2) zh (fun _ _=>rfl)))))),?_⟩
 refine exX (by walk_at "sim") ?_
 rintro xs Q E0 rfl ⟨n,x,rfl,hn,ok,qe,q⟩
 rw [show zM ["n","plan","told"] [.d (.int n),.d x]=[some (.d (.int n)),some (.d x),none] from rfl]
 refine zd fun r1 hr1=>?_
 walk_at "ra"
 refine ⟨n,x,rfl,hn,ok,fun i w h=>⟨_,qD Fr.refl .non,qe i w h⟩,fun t ht=>?_⟩
 have q:=q t ht
 unfold vi
 subst hr1
 cases e:t.1.2 with
 | some h=>
  dsimp only
  walk_at "ra"
  refine ⟨_,rfl,_,rfl,by rw [zZ];omega,?_⟩
  rw [if_pos (by decide +kernel)]
  exact ⟨_,rfl,[.int h],rfl,rfl,by decide,_,qD Fr.refl .non,q.1 h e⟩
 | none=>
  dsimp only
  walk_at "ra"
  refine ⟨_,rfl,_,rfl,by rw [zZ];omega,?_⟩
  rw [if_neg (by decide +kernel)]
  exact ⟨_,rfl,kC Fr.refl (q.2 e)⟩
noncomputable def Gp (C:ay):ASp:=fun xs M Q=>∃ (p rw_ mv:ay) (s:ES) (ms:List Int),xs=[.ref p]/\zV C M p rw_ mv s ms/\s.1.length<=1000/\ms.length<=1000 /\
 ∀ p' rw' mv',M p'=none->M rw'=none->M mv'=none->rw' ≠ mv'->rw' ≠ p'->mv' ≠ p'->Q (.ref p') (rmP C M p' rw' mv' s ms)
noncomputable abbrev Ki:cg:=(qM (top 14) 10)
theorem Yq:zr ["self","room"] ["self"] (zg Ki):=⟨rfl,rfl,rfl,by decide +kernel,rfl,by decide +kernel,by decide +kernel⟩
theorem Ll {a b c y:AV}:jT (af "row") y [(af "row",a),(af "hand",b),(af "moved",c)]=[(af "row",y),(af "hand",b),(af "moved",c)]:=by
 unfold jT;rw [if_pos (by decide +kernel)]
theorem Ej {a b c y:AV}:jT (af "hand") y [(af "row",a),(af "hand",b),(af "moved",c)]=[(af "row",a),(af "hand",y),(af "moved",c)]:=by
 unfold jT;rw [if_neg (by decide +kernel)];unfold jT;rw [if_pos (by decide +kernel)]
theorem HG {a b c y:AV}:jT (af "moved") y [(af "row",a),(af "hand",b),(af "moved",c)]=[(af "row",a),(af "hand",b),(af "moved",y)]:=by
 unfold jT;rw [if_neg (by decide +kernel)];unfold jT;rw [if_neg (by decide +kernel)];unfold jT;rw [if_pos (by decide +kernel)]
theorem E7 (a:AtM K C "twin" "Room.twin" Ki)(R:RTx K C)(B:Blt mg)(M_Room:Mkr P w K mg base "Room" C ["self","n"] 5 (cSp (Zg C))):Dm P w K mg base C "twin" ["self"] 7 (cSp (Gp C)):=by
 refine dmA (k:=6) a Yq (fun _ _ _ _ _ _=>Pn1_ fun _=>rfl) (fun xs M Q h=>?_) (fun f cdv A outer s H E hr=>?_)
 ·obtain ⟨_,_,_,_,_,rfl,_⟩:=h;rfl
 have sc:=Yq
 have hsl:=hsl
 have CL:=R.cl
 refine ⟨_,(zc (zE (i:=1) sc.nd rfl (by first | exact aV rfl | exact aW rfl) (Yp M_Room hr rfl (za (zn zv rfl B.len qd (za (qg (pv 0) rfl) zb)) zb)))
  (zc (xj (pv 1) (qX (zH qZ rfl B.list qy (za (qg (pv 0) rfl) zb))) rfl)
  (zc (xj (pv 1) (qg (pv 0) rfl) rfl)
  (zc (xj (pv 1) (qX (zH qZ rfl B.list qy (za (qg (pv 0) rfl) zb))) rfl)
  (ze (zA (pv 1))))))),?_⟩
 refine ex2 (by walk_at "sim") ?_
 rintro xs M Q ⟨p,rw_,mv,⟨row,hd⟩,ms,rfl,r,hl,hm,q⟩
 rw [show zM ["self","room"] [.ref p]=[some (.ref p),none] from rfl]
 refine zd fun r1 hr1=>?_
 walk_at "ra"
 refine ⟨_,_,r.ins,R.cl,R.nr,_,rfl,_,zF r.row,fun p' hp'=>?_⟩
 have hl:row.length<=1000:=hl
 refine ⟨p',row.length,by rw [aw],zf,hl,fun w0 m0 hw0 hm0 n1 n2 n3=>⟨rfl,?_⟩⟩
 rw [zi n2] at hw0
 rw [zi n3] at hm0
 have fr:Fr M (rmP C (mup M p' (.ins C [])) p' w0 m0 ((z0 0 1 row.length).map some,none) (aH row.length 0)):=(((Fr.refl.mup hp' _).mup hp' _).mup hw0 _).mup hm0 _
 have t:=jG (C:=C) (M:=mup M p' (.ins C [])) (s:=((z0 0 1 row.length).map some,none)) (ms:=aH row.length 0) n1 n2 n3
 have fr2:Fr M (mup M p' (.ins C [])):=Fr.refl.mup hp' _
 have r':zV C (rmP C (mup M p' (.ins C [])) p' w0 m0 ((z0 0 1 row.length).map some,none) (aH row.length 0)) p rw_ mv (row,hd) ms:=⟨by rw [fr p (zU r.ins)];exact r.ins,by rw [fr rw_ (zU r.row)];exact r.row,by rw [fr mv (zU r.mvd)];exact r.mvd,r.ne⟩
 have hw0':=hw0
 have e1:∀ q,q ≠ p'->q ≠ w0->q ≠ m0->rmP C (mup M p' (.ins C [])) p' w0 m0 ((z0 0 1 row.length).map some,none) (aH row.length 0) q=M q:=fun q a b c=>by
  unfold rmP;rw [zi c,zi b,zi a,zi a]
 generalize rmP C (mup M p' (.ins C [])) p' w0 m0 ((z0 0 1 row.length).map some,none) (aH row.length 0)=M1 at *
 subst hr1
 refine zd fun r1 hr1=>?_
 walk_at "ra"
 refine ⟨_,_,r'.ins,R.cl,R.nr,_,rfl,_,zF r'.row,fun w1 hw1 _=>?_⟩
 have pw1:p' ≠ w1:=fun z=>by rw [<- z,t.ins] at hw1;cases hw1
 refine ⟨_,_,by rw [zi pw1];exact t.ins,R.cl,R.nr,by show 3<1000;decide,?_⟩
 rw [Ll]
 have e2:∀ q o o',q ≠ p'->q ≠ w1->mup (mup M1 w1 o) p' o' q=M1 q:=fun q o o' a b=>by rw [zi a,zi b]
 have ne1:∀ {q o},M q=some o->q ≠ p'/\q ≠ w1:=fun {q o} h=>⟨(fun z=>by rw [z,hp'] at h;cases h),(fun z=>by rw [<- z,fr q (zU h),h] at hw1;cases hw1)⟩
 subst hr1
 refine zd fun r1 hr1=>?_
 walk_at "ra"
 refine ⟨_,_,by rw [zi (ne1 r.ins).1,zi (ne1 r.ins).2];exact r'.ins,R.cl,R.nh,_,rfl,_,_,zf,R.cl,R.nh,by show 3<1000;decide,?_⟩
 rw [Ej]
 subst hr1
 refine zd fun r1 hr1=>?_
 walk_at "ra"
 refine ⟨_,_,by rw [zi (ne1 r.ins).1,zi (ne1 r.ins).2];exact r'.ins,R.cl,R.nm,_,rfl,_,by rw [zF (by rw [zi (ne1 r.mvd).1,zi (ne1 r.mvd).2];exact r'.mvd)],fun m1 hm1 _=>?_⟩
 have pm1:p' ≠ m1:=fun z=>by rw [<- z,zf] at hm1;cases hm1
 have wm1:w1 ≠ m1:=fun z=>by rw [<- z,zi (Ne.symm pw1),zf] at hm1;cases hm1
 refine ⟨_,_,by rw [zi pm1,zf],R.cl,R.nm,by show 3<1000;decide,?_⟩
 rw [HG]
 subst hr1
 walk_at "ra"
 have hm1':M m1=none:=by rw [zi (Ne.symm pm1),zi (Ne.symm wm1)] at hm1;exact fr.non hm1
 have hw1':M w1=none:=fr.non hw1
 have F:=Zj (C:=C) (M:=M) (s:=(row,hd)) (ms:=ms) (jG wm1 (Ne.symm pw1) (Ne.symm pm1))
 refine ⟨_,_,⟨fun z=>?_,F.cl,.inl ⟨rfl,fun z hz=>by obtain rfl:p'=z:=hz;unfold rmP;rw [zi pm1,zi pw1,zf];exact fun z=>nomatch z⟩⟩,q p' w1 m1 hp' hw1' hm1' wm1 (Ne.symm pw1) (Ne.symm pm1)⟩
 by_cases c1:z=m1
 ·rw [c1];unfold rmP;rw [zf,zi (Ne.symm pm1),zf];exact .inl rfl
 ·by_cases c2:z=w1
  ·rw [c2];unfold rmP;rw [zi wm1,zf,zi (Ne.symm pw1),zi wm1,zi (Ne.symm pw1),zf];exact .inl rfl
  ·by_cases c3:z=p'
   ·rw [c3];unfold rmP;rw [zi pm1,zi pw1,zf,zf];exact .inl rfl
   ·have e3:rmP C M p' w1 m1 (row,hd) ms z=M z:=by unfold rmP;rw [zi c1,zi c2,zi c3]
    rw [e3,zi c3,zi c1,zi c3,zi c2]
    cases e:M z with
    | some o=>exact .inl (by rw [fr z (zU e),e])
    | none=>exact .inr ⟨rfl,rfl⟩
noncomputable def IT:ASp:=fun xs M Q=>∃ (s:ES) (x:Dat),xs=[.d (.lst (s.1.map oD)),.d (oD s.2),.d x]/\dp x<=40/\(∀ l,x=.tup l->l.length<=1000)/\s.1.length<=1000/\Q (.d (.str (af (Kj s x)))) M
noncomputable abbrev szK:List (Key × AV):=[(.inr (af "swap"),.d (.int 3)),(.inr (af "take"),.d (.int 2)),(.inr (af "move"),.d (.int 3)),(.inr (af "lay"),.d (.int 2))]
theorem wne:(af "swap"=af "take")=False/\(af "swap"=af "move")=False/\(af "swap"=af "lay")=False/\(af "take"=af "swap")=False/\(af "take"=af "move")=False/\(af "take"=af "lay")=False/\(af "move"=af "swap")=False/\(af "move"=af "take")=False/\(af "move"=af "lay")=False/\(af "lay"=af "swap")=False/\(af "lay"=af "take")=False/\(af "lay"=af "move")=False:=by
 refine ⟨?_,?_,?_,?_,?_,?_,?_,?_,?_,?_,?_,?_⟩ <;> exact eq_false (by decide +kernel)
noncomputable def Xi (t:Str):Int:=match jA t with
 | some k=>k+1
 | none=>0
theorem HR (t:Str):(jU szK (.inr t)).getD (.d (.int 0))=.d (.int (Xi t)):=by
 unfold Xi jA jU
 by_cases c1:t=af "swap"
 ·subst c1;rfl
 by_cases c2:t=af "take"
 ·subst c2;simp [bS,wne]
 by_cases c3:t=af "move"
 ·subst c3;simp [bS,wne]
 by_cases c4:t=af "lay"
 ·subst c4;simp [bS,wne]
 simp only [bS,List.find?_nil,bG.injEq,c1,c2,c3,c4,Ne.symm c1,Ne.symm c2,Ne.symm c3,Ne.symm c4,if_false,decide_false]
 rfl
theorem wD {b:Nat} (h0:ρ[0]?=some (some (.d (.lst (row.map oD)))))(hρ:ρ[2]?=some (some (.d (.tup l))))(hz:atI (l.map AV.d) 1=some (.d (.int (b:Int))))(hb:b<row.length):Tst (aB (aOp (Y7 id) (aOp (aIx qF) (qS 0) (aOp (aIx qF) (qS 2) (aC (.int 1)))) (aC .non))) ρ M (j7 (.d (oD (row.getD b none)))):=fun Q q=>
 ⟨_,h0,_,hρ,_,_,_,rfl,rfl,hz,_,_,_,rfl,rfl,jf hb,rfl,_,rfl,q⟩
noncomputable abbrev ZS:cg:=top 30
theorem JN:zr ["_law_row","_law_hand","_law_thing","_law_sizes","_law_last","_law_one"] ["_law_row","_law_hand","_law_thing"] (zg ZS):=⟨rfl,rfl,rfl,by decide +kernel,rfl,by decide +kernel,by decide +kernel⟩
theorem BY (a:At K mg "_law_why" ZS)(B:Blt mg)(Ball:mg "all"=none):Df P w K mg base "_law_why" ["_law_row","_law_hand","_law_thing"] 1 (cSp IT):=by
 refine dfA (k:=0) a JN (fun _ _ _ _ _ _=>Pn3_ fun _ _ _=>rfl) (fun xs M Q h=>?_) (fun f cdv A outer s H E hr=>?_)
 ·obtain ⟨_,_,rfl,_⟩:=h;rfl
 have sc:=JN
 have hsl:=hsl
 refine ⟨_,(zc (zE (i:=3) sc.nd rfl (by first | exact aV rfl | exact aW rfl) (Ek (yu zm zh (yu zm zh (yu zm zh (yu zm zh Fm)))) rfl rfl (fun z=>nomatch z) (by decide)))
  (zc (zN (PW.pt (kl (qJ (qp (zn qm rfl B.isinstance zz (za (pv 2) (za (zW (v:=.ty "tuple") rfl B.tuple qz rfl) zb))) (fun _=>rfl))) (kl (zo (zY hr.units) (zn zv rfl B.len qd (za (pv 2) zb)) zh (zq _)) (jE (qJ (qp (zn qm rfl B.isinstance zz (za (zu zB (pv 2) zh (fun _ _=>rfl)) (za (zW (v:=.ty "str") rfl B.str wO rfl) zb))) (fun _=>rfl))))))) (ze (zA zm)) zw)
  (zc (zN (zo (ka hr.units) (zn zv rfl B.len qd (za (pv 2) zb)) (Bu (Mq hr) (pv 3) (zu zB (pv 2) zh (fun _ _=>rfl)) zh ⟨rfl,rfl,rfl,rfl⟩) (zq _)) (ze (zA zm)) zw)
  (zc (zN (qJ (qp (zn (yO rfl) rfl Ball Kt (za (kR (ts:=[5]) rfl rfl (Jp (j9 BP (pv 2) (kj zh) xG)) (fun _ _ _ _=>(zx (i:=5) sc.nd rfl (by first | exact aV rfl | exact aW rfl))) (fun _ _ _ _=>yp) (fun _ _ _ _=>(yV (zn (ZN (K:=K) rfl) rfl B.isinstance zz (za (pv 5) (za (zW (v:=.ty "int") rfl B.int wQ rfl) zb))) (yV (Ir (zn (ZN (K:=K) rfl) rfl B.isinstance zz (za (pv 5) (za (zW (v:=.ty "bool") rfl B.bool vM rfl) zb)))) (QE (Jg GN G0 zh (pv 5) (zn (Zb (K:=K) rfl) rfl B.len qd (za (pv 0) zb)))))))) zb)) (fun _=>rfl))) (ze (zA zm)) zw)
  (zc (zN (PW.pt (x9 (zo (zY hr.units) (zn zv rfl B.len qd (za (pv 2) zb)) zh (zq _)) (kO (zo (zY hr.units) (zu zB (pv 2) zh (fun _ _=>rfl)) (zu zB (pv 2) zh (fun _ _=>rfl)) (zq _))))) (ze (zA zm)) zw)
  (zc (zE (i:=4) sc.nd rfl (by first | exact aV rfl | exact aW rfl) (zu zB (pv 0) (zu zB (pv 2) (BK Kk zh) (fun _ _=>rfl)) (fun _ _=>rfl)))
  (zc (zN (PW.pt (kl (PW.pt (x9 (zo (zY hr.units) (zu zB (pv 2) zh (fun _ _=>rfl)) zm (zq _)) (kO (zo jx (pv 1) zI (zq _))))) (jE (PW.pt (x9 (zo YT (zu zB (pv 2) zh (fun _ _=>rfl)) (zD (za zm (za zm zb))) rfl) (kO (zo jx (pv 4) zI (zq _)))))))) (ze (zA zm)) zw)
  (zc (zN (zo (zY hr.units) (zu zB (pv 2) zh (fun _ _=>rfl)) zm (zq _)) (ze (zA (jL (zo je (pv 1) zI (zq _)) zm zm))) zw)
  (ze (zA (jL (PW.pt (kl (zo je (zu zB (pv 0) (zu zB (pv 2) zh (fun _ _=>rfl)) (fun _ _=>rfl)) zI (zq _)) (jE (PW.pt (x9 (zo (zY hr.units) (zu zB (pv 2) zh (fun _ _=>rfl)) zm (zq _)) (kO (zo je (pv 4) zI (zq _)))))))) zm zm))))))))))),?_⟩
 refine ex2 (by walk_at "sim") ?_
 rintro xs M Q ⟨⟨row,hd⟩,x,rfl,hdp,hl,hr_,q⟩
 rw [show zM ["_law_row","_law_hand","_law_thing","_law_sizes","_law_last","_law_one"] [.d (.lst (row.map oD)),.d (oD hd),.d x]=[some (.d (.lst (row.map oD))),some (.d (oD hd)),some (.d x),none,none,none] from rfl]
 refine zd fun r1 hr1=>?_
 walk_at "ra"
 intro D hD
 refine ⟨[(af "swap",.d (.int 3)),(af "take",.d (.int 2)),(af "move",.d (.int 3)),(af "lay",.d (.int 2))],rfl,by show 4<=15;decide,by decide +kernel,zf,?_⟩
 show r1 _ _ _ (mup M D (.dK szK))
 have hD1:mup M D (.dK szK) D=some (.dK szK):=zf
 have fr:Fr M (mup M D (.dK szK)):=Fr.refl.mup hD _
 generalize mup M D (.dK szK)=M1 at *
 have fin:=fun b=>qD (M0:=M) fr (.str b)
 have no:qa x row.length=false->Q (.d (.str (af "form"))) M:=fun h=>by rw [VS h] at q;exact q
 subst hr1
 cases hf0:WM x with
 | false=>exact xv (zC (tFm rfl hdp) (by rw [hf0];rfl)) ⟨_,_,fin _,no (Mo hf0)⟩
 | true=>
  refine qK (zC (tFm rfl hdp) (by rw [hf0];rfl)) ?_
  obtain ⟨t,ps,rfl⟩:=Mn hf0
  have hl:=hl _ rfl
  have dw:dps (.str t :: ps)<=39:=by rw [dp] at hdp;omega
  have dwi:∀ d ∈ .str t :: ps,dp d<=39:=vR dw
  have a0:atI (AV.d (.str t) :: ps.map AV.d) 0=some (.d (.str t)):=vY
  refine zd fun r1 hr1=>?_
  walk_at "ra"
  refine ⟨_,hD1,_,a0,hD1,_,rfl,.int (Xi t),by rw [HR];rfl,by rw [kX];omega,?_⟩
  rw [y6]
  have q0:qa (.tup (.str t :: ps)) row.length=(jA t == some (ps.length:Int) && ps.all (qc · row.length)):=rfl
  by_cases ck:((ps.length+1:Nat):Int)=Xi t
  case neg=>
   rw [if_pos (decide_eq_false ck)]
   refine ⟨_,_,fin _,no ?_⟩
   rw [q0]
   cases hp:jA t with
   | none=>rfl
   | some k=>
    have:Xi t=k+1:=by unfold Xi;rw [hp]
    rw [show (some k == some (ps.length:Int))=false by simp;omega];rfl
  rw [if_neg (by rw [decide_eq_true ck];decide)]
  have hpl:jA t=some (ps.length:Int):=by
   unfold Xi at ck
   cases hp:jA t with
   | none=>rw [hp] at ck;dsimp only at ck;omega
   | some k=>rw [hp] at ck;dsimp only at ck;exact congrArg some (by omega)
  subst hr1
  refine zd fun r1 hr1=>?_
  walk_at "ra"
  have ec:xb (Dat.str t :: ps) (some 1) none=ps:=by
   rw [show (some 1:Option Int)=some ((1:Nat):Int) from rfl,vf];rfl
  have nsl:¬(HT.sIx (ps.length+1) 0 (some 1)=0/\HT.sIx (ps.length+1) (ps.length+1) none=ps.length+1):=by
   rintro ⟨z,_⟩
   unfold HT.sIx at z
   simp at z
   try omega
  rw [ec]
  refine ⟨nsl,?_⟩
  refine F7 (fun o=>[some (.d (.lst (row.map oD))),some (.d (oD hd)),some (.d (.tup (.str t :: ps))),some (.ref D),none,o]) (fun d:Dat=>AV.d d) (fun d=>.d (.bl (qc d row.length))) ps ⟨_,rfl⟩ trivial (by rw [ba] at hl;omega) (fun o d Q hd' q=>?_) fun o=>?_
  ·have q:=q (some (.d d))
   have dd:=dwi d (bj _ hd')
   show xA 5 (AV.d d) _ _ _
   cases d with
   | ty _=>rw [dp] at dd;omega
   | rng _ _ _=>rw [dp] at dd;omega
   | scr _ _=>rw [dp] at dd;omega
   | int j=>
    walk_at "ra"
    by_cases c1:0<=j
    ·rw [if_pos c1]
     rw [show qc (.int j) row.length=decide (j<(row.length:Int)) from decide_eq_decide.mpr ⟨And.right,fun z=>⟨c1,z⟩⟩] at q
     exact q
    ·rw [if_neg c1]
     rw [show qc (.int j) row.length=false from decide_eq_false fun z=>c1 z.1] at q
     exact q
   | non=>walk_at "ra";exact q
   | bl _=>walk_at "ra";exact q
   | str _=>walk_at "ra";exact q
   | lst _=>walk_at "ra";exact q
   | tup _=>walk_at "ra";exact q
  refine ⟨ps.map fun d=>.bl (qc d row.length),WI _ _,ps.map (qc · row.length),by rw [aZ,aZ];rfl,?_⟩
  rw [mM]
  cases hall:ps.all (id ∘ (qc · row.length)) with
  | false=>
   rw [if_pos rfl]
   refine ⟨_,_,fin _,no ?_⟩
   rw [q0,show ps.all (qc · row.length)=false from hall,gb]
  | true=>
   rw [if_neg (by decide)]
   have hf:qa (.tup (.str t :: ps)) row.length=true:=by
    rw [q0,hpl,show ps.all (qc · row.length)=true from hall];simp
   obtain ⟨w',ps',ex,_,hps⟩:=xS hf
   cases ex
   have ed:doR (row,hd) [] (.tup (.str t :: ps))=if t=af "swap" then jl (row,hd) [] (iN (ps.getD 0 .non)) (iN (ps.getD 1 .non)) else if t=af "take" then jt (row,hd) [] (iN (ps.getD 0 .non)) else if t=af "move" then ji (row,hd) [] (iN (ps.getD 0 .non)) (iN (ps.getD 1 .non)) else kN (row,hd) [] (iN (ps.getD 0 .non)):=by
    unfold doR;rw [if_pos (show qa (.tup (.str t :: ps)) row.length=true from hf)]
   have q:∀ w,(match doR (row,hd) [] (.tup (.str t :: ps)) with | .error w=>w | .ok _=>"")=w->Q (.d (.str (af w))) M:=fun w h=>h ▸ q
   rw [ed] at q
   clear ed no q0 ck ec nsl a0
   subst hr1
   have nx:∀ (z:Nat) (nn:atI (AV.d (.str t) :: ps.map AV.d) (-1)=some (.d (.int (z:Int)))) (hz:z<row.length) {r2:AS} {B:MH} {D2:jn},r2 B D2 [some (.d (.lst (row.map oD))),some (.d (oD hd)),some (.d (.tup (.str t :: ps))),some (.ref D),some (.d (oD (row.getD z none))),none] M1 ->
     yj (Vg (aOp (aIx qF) (qS 0) (aOp (aIx qF) (qS 2) (aUn (aU fun i=>.int (-i)) (aC (.int 1))))) (xA 4)) r2 B D2 [some (.d (.lst (row.map oD))),some (.d (oD hd)),some (.d (.tup (.str t :: ps))),some (.ref D),none,none] M1:=fun z nn hz {r2 B D2} k=>by
    walk_at "ra"
    exact ⟨_,nn,_,rfl,_,jf hz,k⟩
   by_cases w1:t=af "swap"
   ·rw [if_pos w1] at q
    obtain ⟨a,b,rfl,ha,hb⟩:=yJ hpl hps (.inl w1)
    have qq:∀ w,(match jl (row,hd) [] a b with | .error w=>w | .ok _=>"")=w->Q (.d (.str (af w))) M:=q
    clear q
    subst w1
    by_cases hab:a=b
    ·exact xv (qL (zC (tL3 rfl) rfl) (zC (E2 rfl) (by rw [hab];exact decide_eq_true rfl))) ⟨_,_,fin _,qq "same" (by unfold jl;rw [if_pos hab])⟩
    refine qK (qL (zC (tL3 rfl) rfl) (zC (E2 rfl) (decide_eq_false fun z=>hab (Int.ofNat.inj z)))) ?_
    refine nx b rfl hb ?_
    refine qK (jD (ju (zC (tW rfl) LV)) (ju (zC (tIn rfl) Mp))) ?_
    refine qK (zC (tW rfl) MS) ?_
    unfold jl at qq
    rw [if_neg hab] at qq
    dsimp only at qq
    cases hx:row.getD a none with
    | none=>
     rw [hx] at qq
     exact VI (yX (zC (wD rfl rfl rfl ha) (by rw [hx];rfl))) ⟨_,_,fin _,qq "empty" rfl⟩
    | some x=>
     rw [hx] at qq
     cases hy:row.getD b none with
     | none=>
      rw [hy] at qq
      exact VI (jD (zC (wD rfl rfl rfl ha) (by rw [hx];rfl)) (qL (zC (tW rfl) (decide_eq_true rfl)) (zC (tIN rfl) rfl))) ⟨_,_,fin _,qq "empty" rfl⟩
     | some y=>
      rw [hy] at qq
      exact DG (jD (zC (wD rfl rfl rfl ha) (by rw [hx];rfl)) (qL (zC (tW rfl) (decide_eq_true rfl)) (zC (tIN rfl) rfl))) ⟨_,_,fin _,qq "" rfl⟩
   rw [if_neg w1] at q
   by_cases w2:t=af "take"
   ·rw [if_pos w2] at q
    obtain ⟨a,rfl,ha⟩:=vc hpl hps w1 (by rw [w2];decide +kernel)
    have qq:∀ w,(match jt (row,hd) [] a with | .error w=>w | .ok _=>"")=w->Q (.d (.str (af w))) M:=q
    clear q
    subst w2
    refine qK (ju (zC (tL3 rfl) rfl)) ?_
    refine nx a rfl ha ?_
    cases hd with
    | some y=>exact xv (yX (qL (zC (tW rfl) (decide_eq_true rfl)) (zC (tNN rfl) rfl))) ⟨_,_,fin _,qq "full" rfl⟩
    | none=>
     refine qK (jD (qL (zC (tW rfl) (decide_eq_true rfl)) (zC (tNN rfl) rfl)) (ju (zC (tIn rfl) ML))) ?_
     refine qK (zC (tW rfl) MB) ?_
     unfold jt at qq
     dsimp only at qq
     cases hx:row.getD a none with
     | none=>
      rw [hx] at qq
      exact VI (yX (zC (wD rfl rfl rfl ha) (by rw [hx];rfl))) ⟨_,_,fin _,qq "empty" rfl⟩
     | some x=>
      rw [hx] at qq
      exact DG (jD (zC (wD rfl rfl rfl ha) (by rw [hx];rfl)) (ju (zC (tW rfl) L7))) ⟨_,_,fin _,qq "" rfl⟩
   rw [if_neg w2] at q
   by_cases w3:t=af "move"
   ·rw [if_pos w3] at q
    obtain ⟨a,b,rfl,ha,hb⟩:=yJ hpl hps (.inr w3)
    have qq:∀ w,(match ji (row,hd) [] a b with | .error w=>w | .ok _=>"")=w->Q (.d (.str (af w))) M:=q
    clear q
    subst w3
    by_cases hab:a=b
    ·exact xv (qL (zC (tL3 rfl) rfl) (zC (E2 rfl) (by rw [hab];exact decide_eq_true rfl))) ⟨_,_,fin _,qq "same" (by unfold ji;rw [if_pos hab])⟩
    refine qK (qL (zC (tL3 rfl) rfl) (zC (E2 rfl) (decide_eq_false fun z=>hab (Int.ofNat.inj z)))) ?_
    refine nx b rfl hb ?_
    unfold ji at qq
    rw [if_neg hab] at qq
    dsimp only at qq
    cases hy:row.getD b none with
    | some y=>
     rw [hy] at qq
     exact xv (jD (ju (zC (tW rfl) Gs)) (qL (zC (tIn rfl) yw) (zC (tNN rfl) rfl))) ⟨_,_,fin _,qq "full" rfl⟩
    | none=>
     rw [hy] at qq
     refine qK (jD (ju (zC (tW rfl) Gs)) (qL (zC (tIn rfl) yw) (zC (tNN rfl) rfl))) ?_
     refine qK (zC (tW rfl) ME) ?_
     cases hx:row.getD a none with
     | none=>
      rw [hx] at qq
      exact VI (yX (zC (wD rfl rfl rfl ha) (by rw [hx];rfl))) ⟨_,_,fin _,qq "empty" rfl⟩
     | some x=>
      rw [hx] at qq
      exact DG (jD (zC (wD rfl rfl rfl ha) (by rw [hx];rfl)) (ju (zC (tW rfl) LY))) ⟨_,_,fin _,qq "" rfl⟩
   rw [if_neg w3] at q
   obtain ⟨b,rfl,hb⟩:=vc hpl hps w1 w3
   have w4:t=af "lay":=by
    unfold jA at hpl
    rw [if_neg w1,if_neg w2,if_neg w3] at hpl
    by_cases c:t=af "lay"
    ·exact c
    ·rw [if_neg c] at hpl;cases hpl
   have qq:∀ w,(match kN (row,hd) [] b with | .error w=>w | .ok _=>"")=w->Q (.d (.str (af w))) M:=q
   clear q
   subst w4
   refine qK (ju (zC (tL3 rfl) rfl)) ?_
   refine nx b rfl hb ?_
   unfold kN at qq
   dsimp only at qq
   cases hy:row.getD b none with
   | some y=>
    rw [hy] at qq
    exact xv (jD (ju (zC (tW rfl) GF)) (qL (zC (tIn rfl) yw') (zC (tNN rfl) rfl))) ⟨_,_,fin _,qq "full" rfl⟩
   | none=>
    rw [hy] at qq
    refine qK (jD (ju (zC (tW rfl) GF)) (qL (zC (tIn rfl) yw') (zC (tNN rfl) rfl))) ?_
    cases hd with
    | none=>exact xv (zC (tW rfl) (decide_eq_true rfl)) (VI (zC (tIN rfl) rfl) ⟨_,_,fin _,qq "empty" rfl⟩)
    | some y=>exact xv (zC (tW rfl) (decide_eq_true rfl)) (DG (zC (tIN rfl) rfl) ⟨_,_,fin _,qq "" rfl⟩)
noncomputable abbrev ZV:cg:=top 31
theorem Jc:zr ["_law_moved","_law_row","_law_hand","_law_deed_here","_law_some","_law_thing"] ["_law_moved","_law_row","_law_hand","_law_deed_here"] (zg ZV):=⟨rfl,rfl,rfl,by decide +kernel,rfl,by decide +kernel,by decide +kernel⟩
theorem WZ (a:At K mg "_law_counted" ZV)(B:Blt mg):Df P w K mg base "_law_counted" ["_law_moved","_law_row","_law_hand","_law_deed_here"] 1 (cSp wI):=by
 refine dfA (k:=0) a Jc (fun _ _ _ _ _ _=>Pn4_ fun _ _ _ _=>rfl) (fun xs M Q h=>?_) (fun f cdv A outer s H E hr=>?_)
 ·obtain ⟨_,_,_,_,_,rfl,_⟩:=h;rfl
 have sc:=Jc
 have hsl:=hsl
 refine ⟨_,(zc (zE (i:=4) sc.nd rfl (by first | exact aV rfl | exact aW rfl) (jL (zo (zY hr.units) (zu zB (pv 3) zh (fun _ _=>rfl)) zm (zq _)) (qX (zR (za (pv 2) zb))) (qX (zR (za (zu zB (pv 1) (zu zB (pv 3) zh (fun _ _=>rfl)) (fun _ _=>rfl)) zb)))))
  (zc (zN (zo (zY hr.units) (zu zB (pv 3) zh (fun _ _=>rfl)) zm (zq _)) (ze (qB (ym bV cL cM j6 (pv 4) (za (zu zB (pv 1) (zu zB (pv 3) zh (fun _ _=>rfl)) (fun _ _=>rfl)) zb)))) zw)
  (ze (jP cu rfl (Jp (pv 4)) (zx (i:=5) sc.nd rfl (by first | exact aV rfl | exact aW rfl)) (ze (qk (zL jy (zu zB (pv 0) (pv 5) (fun _ _=>rfl)) zh) (qU (pv 0) (pv 5) zP))))))),?_⟩
 refine ex2 (by walk_at "sim") ?_
 rintro xs M Q ⟨m,d,⟨row,hd⟩,t,ms,rfl,hm,hdo,okm,hl,q⟩
 rw [show zM ["_law_moved","_law_row","_law_hand","_law_deed_here","_law_some","_law_thing"] [.ref m,.d (.lst (row.map oD)),.d (oD hd),.d (dD d)]=[some (.ref m),some (.d (.lst (row.map oD))),some (.d (oD hd)),some (.d (dD d)),none,none] from rfl]
 refine zd fun r1 hr1=>?_
 walk_at "ra"
 have ne:∀ p,M p=none->m ≠ p:=fun p hp z=>by rw [z,hp] at hm;cases hm
 have tail:∀ (cs:List Int) (p:ay),M p=none->(ja (row,hd) d).foldl jb ms=cs.foldl j3 ms->(∀ x ∈ cs,0<=x/\x<(ms.length:Int))->cs.length<=2->Fy (aiS (qS 4)) (xA 5) (Vg (aOp (aI0 fun i j=>Dat.int (i+j)) (aOp (aIx qF) (qS 0) (qS 5)) (aC (Dat.int 1))) (As (qS 0) (qS 5) asL)) M { nx:=fun x M'=>rtA M Q (.d .non) M',rt:=rtA M Q } [some (.ref m),some (.d (.lst (row.map oD))),some (.d (oD hd)),some (.d (dD d)),some (.ref p),none] (mup M p (.lst (cs.map fun i=>AV.d (.int i)))):=fun cs p hp he hb h2=>by
  have nep:=ne p hp
  have hc:∀ o,mup (mup M p (.lst (cs.map fun i=>AV.d (.int i)))) m o p=some (.lst (cs.map fun i=>AV.d (.int i))):=fun o=>by rw [zi (Ne.symm nep),zf]
  walk_at "ra"
  have e0:mup M p (.lst (cs.map fun i=>AV.d (.int i)))=mup (mup M p (.lst (cs.map fun i=>AV.d (.int i)))) m (msA ms):=(Lm (by rw [zi nep];exact hm)).symm
  refine ⟨_,zF zf,?_⟩
  refine ⟨fun i ρ M'=>M'=mup (mup M p (.lst (cs.map fun i=>AV.d (.int i)))) m (msA ((cs.take i).foldl j3 ms))/\∃ u,ρ=[some (.ref m),some (.d (.lst (row.map oD))),some (.d (oD hd)),some (.d (dD d)),some (.ref p),u],⟨by rw [List.take_zero];exact e0,_,rfl⟩,?_,?_⟩
  ·rintro i y ρ M' hy ⟨rfl,u,rfl⟩
   refine ⟨zF (hc _),?_⟩
   rw [aK] at hy
   obtain ⟨c,hci,rfl⟩:=dQ.mp hy
   obtain ⟨x0,x1⟩:=hb c (bf hci)
   have bl:∀ (l:List Int) (ms:List Int),(l.foldl j3 ms).length=ms.length:=fun l=>by
    induction l with
    | nil=>exact fun _=>rfl
    | cons c l ih=>intro ms;rw [lj,ih,wl]
   rw [<- bl (cs.take i)] at x1
   obtain ⟨m1,m2⟩:=Ju x0 x1
   walk_at "ra"
   refine ⟨_,zF zf,_,m1,_,rfl,_,zf,_,m2,?_,_,rfl⟩
   rw [Ac,VP hci,List.foldl_append];rfl
  ·rintro ρ M' ⟨rfl,u,rfl⟩
   refine ⟨zF (hc _),?_⟩
   rw [aw,gw,<- he]
   refine ⟨_,_,⟨fun z=>?_,(HQ M m _ (d:=.non)).cl,.inl ⟨rfl,fun p z=>nomatch z⟩⟩,q⟩
   by_cases c1:z=m
   ·rw [c1,zf,zf];exact .inl rfl
   ·by_cases c2:z=p
    ·rw [c2,zi (Ne.symm nep)];exact .inr ⟨hp,hp⟩
    ·rw [zi c1,zi c1,zi c2];exact .inl rfl
 have okr:=okm.1
 have okh:=okm.2
 have ixr:∀ {a:Nat} {x:Int},row[a]?=some (some x)->a<row.length/\row.getD a none=some x/\0<=x/\x<(ms.length:Int):=fun h=>⟨(jZ h).1,(jZ h).2,okr _ (bf h)⟩
 cases hdo with
 | @lay g _ x h0=>
  refine ⟨_,rfl,_,rfl,_,rfl,by rw [zZ];omega,?_⟩
  rw [if_pos (by rw [qo];decide +kernel)]
  refine ⟨by omega,fun p hp _=>?_⟩
  subst hr1
  refine zd fun r1 hr1=>?_
  walk_at "ra"
  refine ⟨_,rfl,_,rfl,_,rfl,by rw [zZ];omega,?_⟩
  rw [if_neg (by rw [qo];decide +kernel)]
  subst hr1
  exact tail [x] p hp rfl (fun y hy=>by rw [cj.mp hy];exact okh x rfl) (by simp)
 | @take a _ x h0=>
  obtain ⟨a1,a2,a3⟩:=ixr h0
  refine ⟨_,rfl,_,rfl,_,rfl,by rw [zZ];omega,?_⟩
  rw [if_neg (by rw [qo];decide +kernel)]
  refine ⟨_,rfl,_,rfl,_,rfl,_,jf a1,by omega,fun p hp _=>?_⟩
  rw [a2]
  subst hr1
  refine zd fun r1 hr1=>?_
  walk_at "ra"
  refine ⟨_,rfl,_,rfl,_,rfl,by rw [zZ];omega,?_⟩
  rw [if_neg (by rw [qo];decide +kernel)]
  subst hr1
  exact tail [x] p hp (by show [row.getD a none].foldl jb ms=_;rw [a2];rfl) (fun y hy=>by rw [cj.mp hy];exact a3) (by simp)
 | @move a b _ _ x h0 h1=>
  obtain ⟨a1,a2,a3⟩:=ixr h0
  refine ⟨_,rfl,_,rfl,_,rfl,by rw [zZ];omega,?_⟩
  rw [if_neg (by rw [qo];decide +kernel)]
  refine ⟨_,rfl,_,rfl,_,rfl,_,jf a1,by omega,fun p hp _=>?_⟩
  rw [a2]
  subst hr1
  refine zd fun r1 hr1=>?_
  walk_at "ra"
  refine ⟨_,rfl,_,rfl,_,rfl,by rw [zZ];omega,?_⟩
  rw [if_neg (by rw [qo];decide +kernel)]
  subst hr1
  exact tail [x] p hp (by show [row.getD a none,row.getD b none].foldl jb ms=_;rw [a2,(jZ h1).2];rfl) (fun y hy=>by rw [cj.mp hy];exact a3) (by simp)
 | @swap a b _ _ x y hab h0 h1=>
  obtain ⟨a1,a2,a3⟩:=ixr h0
  obtain ⟨b1,b2,b3⟩:=ixr h1
  refine ⟨_,rfl,_,rfl,_,rfl,by rw [zZ];omega,?_⟩
  rw [if_neg (by rw [qo];decide +kernel)]
  refine ⟨_,rfl,_,rfl,_,rfl,_,jf a1,by omega,fun p hp _=>?_⟩
  rw [a2]
  subst hr1
  refine zd fun r1 hr1=>?_
  walk_at "ra"
  refine ⟨_,rfl,_,rfl,_,rfl,by rw [zZ];omega,?_⟩
  rw [if_pos (by rw [qo];decide +kernel)]
  refine ⟨⟨_,qY zf⟩,_,rfl,_,rfl,_,rfl,_,jf b1,_,zf,by show 1<_;omega,?_⟩
  rw [b2]
  subst hr1
  exact tail [x,y] p hp (by show [row.getD a none,row.getD b none].foldl jb ms=_;rw [a2,b2];rfl) (fun z hz=>by
   simp only [aF,aN,or_false] at hz
   rcases hz with rfl | rfl
   ·exact a3
   ·exact b3) (by simp)
theorem Yc {ms ns:List Int}{x:Dat}{w:String}(h:doR s ms x=.error w):doR s ns x=.error w:=by
 unfold doR at h ⊢
 split at h
 ·rename_i c
  rw [if_pos c]
  split at h
  ·rename_i t ps
   have g1:∀ a b,jl s ms a b=.error w->jl s ns a b=.error w:=fun a b=>by
    unfold jl
    split
    ·exact id
    ·cases s.1.getD a none <;> cases s.1.getD b none <;> intro h <;> first | exact h | cases h
   have g2:∀ a b,ji s ms a b=.error w->ji s ns a b=.error w:=fun a b=>by
    unfold ji
    split
    ·exact id
    ·cases s.1.getD b none <;> cases s.1.getD a none <;> intro h <;> first | exact h | cases h
   have g3:∀ a,jt s ms a=.error w->jt s ns a=.error w:=fun a=>by
    unfold jt
    cases s.2 <;> cases s.1.getD a none <;> intro h <;> first | exact h | cases h
   have g4:∀ a,kN s ms a=.error w->kN s ns a=.error w:=fun a=>by
    unfold kN
    cases s.1.getD a none <;> cases s.2 <;> intro h <;> first | exact h | cases h
   split at h
   ·rename_i c1;rw [if_pos c1];exact g1 _ _ h
   ·rename_i c1
    rw [if_neg c1]
    split at h
    ·rename_i c2;rw [if_pos c2];exact g3 _ h
    ·rename_i c2
     rw [if_neg c2]
     split at h
     ·rename_i c3;rw [if_pos c3];exact g2 _ _ h
     ·rename_i c3;rw [if_neg c3];exact g4 _ h
  ·exact h
 ·rename_i c
  rw [if_neg c];exact h
theorem Jl {x:Dat}{w:String}(h:doR s ms x=.error w):Kj s x=w:=by
 unfold Kj;rw [Yc (ns:=[]) h]
theorem X4 {s:ES}{ms:List Int}{x:Dat}{t:RS}(h:doR s ms x=.ok t):Kj s x="":=by
 unfold Kj
 cases e:doR s [] x with
 | ok _=>rfl
 | error w=>rw [Yc (ns:=ms) e] at h;cases h
noncomputable def v7 (n:Nat)(x:Dat):Dat:=match jV n x with
 | .error (i,w)=>.tup [.str (af "bad"),.int i,.str (af w)]
 | .ok t=>vi t
noncomputable def vO:ASp:=fun xs M Q=>∃ (n:Nat) (x:Dat),xs=[.d (.int n),.d x]/\n<=1000/\OkP x/\Q (.d (v7 n x)) M
noncomputable abbrev KU:cg:=top 32
theorem X8:zr ["_law_n","_law_plan_here","_law_row","_law_hand","_law_moved","_law_number","_law_thing","_law_word"] ["_law_n","_law_plan_here"] (zg KU):=⟨rfl,rfl,rfl,by decide +kernel,rfl,by decide +kernel,by decide +kernel⟩
theorem Ex (a:At K mg "_law_judged" KU)(B:Blt mg)(D_law_why:Df P w K mg base "_law_why" ["_law_row","_law_hand","_law_thing"] 4 (cSp IT))(D_law_counted:Df P w K mg base "_law_counted" ["_law_moved","_law_row","_law_hand","_law_deed_here"] 4 (cSp wI))(D_law_done:Df P w K mg base "_law_done" ["_law_row","_law_hand","_law_deed_here"] 4 (cSp XE)):Df P w K mg base "_law_judged" ["_law_n","_law_plan_here"] 5 (cSp vO):=by
 refine dfA (k:=4) a X8 (fun _ _ _ _ _ _=>Pn2_ fun _ _=>rfl) (fun xs M Q h=>?_) (fun f cdv A outer s H E hr=>?_)
 ·obtain ⟨_,_,rfl,_⟩:=h;rfl
 have sc:=X8
 have hsl:=hsl
 refine ⟨_,(zc (zN (qJ (qp (zn xR rfl B.isinstance zz (za (pv 1) (za (zD (za (zW (v:=.ty "list") rfl B.list qy rfl) (za (zW (v:=.ty "tuple") rfl B.tuple qz rfl) zb))) zb))) (fun _=>rfl))) (ze (zA (zD (za zm (za zh (za zm zb)))))) zw)
  (zc (qk (zD (za (zH (jh rfl) rfl B.list qy (za (zH jI rfl B.range xt (za (pv 0) zb)) zb)) (za zI (za (qX (zL yM (zR (za zh zb)) (pv 0))) zb)))) (qj (K:=K) 3 rfl rfl (zy (zx (i:=2) sc.nd rfl (by first | exact aV rfl | exact aW rfl)) (zy (zx (i:=3) sc.nd rfl (by first | exact aV rfl | exact aW rfl)) (zy (zx (i:=4) sc.nd rfl (by first | exact aV rfl | exact aW rfl)) qi)))))
  (zc (jP cu rfl (vd rfl B.enumerate (za (pv 1) zb)) (qj (K:=K) 2 rfl rfl (zy (zx (i:=5) sc.nd rfl (by first | exact aV rfl | exact aW rfl)) (zy (zx (i:=6) sc.nd rfl (by first | exact aV rfl | exact aW rfl)) qi))) (zc (zE (i:=7) sc.nd rfl (by first | exact aV rfl | exact aW rfl) (zO D_law_why hr rfl (za (pv 2) (za (pv 3) (za (pv 6) zb)))))
  (zc (zN (zo (ka hr.units) (pv 7) zm (zq _)) (ze (zA (zD (za zm (za (pv 5) (za (pv 7) zb)))))) zw)
  (zc (qB (zO D_law_counted hr rfl (za (pv 4) (za (pv 2) (za (pv 3) (za (pv 6) zb))))))
  (ze (qk (zO D_law_done hr rfl (za (pv 2) (za (pv 3) (za (pv 6) zb)))) (qj (K:=K) 2 rfl rfl (zy (zx (i:=2) sc.nd rfl (by first | exact aV rfl | exact aW rfl)) (zy (zx (i:=3) sc.nd rfl (by first | exact aV rfl | exact aW rfl)) qi)))))))))
  (zc (zN (zo je (pv 3) zI (zq _)) (ze (zA (zD (za zm (za (kR (ts:=[6]) rfl rfl (qE rfl B.range (za (pv 0) zb)) (fun _ _ _ _=>(zx (i:=6) sc.nd rfl (by first | exact aV rfl | exact aW rfl))) (fun _ _ _ _=>yp) (fun _ _ _ _=>(HW (K:=K) rfl bV iU iV Bp (pv 2) (za (pv 6) zb)))) (za (zH ql rfl B.tuple qz (za (pv 4) zb)) zb)))))) zw)
  (ze (zA (zD (za zm (za (zH ql rfl B.tuple qz (za (pv 2) zb)) (za (pv 3) (za (zH ql rfl B.tuple qz (za (pv 4) zb)) zb))))))))))),?_⟩
 refine ex2 (by walk_at "sim") ?_
 rintro xs M Q ⟨n,x,rfl,hn,ok,q⟩
 rw [show zM ["_law_n","_law_plan_here","_law_row","_law_hand","_law_moved","_law_number","_law_thing","_law_word"] [.d (.int n),.d x]=[some (.d (.int n)),some (.d x),none,none,none,none,none,none] from rfl]
 refine zd fun r1 hr1=>?_
 have hs2:0+1+1<=aQ:=by omega
 have hs3:0+1+1+1<=aQ:=by omega
 have main:∀ l,(x=.tup l \/ x=.lst l)->jV n x=jX 0 (kW n) l->r1 M { nx:=fun x M'=>rtA M Q (.d .non) M',rt:=rtA M Q } [some (.d (.int n)),some (.d x),none,none,none,none,none,none] M:=fun l hx hw=>by
  obtain ⟨ll,lo⟩:=ok.2 l hx
  have hsq:∀ M,qF (.d x) M=some (l.map AV.d):=fun M=>by rcases hx with rfl | rfl <;> rfl
  have q:Q (.d (match jX 0 (kW n) l with | .error (i,w)=>.tup [.str (af "bad"),.int i,.str (af w)] | .ok t=>vi t)) M:=by
   unfold v7 at q;rw [hw] at q;exact q
  subst hr1
  refine zd fun r1 hr1=>?_
  walk_at "ra"
  refine ⟨_,_,_,rfl,iF (by omega) (by omega) (by omega) (by omega),n,by rw [fE];split <;> omega,by omega,by omega,by omega,by omega,by omega,fun p hp _=>⟨by omega,?_⟩⟩
  rw [BO,bp]
  have e2:MO.lst (aH n (AV.d (.int 0)))=msA (aH n 0):=by show MO.lst _=MO.lst _;rw [fP]
  rw [e2,show (z0 0 1 n).map Dat.int=((z0 0 1 n).map some).map oD by rw [aZ];rfl,show Dat.non=oD none from rfl]
  have fr:∀ ms,Fr M (mup M p (msA ms)):=fun ms=>Fr.refl.mup hp _
  subst hr1
  refine zd fun r1 hr1=>?_
  walk_at "ra"
  refine ⟨_,hsq _,_,zT _,?_⟩
  refine ⟨fun i ρ M'=>∃ (t:RS),M'=mup M p (msA t.2)/\jX i t (l.drop i)=jX 0 (kW n) l/\OkM t.1 t.2.length/\yh n t.1/\t.2.length=n/\∃ u v z,ρ=[some (.d (.int n)),some (.d x),some (.d (.lst (t.1.1.map oD))),some (.d (oD t.1.2)),some (.ref p),u,v,z],⟨kW n,rfl,rfl,by show OkM _ (aH n (0:Int)).length;rw [bU];exact Ys n,jC n,bU,_,_,_,rfl⟩,?_,?_⟩
  ·rintro i y ρ M' hy ⟨t,rfl,ht,okt,cs,l2,u,v,z,rfl⟩
   refine ⟨hsq _,?_⟩
   obtain ⟨d,hd,rfl⟩:=kJ hy
   have l1:=cs.1
   have hi:=(aG.mp hd).1
   have dm:=lo d (bf hd)
   rw [h9 hi,show l[i]=d from (aG.mp hd).2] at ht
   refine ⟨_,rfl,rfl,?_⟩
   show wJ _ _ _ _ _ _
   walk_at "ra"
   refine ⟨t.1,d,rfl,dm.1,dm.2,by omega,?_⟩
   cases hw:doR t.1 t.2 d with
   | error wd=>
    rw [Jl hw]
    refine ⟨_,rfl,by rw [zZ];omega,?_⟩
    rw [qo,if_pos (by have:=YG hw;simpa using this)]
    refine ⟨hs3,_,rfl,kC (fr _) ?_⟩
    rw [<- ht] at q
    unfold jX at q
    rw [hw] at q
    exact q
   | ok t'=>
    rw [X4 hw]
    refine ⟨_,rfl,by rw [zZ];omega,?_⟩
    rw [qo,if_neg (by simp)]
    obtain ⟨dd,rfl,hdo⟩:=vU hw
    have e2:=v8 hdo t.2
    rw [hw] at e2
    have e2:t'.2=(ja t.1 dd).foldl jb t.2:=by injection e2 with e2;rw [e2]
    have lm:t'.2.length=t.2.length:=by rw [e2,kG]
    refine ⟨p,dd,t.1,t'.1,t.2,rfl,zf,hdo,okt,by omega,dd,t.1,t'.1,rfl,hdo,by omega,_,rfl,rfl,_,_,rfl,_,_,rfl,rfl,t',by rw [xQ,e2],?_,by rw [lm];exact hdo.okM okt,yk hdo cs,by rw [lm];exact l2,rfl,rfl,_,rfl⟩
    rw [<- ht]
    conv=>rhs;unfold jX
    rw [hw]
  ·rintro ρ M' ⟨t,rfl,ht,okt,cs,l2,u,v,z,rfl⟩
   refine ⟨hsq _,?_⟩
   rw [gh (by rw [j4];exact aM _)] at ht
   rw [<- ht] at q
   have q:Q (.d (vi t)) M:=q
   subst hr1
   have l1:=cs.1
   obtain ⟨⟨row,hd⟩,ms⟩:=t
   cases hd with
   | some h=>
    rw [show oD (some h)=.int h from rfl]
    dsimp only
    walk_at "ra"
    exact ⟨_,zF zf,_,qV _,by omega,kC (fr _) q⟩
   | none=>
    rw [show oD none=.non from rfl]
    obtain ⟨os,rfl,ho⟩:=D0 cs
    dsimp only
    walk_at "ra"
    refine ⟨by omega,by omega,?_⟩
    rw [bp]
    have h1:=ho.1
    refine FX (fun (o:Option AV)=>[some (.d (.int n)),some (.d x),some (.d (.lst ((os.map some).map oD))),some (.d .non),some (.ref p),u,o,z]) (fun i=>.d (.int (os.idxOf (i:Int):Nat))) ⟨_,rfl⟩ trivial (by rw [jg];omega) (fun o i y Q hy q=>?_) fun o=>?_
    ·obtain ⟨hi,rfl⟩:=jw hy
     walk_at "ra"
     have hm:=Xs ho hi
     have hlt:os.idxOf (i:Int)<os.length:=gS hm
     have hg:os.getD (os.idxOf (i:Int)) 0=(i:Int):=by
      rw [aD,au hlt]
      exact mr hlt
     refine ⟨⟨_,rfl⟩,os,?_,os.idxOf (i:Int),hlt,by rw [hg];omega,fun m hmm z=>?_,q _⟩
     ·rw [aZ,aZ];rfl
     ·have:=ho.inj (i:=m) (j:=os.idxOf (i:Int)) (by omega) (by omega) (by rw [z,hg];omega)
      omega
    ·refine ⟨(bL (os.map some)).map .int,?_,_,zF zf,_,qV _,by omega,kC (fr _) q⟩
     have e:(b8 (wY 0 1 n).length).map (fun i:Nat=>AV.d (.int (os.idxOf (i:Int):Nat)))=((bL (os.map some)).map Dat.int).map AV.d:=by
      unfold bL
      rw [jg,aw,h1,aZ,aZ]
      exact fC fun k _=>by show AV.d (.int (os.idxOf (k:Int):Nat))=AV.d (.int ((os.map some).idxOf (some (k:Int)):Nat));rw [Xz]
     rw [e];exact zT _
 cases x with
 | tup l=>walk_at "ra";exact ⟨hs2,main l (.inl rfl) rfl⟩
 | lst l=>walk_at "ra";exact ⟨hs2,main l (.inr rfl) rfl⟩
 | non=>walk_at "ra";exact ⟨hs2,hs3,kC Fr.refl q⟩
 | bl b=>walk_at "ra";exact ⟨hs2,hs3,kC Fr.refl q⟩
 | str b=>walk_at "ra";exact ⟨hs2,hs3,kC Fr.refl q⟩
 | int b=>walk_at "ra";exact ⟨hs2,hs3,kC Fr.refl q⟩
 | ty _=>have:=ok.1;rw [dp] at this;omega
 | rng _ _ _=>have:=ok.1;rw [dp] at this;omega
 | scr _ _=>have:=ok.1;rw [dp] at this;omega
noncomputable abbrev yF:cg:=top 28
theorem wu:zr ["_law_found","_law_due","_law_one","_law_other"] ["_law_found","_law_due"] (zg yF):=⟨rfl,rfl,rfl,by decide +kernel,rfl,by decide +kernel,by decide +kernel⟩
noncomputable def wM (n:Nat):ASp:=fun xs M Q=>∃ (x y:AV) (d:Dat),xs=[x,y]/\yl x M=some d/\yl y M=some d/\jp n d/\n<=30/\Q (.d (.bl true)) M
noncomputable def aNo:ASp:=fun _ _ _=>False
theorem Q7 {x y:AV} {sp:ASp}(hsp:∀ xs M Q,wM n xs M Q->sp xs M Q){N:List AV->ASt->MH->Prop}(hl:l.length<=100000)(hd:∀ d ∈ l,jp n d)(hn:n<=30){u v:Option AV}(hN:N (l.map fun _=>AV.d (.bl true)) [] M)(hN':∀ acc ρ ρ' M,N acc ρ M->N acc ρ' M) :
  QU (DL 2 (wJ (xA 2) (wJ (xA 3) AZ))) Zw (yz (Yl sp (qQ (qS 2) (qQ (qS 3) xW)))) (fun M'=>qv x M'=qv x M/\qv y M'=qv y M) N (Qs l l) [] [some x,some y,u,v] M:=by
 have e:(Qs l l).map (fun _=>AV.d (.bl true))=l.map fun _=>AV.d (.bl true):=by
  rw [List.map_const',List.map_const',xm,i7]
 refine Ah (fun (o:Option AV × Option AV)=>[some x,some y,o.1,o.2]) (fun _=>.d (.bl true)) ⟨(u,v),rfl⟩ ⟨rfl,rfl⟩ (by rw [xm,i7];exact hl) (fun o z Q hz q=>?_) fun o=>by rw [e];exact hN' _ _ _ _ hN
 obtain ⟨i,hi⟩:=bC hz
 obtain ⟨d,d',h1,h2,rfl⟩:=wz hi
 rw [h1] at h2;cases h2
 walk_at "ra"
 exact hsp _ _ _ ⟨_,_,d,rfl,rfl,rfl,hd d (bf h1),hn,q (some (.d d),some (.d d))⟩
theorem QL:∃ bs:List Bool,(l.map fun _=>Dat.bl true)=bs.map Dat.bl/\(l.map fun _=>AV.d (Dat.bl true))=bs.map (fun b=>AV.d (.bl b))/\bs.all id=true:=⟨l.map fun _=>true,by rw [aZ];rfl,by rw [aZ];rfl,by simp⟩
theorem Md (a:At K mg "_law_alike" yF):Df P w K mg base "_law_alike" ["_law_found","_law_due"] 1 (cSp aNo):=
 wj (k:=0) a wu (fun _ _ _ _ _ _=>Pn2_ fun _ _=>rfl) (fun vs H Q E h=>by obtain ⟨_,_,_,_,_,_,h,_⟩:=h;exact h.elim) (fun f cdv A outer s H vs Q E hr h=>by obtain ⟨_,_,_,_,_,_,h,_⟩:=h;exact h.elim)
theorem Jx (a:At K mg "_law_alike" yF)(B:Blt mg)(Ball:mg "all"=none){kk:Nat}(n:Nat){sp:ASp}(hsp:∀ xs M Q,1<=n->wM (n - 1) xs M Q->sp xs M Q)(D_law_alike:Df P w K mg base "_law_alike" ["_law_found","_law_due"] kk (cSp sp)):Df P w K mg base "_law_alike" ["_law_found","_law_due"] (kk+1) (cSp (wM n)):=by
 refine dfA (k:=kk) a wu (fun _ _ _ _ _ _=>Pn2_ fun _ _=>rfl) (fun xs M Q h=>?_) (fun f cdv A outer s H E hr=>?_)
 ·obtain ⟨_,_,_,rfl,_⟩:=h;rfl
 have sc:=wu
 have hsl:=hsl
 have hs2:0+1+1<=aQ:=by omega
 refine ⟨_,(zc (zN (qp (zn xR rfl B.isinstance zz (za (pv 1) (za (zD (za (zW (v:=.ty "list") rfl B.list qy rfl) (za (zW (v:=.ty "tuple") rfl B.tuple qz rfl) zb))) zb))) (fun _=>rfl)) (zc (zN (PW.pt (kl (qJ (qp (zn xR rfl B.isinstance zz (za (pv 0) (za (zD (za (zW (v:=.ty "list") rfl B.list qy rfl) (za (zW (v:=.ty "tuple") rfl B.tuple qz rfl) zb))) zb))) (fun _=>rfl))) (jE (zo (ka hr.units) (zn qm rfl B.isinstance zz (za (pv 0) (za (zW (v:=.ty "list") rfl B.list qy rfl) zb))) (zn qm rfl B.isinstance zz (za (pv 1) (za (zW (v:=.ty "list") rfl B.list qy rfl) zb))) (zq _))))) (ze (zA kf)) zw)
  (ze (zA (yV (kS (zY hr.units) (zn zv rfl B.len qd (za (pv 0) zb)) (zn zv rfl B.len qd (za (pv 1) zb)) (zq _)) (QE (zn (yO rfl) rfl Ball Kt (za (kR (ts:=[2,3]) rfl rfl (DS rfl B.zip (za (pv 0) (za (pv 1) zb))) (fun _ _ _ _=>(qj (K:=K) 2 rfl rfl (zy (zx (i:=2) sc.nd rfl (by first | exact aV rfl | exact aW rfl)) (zy (zx (i:=3) sc.nd rfl (by first | exact aV rfl | exact aW rfl)) qi)))) (fun _ _ _ _=>yp) (fun _ _ _ _=>(zO D_law_alike hr rfl (za (pv 2) (za (pv 3) zb))))) zb))))))) zw)
  (zc (zN (PW.pt (kl (zo je (pv 1) zI (zq _)) (jE (qp (zn qm rfl B.isinstance zz (za (pv 1) (za (zW (v:=.ty "str") rfl B.str wO rfl) zb))) (fun _=>rfl))))) (ze (zA (yV (kS (zY hr.units) (pv 0) (pv 1) (zq _)) (QE (kS (zY hr.units) (zn qm rfl B.isinstance zz (za (pv 0) (za (zW (v:=.ty "str") rfl B.str wO rfl) zb))) (zn qm rfl B.isinstance zz (za (pv 1) (za (zW (v:=.ty "str") rfl B.str wO rfl) zb))) (zq _)))))) zw)
  (ze (zA (yV (zn qm rfl B.isinstance zz (za (pv 0) (za (zW (v:=.ty "int") rfl B.int wQ rfl) zb))) (yV (kS (zY hr.units) (zn qm rfl B.isinstance zz (za (pv 0) (za (zW (v:=.ty "bool") rfl B.bool vM rfl) zb))) (zn qm rfl B.isinstance zz (za (pv 1) (za (zW (v:=.ty "bool") rfl B.bool vM rfl) zb))) (zq _)) (QE (kS (zY hr.units) (pv 0) (pv 1) (zq _))))))))),?_⟩
 refine ex2 (by walk_at "sim") ?_
 rintro xs M Q ⟨x,y,d,rfl,hx,hy,hd,hn,q⟩
 rw [show zM ["_law_found","_law_due","_law_one","_law_other"] [x,y]=[some x,some y,none,none] from rfl]
 have fin:=qD (M0:=M) Fr.refl (.bl true)
 cases d with
 | non=>obtain rfl:=qG hx (fun _ z=>nomatch z);obtain rfl:=qG hy (fun _ z=>nomatch z);walk_at "ra";exact ⟨hs2,_,_,fin,q⟩
 | bl b=>obtain rfl:=qG hx (fun _ z=>nomatch z);obtain rfl:=qG hy (fun _ z=>nomatch z);walk_at "ra";exact ⟨hs2,_,_,fin,q⟩
 | int i=>obtain rfl:=qG hx (fun _ z=>nomatch z);obtain rfl:=qG hy (fun _ z=>nomatch z);walk_at "ra";exact ⟨hs2,_,_,fin,q⟩
 | str i=>obtain rfl:=qG hx (fun _ z=>nomatch z);obtain rfl:=qG hy (fun _ z=>nomatch z);walk_at "ra";exact ⟨hs2,_,_,fin,q⟩
 | tup l=>
  obtain rfl:=qG hx (fun _ z=>nomatch z)
  obtain rfl:=qG hy (fun _ z=>nomatch z)
  cases n with
  | zero=>exact hd.no_t.elim
  | succ n=>
   obtain ⟨hl,hd'⟩:=hd.tup
   walk_at "ra"
   refine ⟨hs2,hs2,l,l,.inr ⟨rfl,rfl,aM _⟩,Q7 (n:=n) (sp:=sp) (fun xs M Q h=>hsp xs M Q (by omega) h) hl hd' (by omega) ?_ (fun _ _ _ _ z=>z)⟩
   obtain ⟨bs,b1,b2,b3⟩:=QL (l:=l)
   refine ⟨l.map fun _=>.bl true,?_,bs,by rw [aZ];exact b2,?_⟩
   ·rw [<- zT (l.map fun _=>Dat.bl true),aZ];rfl
   ·rw [b3];exact ⟨_,_,fin,q⟩
 | lst l=>
  obtain ⟨x1,x2,x3,x4⟩:=QJ hx
  obtain ⟨y1,y2,y3,y4⟩:=QJ hy
  cases n with
  | zero=>exact hd.no_l.elim
  | succ n=>
   obtain ⟨hl,hd'⟩:=hd.lst
   walk_at "ra"
   simp only [x2,x3,x4,y2,y3,y4]
   walk_at "ra"
   refine ⟨hs2,hs2,l,l,.inl ⟨x1,y1⟩,Q7 (n:=n) (sp:=sp) (fun xs M Q h=>hsp xs M Q (by omega) h) hl hd' (by omega) ?_ (fun _ _ _ _ z=>z)⟩
   obtain ⟨bs,b1,b2,b3⟩:=QL (l:=l)
   refine ⟨l.map fun _=>.bl true,?_,bs,by rw [aZ];exact b2,?_⟩
   ·rw [<- zT (l.map fun _=>Dat.bl true),aZ];rfl
   ·rw [b3];exact ⟨_,_,fin,q⟩
 | ty t=>have:=hd.1;rw [dp] at this;omega
 | rng _ _ _=>have:=hd.1;rw [dp] at this;omega
 | scr _ _=>have:=hd.1;rw [dp] at this;omega
theorem yU (a:At K mg "_law_alike" yF)(B:Blt mg)(Ball:mg "all"=none):∀ n,Df P w K mg base "_law_alike" ["_law_found","_law_due"] (n+2) (cSp (wM n))
 | 0=>Jx a B Ball 0 (sp:=aNo) (fun _ _ _ h=>absurd h (by omega)) (Md a)
 | n+1=>Jx a B Ball (n+1) (sp:=wM n) (fun _ _ _ _ h=>h) (yU a B Ball n)
noncomputable def AJ (K:aA):ASp:=fun xs M Q=>∃ (m:Int) (ns:List Int),xs=[.d (.scr K ns),.d (.int m)]/\0<m/\m<=60/\ns.length<=63/\∀ p M' (bs:List ay),Fr M M'->M p=none->M' p=some (.lst (bs.map AV.ref))->bs.Nodup->(∀ b ∈ bs,BxM M' b 0/\b ≠ p/\M b=none)->bs.length<=1000->Q (.ref p) M'
noncomputable abbrev Qo:cg:=top 29
theorem Jd:zr ["_law_script","_law_many","_law_cells","_law_k"] ["_law_script","_law_many"] (zg Qo):=⟨rfl,rfl,rfl,by decide +kernel,rfl,by decide +kernel,by decide +kernel⟩
theorem Au (a:At K mg "_law_boxes" Qo)(B:Blt mg)(D_law_folded:Df P w K mg base "_law_folded" ["_law_script","_law_many"] 1 (cSp (X3 K)))(D_law_box:Df P w K mg base "_law_box" ["_law_script","_law_k"] 1 (cSp Mz)):Df P w K mg base "_law_boxes" ["_law_script","_law_many"] 2 (cSp (AJ K)):=by
 refine dfA (k:=1) a Jd (fun _ _ _ _ _ _=>Pn2_ fun _ _=>rfl) (fun xs M Q h=>?_) (fun f cdv A outer s H E hr=>?_)
 ·obtain ⟨_,_,rfl,_⟩:=h;rfl
 have sc:=Jd
 have hsl:=hsl
 refine ⟨_,(zc (zE (i:=2) sc.nd rfl (by first | exact aV rfl | exact aW rfl) (zO D_law_folded hr rfl (za (pv 0) (za (pv 1) zb))))
  (ze (zA (qX (kR (ts:=[3]) rfl rfl (qE rfl B.range (za (zn (Zk rfl) rfl B.max BI (za zh (za (zn zv rfl B.len qd (za (pv 2) zb)) zb))) zb)) (fun _ _ _ _=>(zx (i:=3) sc.nd rfl (by first | exact aV rfl | exact aW rfl))) (fun _ _ _ _=>yp) (fun _ _ _ _=>(zO D_law_box hr rfl (za (pv 2) (za (pv 3) zb))))))))),?_⟩
 refine ex2 (by walk_at "sim") ?_
 rintro xs M Q ⟨m,ns,rfl,h1,h2,hn,q⟩
 rw [show zM ["_law_script","_law_many","_law_cells","_law_k"] [.d (.scr K ns),.d (.int m)]=[some (.d (.scr K ns)),some (.d (.int m)),none,none] from rfl]
 refine zd fun r hr0=>?_
 walk_at "ra"
 refine ⟨m,ns,rfl,h1,h2,hn,fun cs lc=>?_⟩
 subst hr0
 walk_at "ra"
 obtain ⟨z,hz,hz'⟩:∃ z:Nat,(if (cs.length:Int) > 1 then (cs.length:Int) else 1)=(z:Int)/\z<=1000:=by
  split
  ·exact ⟨cs.length,rfl,by omega⟩
  ·exact ⟨1,rfl,by omega⟩
 rw [hz,bp]
 refine ⟨by omega,by omega,?_⟩
 refine ⟨fun i acc ρ M'=>∃ u bs,ρ=[some (.d (.scr K ns)),some (.d (.int m)),some (.d (ilD cs)),u]/\acc=bs.map AV.ref/\bs.length=i/\bs.Nodup/\Fr M M'/\(∀ q o,M' q=some o->M q=some o \/ q ∈ bs)/\∀ b ∈ bs,BxM M' b 0/\M b=none,⟨none,[],rfl,rfl,rfl,gk,Fr.refl,(fun q o e=>.inl e),fun b hb=>nomatch hb⟩,?_,?_⟩
 ·rintro i y acc ρ M' hy ⟨u,bs,rfl,rfl,lb,nd,f,ho,hb⟩
  obtain ⟨hi,rfl⟩:=jw hy
  refine ⟨trivial,?_⟩
  walk_at "ra"
  refine ⟨_,_,cs,rfl,F2 _ _,by omega,by omega,by omega,fun b o hbn bx=>⟨by omega,bs ++ [b],by rw [bO];rfl,by rw [bA,lb];rfl,?_,f.mup (f.non hbn) o,(fun q o' e=>?_),fun x hx=>?_⟩⟩
  ·refine List.nodup_append.mpr ⟨nd,by simp,fun x hx y hy e=>?_⟩
   rw [cj.mp hy] at e
   exact (hb x hx).1.ne (by rw [e];exact hbn)
  ·by_cases c:q=b
   ·exact .inr (by simp [c])
   ·rw [zi c] at e
    exact (ho q o' e).imp (fun z=>z) (fun z=>by simp [z])
  ·rcases dM.mp hx with hx | hx
   ·exact ⟨(hb x hx).1.put (fun z=>(hb x hx).1.ne (by rw [z];exact hbn)) o,(hb x hx).2⟩
   ·rw [cj.mp hx];exact ⟨bx,f.non hbn⟩
 ·rintro acc ρ M' ⟨u,bs,rfl,rfl,lb,nd,f,ho,hb⟩
  rw [jg] at lb
  refine ⟨trivial,fun p hp hp'=>?_⟩
  have hbp:∀ b ∈ bs,b ≠ p:=fun b h z=>(hb b h).1.ne (by rw [z];exact hp')
  refine ⟨.ref p,mup M' p (.lst (bs.map AV.ref)),⟨fun _=>.inl rfl,fun q' o e=>?_,.inl ⟨rfl,fun p' z=>by cases z;rw [zf];exact fun z=>nomatch z⟩⟩,q p _ bs (f.mup hp _) hp zf nd (fun b h=>⟨(hb b h).1.put (hbp b h) _,hbp b h,(hb b h).2⟩) (by omega)⟩
  by_cases c:q'=p
  ·rw [c,zf] at e
   cases e
   refine .inr fun r hr=>?_
   obtain ⟨y,hy,hz⟩:=(show ∃ y ∈ bs.map AV.ref,y.Has r from hr)
   obtain ⟨b,hb',rfl⟩:=bE.mp hy
   obtain rfl:b=r:=hz
   rw [zi (hbp _ hb')]
   exact (hb _ hb').1.ne
  ·rw [zi c] at e
   rcases ho q' o e with z | z
   ·exact .inl z
   ·exact .inr fun r hr=>absurd hr ((hb q' z).1.refs e r)
theorem BR (d:De):OkX (dD d):=by
 cases d <;> exact ⟨by simp [dD,dp,dps],fun l e=>by cases e;exact eV rfl⟩
theorem Av {l:List De}{s t:ES}{n:Nat}(h:vA l s t)(c:yh n s):yh n t:=by
 induction h with
 | nil=>exact c
 | cons h1 h2 ih=>exact ih (yk h1 c)
structure OkW (x:Dat):Prop where
 p:OkP x
 d:dp x<=40
 s:(pdD x).showable=true
 l:(pdD x).shown.length<=aQ
structure KF (K:aA)(cD cP cR cW cN cO:ay)(c:ay)(p o d:Bool):Prop where
 x:vw K c
 ip:aY K (.ref c) [.ref cP]=some p
 io:aY K (.ref c) [.ref cO]=some o
 id:aY K (.ref c) [.ref cD]=some d
 ir:aY K (.ref c) [.ref cR]=some false
 iw:aY K (.ref c) [.ref cW]=some false
 im:aY K (.ref c) [.ref cN]=some false
 v:aY K (.ref c) [.type "ValueError"]=some true
 hd:ci K c=true
theorem DE (i:Nat)(w:String):bP (af "place") (plw i w)=some (.int i):=by
 unfold plw bP
 rw [show (af "place" == ("place":Str))=true from by decide +kernel]
theorem Fc (i:Nat)(w:String):bP (af "word") (plw i w)=some (.str (af w)):=by
 unfold plw bP
 rw [show (af "word" == ("place":Str))=false from by decide +kernel]
 unfold bP
 rw [show (af "word" == ("word":Str))=true from by decide +kernel]
theorem FM (h:Int):bP (af "hand") (hdw h)=some (.int h):=by
 unfold hdw bP
 rw [show (af "hand" == ("hand":Str))=true from by decide +kernel]
noncomputable def Qd (cP cO cD:ay):ASp:=fun xs M Q=>∃ (e:ay),xs=[.ref e] /\
  ((∃ (i:Nat) (w:String),M e=some (.exc cP (plw i w))/\Q (.d (.tup [.str (af "bad"),.int i,.str (af w)])) M) \/
   (∃ h:Int,M e=some (.exc cO (hdw h))/\Q (.d (.tup [.str (af "open"),.int h])) M) \/
   (∃ w:String,M e=some (.exc cD (wrd w))/\Q (.d (.tup [.str (af "deed")])) M))
noncomputable abbrev Qe:cg:=top 33
theorem QK:zr ["_law_caught","_law_kinds"] ["_law_caught"] (zg Qe):=⟨rfl,rfl,rfl,by decide +kernel,rfl,by decide +kernel,by decide +kernel⟩
theorem W8 (a : At K mg "_law_refusal" Qe)(B : Blt mg)(BValueError : mg "ValueError" = none){cBadDeed : ay}(XG_BadDeed : mg "BadDeed" = some (.ref cBadDeed)){cBadPlan : ay}(XG_BadPlan : mg "BadPlan" = some (.ref cBadPlan)){cBadRing : ay}(XG_BadRing : mg "BadRing" = some (.ref cBadRing)){cBadRow : ay}(XG_BadRow : mg "BadRow" = some (.ref cBadRow)){cNoMatch : ay}(XG_NoMatch : mg "NoMatch" = some (.ref cNoMatch)){cNotDone : ay}(XG_NotDone : mg "NotDone" = some (.ref cNotDone))
    (XP:KF K cBadDeed cBadPlan cBadRing cBadRow cNoMatch cNotDone cBadPlan true false false) (XO:KF K cBadDeed cBadPlan cBadRing cBadRow cNoMatch cNotDone cNotDone false true false) (XD:KF K cBadDeed cBadPlan cBadRing cBadRow cNoMatch cNotDone cBadDeed false false true)
    (fpw:aT K (.ref cBadPlan) "word"=some none) (fpp:aT K (.ref cBadPlan) "place"=some none) (foh:aT K (.ref cNotDone) "hand"=some none):Df P w K mg base "_law_refusal" ["_law_caught"] 1 (cSp (Qd cBadPlan cNotDone cBadDeed)):=by
  refine dfA (k:=0) a QK (fun _ _ _ _ _ _=>Pn1_ fun _=>rfl) (fun xs M Q h=>?_) (fun f cdv A outer s H E hr=>?_)
  · obtain ⟨_,rfl,_⟩:=h;rfl
  have sc:=QK
  have hsl:=hsl
  refine' ⟨_,?q0,?qr⟩
  (case q0=>
    refine' zc ?q1 ?q2
    (case q1=>exact (zE (i:=1) sc.nd rfl (by first | exact aV rfl | exact aW rfl) (zR (za (kK (K:=K) rfl (pv 0) rfl B.isinstance (.own rfl XG_BadPlan (by decide) .nil)) (za (kK (K:=K) rfl (pv 0) rfl B.isinstance (.own rfl XG_NotDone (by decide) .nil)) (za (kK (K:=K) rfl (pv 0) rfl B.isinstance (.own rfl XG_BadDeed (by decide) .nil)) zb))))))
    (case q2=>
      refine' zc ?q3 ?q4
      (case q3=>exact (zE (i:=1) sc.nd rfl (by first | exact aV rfl | exact aW rfl) (zL kQ (pv 1) (zR (za (kK (K:=K) rfl (pv 0) rfl B.isinstance (.own rfl XG_BadRing (by decide) .nil)) (za (kK (K:=K) rfl (pv 0) rfl B.isinstance (.own rfl XG_BadRow (by decide) .nil)) (za (kK (K:=K) rfl (pv 0) rfl B.isinstance (.own rfl XG_NoMatch (by decide) .nil)) zb)))))))
      (case q4=>
        refine' zc ?q5 ?q6
        (case q5=>exact (zN (PW.pt (kl (zo (ka hr.units) (ym bV PySem.F.slot_list_count PySem.F.type_list_count Ww (pv 1) (za kf zb)) zh (zq _)) (jE (qJ (qp (kK (K:=K) rfl (pv 0) rfl B.isinstance (.blt rfl BValueError PyProof.Rows.Boot.«ValueError» (by decide) (by decide) .nil)) (fun _=>rfl)))))) (ze (zA (zD (za zm zb)))) zw))
        (case q6=>
          refine' zc ?q7 ?q8
          (case q7=>exact (zN (qp (zu zB (pv 1) zh (fun _ _=>rfl)) (fun _=>rfl)) (ze (zA (zD (za zm (za (vI (pv 0) rfl) (za (vI (pv 0) rfl) zb)))))) zw))
          (case q8=>
            refine' zc ?q9 ?q10
            (case q9=>exact (zN (qp (zu zB (pv 1) zh (fun _ _=>rfl)) (fun _=>rfl)) (ze (zA (zD (za zm (za (vI (pv 0) rfl) zb))))) zw))
            (case q10=>
              refine' ze ?q11
              (case q11=>
                refine' zA ?q12
                (case q12=>
                  refine' zD ?q13
                  (case q13=>
                    refine' za ?q14 ?q15
                    (case q14=>
                      refine' zu ?q16 ?q17 ?q18 ?q19
                      (case q16=>exact zB)
                      (case q17=>
                        refine' zR ?q20
                        (case q20=>
                          refine' za ?q21 ?q22
                          (case q21=>exact zm)
                          (case q22=>
                            refine' za ?q23 ?q24
                            (case q23=>exact zm)
                            (case q24=>
                              refine' za ?q25 ?q26
                              (case q25=>exact zm)
                              (case q26=>
                                refine' za ?q27 ?q28
                                (case q27=>exact zm)
                                (case q28=>
                                  refine' za ?q29 ?q30
                                  (case q29=>exact zm)
                                  (case q30=>
                                    refine' za ?q31 ?q32
                                    (case q31=>exact zm)
                                    (case q32=>exact zb))))))))
                      (case q18=>exact (ym bV iU iV YS (pv 1) (za kf zb)))
                      (case q19=>exact (fun _ _=>rfl)))
                    (case q15=>exact zb))))))))))
  refine ex2 (by walk_at "sim") ?_
  rintro xs M Q ⟨e,rfl,h⟩
  rw [show zM ["_law_caught","_law_kinds"] [.ref e]=[some (.ref e),none] from rfl]
  obtain ⟨c, p, o, d, fs, X, hm, h⟩ : ∃ c p o d fs, KF K cBadDeed cBadPlan cBadRing cBadRow cNoMatch cNotDone c p o d /\ M e = some (.exc c fs) /\
      ((c=cBadPlan/\p=true/\o=false/\d=false/\∃ i w,fs=plw i w/\Q (.d (.tup [.str (af "bad"),.int (i:Nat),.str (af w)])) M) \/
       (c=cNotDone/\p=false/\o=true/\d=false/\∃ h,fs=hdw h/\Q (.d (.tup [.str (af "open"),.int h])) M) \/
       (p=false/\o=false/\d=true/\Q (.d (.tup [.str (af "deed")])) M)):=by
    rcases h with ⟨i,w,hm,q⟩ | ⟨h,hm,q⟩ | ⟨w,hm,q⟩
    · exact ⟨_,_,_,_,_,XP,hm,.inl ⟨rfl,rfl,rfl,rfl,i,w,rfl,q⟩⟩
    · exact ⟨_,_,_,_,_,XO,hm,.inr (.inl ⟨rfl,rfl,rfl,rfl,h,rfl,q⟩)⟩
    · exact ⟨_,_,_,_,_,XD,hm,.inr (.inr ⟨rfl,rfl,rfl,q⟩)⟩
  refine zd fun r1 hr1=>?_
  walk_at "ra"
  refine ⟨c,⟨fs,hm⟩,X.x,p,X.ip,c,⟨fs,hm⟩,X.x,o,X.io,c,⟨fs,hm⟩,X.x,d,X.id,by omega,?_⟩
  subst hr1
  refine zd fun r1 hr1=>?_
  walk_at "ra"
  refine ⟨c,⟨fs,hm⟩,X.x,_,X.ir,c,⟨fs,hm⟩,X.x,_,X.iw,c,⟨fs,hm⟩,X.x,_,X.im,by omega,by omega,?_⟩
  subst hr1
  refine zd fun r1 hr1=>?_
  walk_at "ra"
  rcases h with ⟨rfl,rfl,rfl,rfl,i,w,rfl,q⟩ | ⟨rfl,rfl,rfl,rfl,h,rfl,q⟩ | ⟨rfl,rfl,rfl,q⟩
  · refine ⟨⟨_,rfl⟩,_,rfl,_,rfl,?_⟩
    rw [if_neg (fun z=>z (by decide +kernel))]
    refine ⟨_,⟨_,hm⟩,X.x,_,X.v,?_⟩
    rw [if_neg (by decide)]
    subst hr1
    refine zd fun r1 hr1=>?_
    walk_at "ra"
    refine ⟨_,rfl,_,rfl,?_⟩
    rw [if_pos rfl]
    exact ⟨_,_,hm,X.x,X.hd,fpp,_,DE _ _,_,rfl,_,_,hm,X.x,X.hd,fpw,_,Fc _ _,_,rfl,by omega,kC Fr.refl q⟩
  · refine ⟨⟨_,rfl⟩,_,rfl,_,rfl,?_⟩
    rw [if_neg (fun z=>z (by decide +kernel))]
    refine ⟨_,⟨_,hm⟩,X.x,_,X.v,?_⟩
    rw [if_neg (by decide)]
    subst hr1
    refine zd fun r1 hr1=>?_
    walk_at "ra"
    refine ⟨_,rfl,_,rfl,?_⟩
    rw [if_neg (by decide)]
    subst hr1
    refine zd fun r1 hr1=>?_
    walk_at "ra"
    refine ⟨_,rfl,_,rfl,?_⟩
    rw [if_pos rfl]
    exact ⟨_,_,hm,X.x,X.hd,foh,_,FM _,_,rfl,by omega,kC Fr.refl q⟩
  · refine ⟨⟨_,rfl⟩,_,rfl,_,rfl,?_⟩
    rw [if_neg (fun z=>z (by decide +kernel))]
    refine ⟨_,⟨_,hm⟩,X.x,_,X.v,?_⟩
    rw [if_neg (by decide)]
    subst hr1
    refine zd fun r1 hr1=>?_
    walk_at "ra"
    refine ⟨_,rfl,_,rfl,?_⟩
    rw [if_neg (by decide)]
    subst hr1
    refine zd fun r1 hr1=>?_
    walk_at "ra"
    refine ⟨_,rfl,_,rfl,?_⟩
    rw [if_neg (by decide)]
    subst hr1
    walk_at "ra"
    refine ⟨by omega,⟨_,rfl⟩,_,rfl,_,rfl,2,by decide,fun y h=>?_,fun m y hm h=>?_,_,rfl,by omega,_,rfl,kC Fr.refl q⟩
    · cases h;rfl
    · obtain rfl | rfl:m=0 \/ m=1:=by omega
      all_goals (cases h;rfl)
noncomputable abbrev xr (u v:Int):List Dat:=[.tup [.str (af "move"),.int u,.int v],.tup [.str (af "swap"),.int u,.int u],.tup [.str (af "move"),.int u,.int u],.tup [.str (af "swap"),.int u,.int v],.tup [.str (af "take"),.int u],.tup [.str (af "lay"),.int v],.tup [.str (af "move"),.int v,.int v]]
noncomputable abbrev vF (u v:Int):List Dat:=[.tup [.str (af "swap"),.int v,.int v],.tup [.str (af "swap"),.int v,.int u],.tup [.str (af "lay"),.int u],.tup [.str (af "move"),.int v,.int u],.tup [.str (af "take"),.int v],.tup [.str (af "swap"),.int u]]
noncomputable abbrev KI (u v:Int):List Dat:=[.tup [.str (af "lay"),.int u,.int v],.lst [.str (af "move"),.int u,.int v],.tup [.str (af "Move"),.int u,.int v],.tup [.str (af "move"),.int u,.bl true],.tup [.str (af "take")],.tup [.str (af "swap"),.int v,.int v,.int v]]
noncomputable abbrev JJ (u v:Int):List Dat:=xr u v ++ vF u v ++ KI u v ++ [.tup [.str (af "take"),.int u,.int u]]
theorem Lg (u v:Int):∀ d ∈ JJ u v,OkX d:=by
 intro d hd
 simp only [JJ,xr,vF,KI,List.cons_append,List.nil_append,aF,aN,or_false] at hd
 rcases hd with rfl | rfl | rfl | rfl | rfl | rfl | rfl | rfl | rfl | rfl | rfl | rfl | rfl | rfl | rfl | rfl | rfl | rfl | rfl | rfl
 all_goals refine ⟨by simp [dp,dps],fun l e=>?_⟩
 all_goals first | (cases e;exact eV rfl) | cases e
theorem WX {l:List Int}{r:Int}(h0:0<=r)(h1:r<l.length):∃ v,atI (l.map fun i=>AV.d (.int i)) r=some (.d (.int v)):=by
 refine ⟨l[r.toNat]'(by omega),?_⟩
 unfold atI
 rw [jc h0 (by rw [aw];exact h1)]
 show (l.map _)[r.toNat]?=_
 rw [aK,au (by omega)];rfl
noncomputable def Hb:ASp:=fun xs M Q=>∃ (b:ay) (N:Nat) (row:List (Option Int)),xs=[.ref b,.d (.lst (row.map oD))]/\BxM M b N/\N<1000000/\row.length<=1000/\∀ x M',BxS M M' b (N+5)->OkX x->Q (.d x) M'
noncomputable abbrev DV:cg:=top 36
theorem Ab:zr ["_law_box_here","_law_row","_law_n","_law_bare","_law_held","_law_some","_law_x","_law_y","_law_k"] ["_law_box_here","_law_row"] (zg DV):=⟨rfl,rfl,rfl,by decide +kernel,rfl,by decide +kernel,by decide +kernel⟩
theorem Ig (a:At K mg "_law_double" DV)(B:Blt mg)(D_law_take:Df P w K mg base "_law_take" ["_law_box_here","_law_many"] 1 (cSp ZK)):Df P w K mg base "_law_double" ["_law_box_here","_law_row"] 2 (cSp Hb):=by
 refine dfA (k:=1) a Ab (fun _ _ _ _ _ _=>Pn2_ fun _ _=>rfl) (fun xs M Q h=>?_) (fun f cdv A outer s H E hr=>?_)
 ·obtain ⟨_,_,_,rfl,_⟩:=h;rfl
 have sc:=Ab
 have hsl:=hsl
 refine' ⟨_,?q0,?qr⟩
 (case q0=>
  refine' zc ?q1 ?q2
  (case q1=>exact (zE (i:=2) sc.nd rfl (by first | exact aV rfl | exact aW rfl) (zn zv rfl B.len qd (za (pv 1) zb))))
  (case q2=>
   refine' zc ?q3 ?q4
   (case q3=>exact (zE (i:=3) sc.nd rfl (by first | exact aV rfl | exact aW rfl) (zL kQ (kR (ts:=[8]) rfl rfl (qE rfl B.range (za (pv 2) zb)) (fun _ _ _ _=>(zx (i:=8) sc.nd rfl (by first | exact aV rfl | exact aW rfl))) (fun _ _ _ _=>vQ (zo je (zu (Qr (K:=K) rfl) (pv 1) (pv 8) (fun _ _=>rfl)) zI (zq _))) (fun _ _ _ _=>(pv 8))) (zR (za (pv 2) (za (BK Kk zh) zb))))))
   (case q4=>
    refine' zc ?q5 ?q6
    (case q5=>exact (zE (i:=4) sc.nd rfl (by first | exact aV rfl | exact aW rfl) (zL kQ (kR (ts:=[8]) rfl rfl (qE rfl B.range (za (pv 2) zb)) (fun _ _ _ _=>(zx (i:=8) sc.nd rfl (by first | exact aV rfl | exact aW rfl))) (fun _ _ _ _=>vQ (zo jx (zu (Qr (K:=K) rfl) (pv 1) (pv 8) (fun _ _=>rfl)) zI (zq _))) (fun _ _ _ _=>(pv 8))) (zR (za (pv 2) zb)))))
    (case q6=>
     refine' zc ?q7 ?q8
     (case q7=>exact (KA (i:=6) (j:=7) rfl sc.nd rfl rfl (by decide) rfl rfl (za (zu zB (pv 3) (zO D_law_take hr rfl (za (pv 0) (za (zn zv rfl B.len qd (za (pv 3) zb)) zb))) (fun _ _=>rfl)) (za (zu zB (pv 4) (zO D_law_take hr rfl (za (pv 0) (za (zn zv rfl B.len qd (za (pv 4) zb)) zb))) (fun _ _=>rfl)) zb)) rfl))
     (case q8=>
      refine' zc ?q9 ?q10
      (case q9=>
       refine' zE (i:=5) ?q11 ?q12 ?q13 ?q14
       (case q11=>exact sc.nd)
       (case q12=>exact rfl)
       (case q13=>exact (by first | exact aV rfl | exact aW rfl))
       (case q14=>
        refine' qX ?q15
        (case q15=>
         refine' zR ?q16
         (case q16=>
          refine' za ?q17 ?q18
          (case q17=>exact (zD (za zm (za (pv 6) (za (pv 7) zb)))))
          (case q18=>
           refine' za ?q19 ?q20
           (case q19=>exact (zD (za zm (za (pv 6) (za (pv 6) zb)))))
           (case q20=>
            refine' za ?q21 ?q22
            (case q21=>exact (zD (za zm (za (pv 6) (za (pv 6) zb)))))
            (case q22=>
             refine' za ?q23 ?q24
             (case q23=>exact (zD (za zm (za (pv 6) (za (pv 7) zb)))))
             (case q24=>
              refine' za ?q25 ?q26
              (case q25=>exact (zD (za zm (za (pv 6) zb))))
              (case q26=>
               refine' za ?q27 ?q28
               (case q27=>exact (zD (za zm (za (pv 7) zb))))
               (case q28=>
                refine' za ?q29 ?q30
                (case q29=>exact (zD (za zm (za (pv 7) (za (pv 7) zb)))))
                (case q30=>exact zb)))))))))))
      (case q10=>
       refine' zc ?q31 ?q32
       (case q31=>
        refine' zE (i:=5) ?q33 ?q34 ?q35 ?q36
        (case q33=>exact sc.nd)
        (case q34=>exact rfl)
        (case q35=>exact (by first | exact aV rfl | exact aW rfl))
        (case q36=>
         refine' qX ?q37
         (case q37=>
          refine' zL ?q38 ?q39 ?q40
          (case q38=>exact kQ)
          (case q39=>exact (pv 5))
          (case q40=>
           refine' zR ?q41
           (case q41=>
            refine' za ?q42 ?q43
            (case q42=>exact (zD (za zm (za (pv 7) (za (pv 7) zb)))))
            (case q43=>
             refine' za ?q44 ?q45
             (case q44=>exact (zD (za zm (za (pv 7) (za (pv 6) zb)))))
             (case q45=>
              refine' za ?q46 ?q47
              (case q46=>exact (zD (za zm (za (pv 6) zb))))
              (case q47=>
               refine' za ?q48 ?q49
               (case q48=>exact (zD (za zm (za (pv 7) (za (pv 6) zb)))))
               (case q49=>
                refine' za ?q50 ?q51
                (case q50=>exact (zD (za zm (za (pv 7) zb))))
                (case q51=>
                 refine' za ?q52 ?q53
                 (case q52=>exact (zD (za zm (za (pv 6) zb))))
                 (case q53=>exact zb)))))))))))
       (case q32=>
        refine' zc ?q54 ?q55
        (case q54=>
         refine' zE (i:=5) ?q56 ?q57 ?q58 ?q59
         (case q56=>exact sc.nd)
         (case q57=>exact rfl)
         (case q58=>exact (by first | exact aV rfl | exact aW rfl))
         (case q59=>
          refine' qX ?q60
          (case q60=>
           refine' zL ?q61 ?q62 ?q63
           (case q61=>exact kQ)
           (case q62=>exact (pv 5))
           (case q63=>
            refine' zR ?q64
            (case q64=>
             refine' za ?q65 ?q66
             (case q65=>exact (zD (za zm (za (pv 6) (za (pv 7) zb)))))
             (case q66=>
              refine' za ?q67 ?q68
              (case q67=>exact (zR (za zm (za (pv 6) (za (pv 7) zb)))))
              (case q68=>
               refine' za ?q69 ?q70
               (case q69=>exact (zD (za zm (za (pv 6) (za (pv 7) zb)))))
               (case q70=>
                refine' za ?q71 ?q72
                (case q71=>exact (zD (za zm (za (pv 6) (za kf zb)))))
                (case q72=>
                 refine' za ?q73 ?q74
                 (case q73=>exact (zD (za zm zb)))
                 (case q74=>
                  refine' za ?q75 ?q76
                  (case q75=>exact (zD (za zm (za (pv 7) (za (pv 7) (za (pv 7) zb))))))
                  (case q76=>exact zb)))))))))))
        (case q55=>exact (zc (qB (ym bV cL cM j6 (pv 5) (za (zD (za zm (za (pv 6) (za (pv 6) zb)))) zb))) (ze (zA (zu zB (pv 5) (zO D_law_take hr rfl (za (pv 0) (za zh zb))) (fun _ _=>rfl)))))))))))))
 refine ex2 (by walk_at "sim") ?_
 rintro xs M Q ⟨b,N,row,rfl,hb,hN,hl,q⟩
 rw [show zM ["_law_box_here","_law_row","_law_n","_law_bare","_law_held","_law_some","_law_x","_law_y","_law_k"] [.ref b,.d (.lst (row.map oD))]=[some (.ref b),some (.d (.lst (row.map oD))),none,none,none,none,none,none,none] from rfl]
 have sb:=SB.refl hb
 refine zd fun r1 hr1=>?_
 walk_at "ra"
 have pn:∀ l:List Nat,pur (niA l)=some (l.map fun k:Nat=>Dat.int k):=fun l=>by
  unfold niA;rw [show (fun k:Nat=>AV.d (.int k))=AV.d ∘ fun k:Nat=>Dat.int k from rfl,<- aZ];exact zT _
 subst hr1
 refine zd fun r1 hr1=>?_
 walk_at "ra"
 refine ⟨by omega,by omega,?_⟩
 rw [bp]
 refine yy (p:=fun c=>c.isNone) (R:=fun o=>[some (.ref b),some (.d (.lst (row.map oD))),some (.d (.int row.length)),none,none,none,none,none,o]) hl (fun o k Q hk q=>?_) (fun _ _=>rfl) (fun _=>rfl) fun o=>⟨_,pn _,?_⟩
 ·refine ⟨_,rfl,_,rfl,_,_,_,rfl,rfl,jf hk,rfl,_,rfl,?_⟩
  cases h:row.getD k none <;> rw [h] at q <;> exact q
 have pc:∀ (l:List Nat) (r:List Int),pur ((l.map fun k:Nat=>Dat.int k).map AV.d ++ r.map fun i=>AV.d (.int i))=some ((l.map (fun k:Nat=>(k:Int)) ++ r).map .int):=fun l r=>by
  rw [show (r.map fun i=>AV.d (.int i))=(r.map Dat.int).map AV.d by rw [aZ];rfl,<- bO,zT,bO,aZ];rfl
 have lsel:∀ p,(xh p row).length<=1000:=fun p=>bz (eU _ _) (by rw [dH];exact hl)
 have lA:=lsel (fun c=>c.isNone)
 have lB:=lsel (fun c=>c.isSome)
 refine ⟨by omega,by rw [aw];omega,_,pc (xh (fun c=>c.isNone) row) [(row.length:Int),-1],?_⟩
 obtain ⟨as,has,la0,la1⟩:∃ as:List Int,(xh (fun c=>c.isNone) row).map (fun k:Nat=>(k:Int)) ++ [(row.length:Int),-1]=as/\0<as.length/\as.length<=1002:=⟨_,rfl,by simp,by simp;omega⟩
 rw [has]
 subst hr1
 refine zd fun r1 hr1=>?_
 walk_at "ra"
 refine ⟨by omega,by omega,?_⟩
 rw [bp]
 refine yy (p:=fun c=>c.isSome) (R:=fun o=>[some (.ref b),some (.d (.lst (row.map oD))),some (.d (.int row.length)),some (.d (.lst (as.map .int))),none,none,none,none,o]) hl (fun o k Q hk q=>?_) (fun _ _=>rfl) (fun _=>rfl) fun o=>⟨_,pn _,?_⟩
 ·refine ⟨_,rfl,_,rfl,_,_,_,rfl,rfl,jf hk,rfl,_,rfl,?_⟩
  cases h:row.getD k none <;> rw [h] at q <;> exact q
 refine ⟨by omega,by rw [aw];omega,_,pc (xh (fun c=>c.isSome) row) [(row.length:Int)],?_⟩
 obtain ⟨bs,hbs,lb0,lb1⟩:∃ bs:List Int,(xh (fun c=>c.isSome) row).map (fun k:Nat=>(k:Int)) ++ [(row.length:Int)]=bs/\0<bs.length/\bs.length<=1002:=⟨_,rfl,by simp,by simp;omega⟩
 rw [hbs]
 clear pc lA lB lsel pn has hbs
 subst hr1
 refine zd fun r1 hr1=>?_
 walk_at "ra"
 refine ⟨b,(as.length:Int),_,rfl,sb.bx,by omega,by omega,by omega,fun i M1 s1 i0 i1=>?_⟩
 have sb:=sb.go s1
 obtain ⟨u,eu⟩:=WX i0 i1
 refine ⟨_,rfl,_,eu,b,(bs.length:Int),_,rfl,sb.bx,by omega,by omega,by omega,fun j M2 s2 j0 j1=>?_⟩
 have sb:=sb.go s2
 obtain ⟨v,ev⟩:=WX j0 j1
 refine ⟨_,rfl,_,ev,?_⟩
 clear eu ev i0 i1 j0 j1 la0 la1 lb0 lb1
 subst hr1
 refine zd fun r1 hr1=>?_
 walk_at "ra"
 repeat (refine And.intro (by omega) ?_)
 intro p hp _
 obtain ⟨p0,pb⟩:=sb.new hp
 show r1 _ _ _ (mup M2 p (.lst ((xr u v).map .d)))
 have sb:=sb.put p0 pb (.lst ((xr u v).map .d))
 have hs:mup M2 p (.lst ((xr u v).map .d)) p=some (.lst ((xr u v).map .d)):=zf
 generalize mup M2 p (.lst ((xr u v).map .d))=M3 at *
 subst hr1
 refine zd fun r1 hr1=>?_
 walk_at "ra"
 repeat (refine And.intro (by omega) ?_)
 refine ⟨_,qY hs,by show 7+6<=_;omega,fun p' hp' _=>?_⟩
 clear hs
 obtain ⟨p0',pb'⟩:=sb.new hp'
 show r1 _ _ _ (mup M3 p' (.lst ((xr u v ++ vF u v).map .d)))
 have sb:=sb.put p0' pb' (.lst ((xr u v ++ vF u v).map .d))
 have hs:mup M3 p' (.lst ((xr u v ++ vF u v).map .d)) p'=some (.lst ((xr u v ++ vF u v).map .d)):=zf
 generalize mup M3 p' (.lst ((xr u v ++ vF u v).map .d))=M4 at *
 subst hr1
 refine zd fun r1 hr1=>?_
 walk_at "ra"
 repeat (first | refine And.intro (by omega) ?_ | refine And.intro ⟨by decide,by decide,by decide⟩ ?_)
 refine ⟨_,qY hs,by show 13+6<=_;omega,fun p2 hp2 _=>?_⟩
 clear hs
 obtain ⟨p20,p2b⟩:=sb.new hp2
 show r1 _ _ _ (mup M4 p2 (.lst ((xr u v ++ vF u v ++ KI u v).map .d)))
 have sb:=sb.put p20 p2b (.lst ((xr u v ++ vF u v ++ KI u v).map .d))
 have hs:mup M4 p2 (.lst ((xr u v ++ vF u v ++ KI u v).map .d)) p2=some (.lst ((xr u v ++ vF u v ++ KI u v).map .d)):=zf
 generalize mup M4 p2 (.lst ((xr u v ++ vF u v ++ KI u v).map .d))=M5 at *
 subst hr1
 refine zd fun r1 hr1=>?_
 walk_at "ra"
 refine ⟨⟨_,qY hs⟩,by omega,_,hs,by show 19<_;omega,?_⟩
 clear hs
 show r1 _ _ _ (mup M5 p2 (.lst ((JJ u v).map .d)))
 have sb:=sb.put p20 p2b (.lst ((JJ u v).map .d))
 have hs:mup M5 p2 (.lst ((JJ u v).map .d)) p2=some (.lst ((JJ u v).map .d)):=zf
 generalize mup M5 p2 (.lst ((JJ u v).map .d))=M6 at *
 subst hr1
 walk_at "ra"
 refine ⟨b,20,_,rfl,sb.bx,by omega,by omega,by omega,fun i M7 s7 i0 i1=>?_⟩
 have hs:=(s7.at p2b).trans hs
 have sb:=sb.go s7
 obtain ⟨d,hd,ed⟩:=M8 (l:=JJ u v) (i:=i) i0 i1
 refine ⟨_,zF hs,_,rfl,_,ed,?_⟩
 exact (sb.mono (show _<=N+5 by omega)).rt fun M' s=>q d M' s (Lg u v d hd)
noncomputable def va (n:Nat)(x:Dat):Dat:=match jV n x with
 | .error (i,w)=>.tup [.str (af "bad"),.int i,.str (af w)]
 | .ok t=>match t.1.2 with
  | some h=>.tup [.str (af "open"),.int h]
  | none=>.tup [.str (af "order"),.lst ((bL t.1.1).map .int)]
noncomputable def WW:ASp:=fun xs M Q=>∃ (n:Nat) (x:Dat),xs=[.d (.int n),.d x]/\n<=1000/\OkP x/\Q (.d (va n x)) M
noncomputable abbrev QG:cg:=top 34
theorem QT:zr ["_law_n","_law_plan_here","_law_caught","_law_found","error"] ["_law_n","_law_plan_here"] (zg QG):=⟨rfl,rfl,rfl,by decide +kernel,rfl,by decide +kernel,by decide +kernel⟩
variable {cTurnError cBadDeed cBadPlan cNotDone:ay}
theorem WV (a:At K mg "_law_walk_told" QG)(B:Blt mg) (XG_TurnError:mg "TurnError"=some (.ref cTurnError)) (DX_walked:DfX P w K mg base "walked" ["n","plan"] 8 (jk (IM cBadPlan)))(D_law_refusal:Df P w K mg base "_law_refusal" ["_law_caught"] 8 (cSp (Qd cBadPlan cNotDone cBadDeed)))(XT:cf K (.ref cBadPlan) (.ref cTurnError)=some true):Df P w K mg base "_law_walk_told" ["_law_n","_law_plan_here"] 9 (cSp vO):=by
 refine dfA (k:=8) a QT (fun _ _ _ _ _ _=>Pn2_ fun _ _=>rfl) (fun xs M Q h=>?_) (fun f cdv A outer s H E hr=>?_)
 ·obtain ⟨_,_,rfl,_⟩:=h;rfl
 have sc:=QT
 have hsl:=hsl
 refine ⟨_,(zc (qk (zD (za zI (za zI zb))) (qj (K:=K) 2 rfl rfl (zy (zx (i:=2) sc.nd rfl (by first | exact aV rfl | exact aW rfl)) (zy (zx (i:=3) sc.nd rfl (by first | exact aV rfl | exact aW rfl)) qi))))
  (zc (wB (K:=K) (i:=4) rfl rfl rfl rfl sc.nd rfl rfl rfl XG_TurnError (fun pins xe Eh hP=>(ze (zE (i:=3) sc.nd rfl (by first | exact aV rfl | exact aW rfl) (Yh DX_walked hr rfl hP (za (pv 0) (za (pv 1) zb)))))) (fun x=>(ze (zE (i:=2) sc.nd rfl (by first | exact aV rfl | exact aW rfl) (pv 4)))))
  (ze (zA (jL (zo je (pv 2) zI (zq _)) (pv 3) (zO D_law_refusal hr rfl (za (pv 2) zb))))))),?_⟩
 refine ex2 (by walk_at "sim") ?_
 rintro xs M Q ⟨n,x,rfl,hn,ok,q⟩
 rw [show zM ["_law_n","_law_plan_here","_law_caught","_law_found","error"] [.d (.int n),.d x]=[some (.d (.int n)),some (.d x),none,none,none] from rfl]
 refine zd fun r1 hr1=>?_
 walk_at "ra"
 refine ⟨by omega,?_⟩
 subst hr1
 refine zd fun r1 hr1=>?_
 walk_at "ra"
 refine ⟨n,x,rfl,hn,ok,fun i w h=>⟨XT,fun z hz=>?_⟩,fun t ht=>?_⟩
 ·subst hr1
  walk_at "ra"
  exact ⟨z,rfl,.inl ⟨i,w,zf,kC (Fr.refl.mup hz _) (by unfold v7 at q;rw [h] at q;exact q)⟩⟩
 ·subst hr1
  walk_at "ra"
  unfold v7 at q
  rw [ht] at q
  exact kC Fr.refl q
noncomputable abbrev Z8:cg:=top 35
theorem Ja:zr ["_law_n","_law_plan_here","_law_caught","_law_found","error"] ["_law_n","_law_plan_here"] (zg Z8):=⟨rfl,rfl,rfl,by decide +kernel,rfl,by decide +kernel,by decide +kernel⟩
theorem WK (a:At K mg "_law_order_told" Z8)(B:Blt mg) (XG_TurnError:mg "TurnError"=some (.ref cTurnError)) (DX_order_done:DfX P w K mg base "order_done" ["n","plan"] 9 (jk (Wn cBadPlan cNotDone)))(D_law_refusal:Df P w K mg base "_law_refusal" ["_law_caught"] 9 (cSp (Qd cBadPlan cNotDone cBadDeed)))(XT:cf K (.ref cBadPlan) (.ref cTurnError)=some true)(XT':cf K (.ref cNotDone) (.ref cTurnError)=some true):Df P w K mg base "_law_order_told" ["_law_n","_law_plan_here"] 10 (cSp WW):=by
 refine dfA (k:=9) a Ja (fun _ _ _ _ _ _=>Pn2_ fun _ _=>rfl) (fun xs M Q h=>?_) (fun f cdv A outer s H E hr=>?_)
 ·obtain ⟨_,_,rfl,_⟩:=h;rfl
 have sc:=Ja
 have hsl:=hsl
 refine ⟨_,(zc (qk (zD (za zI (za zI zb))) (qj (K:=K) 2 rfl rfl (zy (zx (i:=2) sc.nd rfl (by first | exact aV rfl | exact aW rfl)) (zy (zx (i:=3) sc.nd rfl (by first | exact aV rfl | exact aW rfl)) qi))))
  (zc (wB (K:=K) (i:=4) rfl rfl rfl rfl sc.nd rfl rfl rfl XG_TurnError (fun pins xe Eh hP=>(ze (zE (i:=3) sc.nd rfl (by first | exact aV rfl | exact aW rfl) (Yh DX_order_done hr rfl hP (za (pv 0) (za (pv 1) zb)))))) (fun x=>(ze (zE (i:=2) sc.nd rfl (by first | exact aV rfl | exact aW rfl) (pv 4)))))
  (ze (zA (jL (zo je (pv 2) zI (zq _)) (zD (za zm (za (pv 3) zb))) (zO D_law_refusal hr rfl (za (pv 2) zb))))))),?_⟩
 refine ex2 (by walk_at "sim") ?_
 rintro xs M Q ⟨n,x,rfl,hn,ok,q⟩
 rw [show zM ["_law_n","_law_plan_here","_law_caught","_law_found","error"] [.d (.int n),.d x]=[some (.d (.int n)),some (.d x),none,none,none] from rfl]
 unfold va at q
 refine zd fun r1 hr1=>?_
 walk_at "ra"
 refine ⟨by omega,?_⟩
 subst hr1
 refine zd fun r1 hr1=>?_
 walk_at "ra"
 refine ⟨n,x,rfl,hn,ok,fun i w h=>⟨XT,fun z hz=>?_⟩,fun t ht=>⟨fun h e=>⟨XT',fun z hz=>?_⟩,fun e=>?_⟩⟩
 ·subst hr1
  walk_at "ra"
  exact ⟨z,rfl,.inl ⟨i,w,zf,kC (Fr.refl.mup hz _) (by rw [h] at q;exact q)⟩⟩
 ·subst hr1
  walk_at "ra"
  exact ⟨z,rfl,.inr (.inl ⟨h,zf,kC (Fr.refl.mup hz _) (by rw [ht] at q;dsimp only at q;rw [e] at q;exact q)⟩)⟩
 ·subst hr1
  walk_at "ra"
  rw [ht] at q
  dsimp only at q
  rw [e] at q
  exact ⟨by omega,kC Fr.refl q⟩
theorem HH (w:String):bP (af "word") (wrd w)=some (.str (af w)):=by
 unfold wrd bP
 rw [show (af "word" == ("word":Str))=true from by decide +kernel]
noncomputable def BD (C:ay):ASp:=fun xs M Q=>∃ (p rw_ mv:ay) (s:ES) (ms:List Int) (d:Dat),xs=[.ref p,.d d]/\zV C M p rw_ mv s ms/\OkM s ms.length/\OkX d /\
 (∀ wd,doR s ms d=.error wd->Q (.d (.str (af wd))) M)/\(∀ t,doR s ms d=.ok t->Q (.d (.str (af ""))) (rmP C M p rw_ mv t.1 t.2))
noncomputable abbrev Qf:cg:=top 37
theorem Jb:zr ["_law_room","_law_thing","_law_caught","_law_found","error"] ["_law_room","_law_thing"] (zg Qf):=⟨rfl,rfl,rfl,by decide +kernel,rfl,by decide +kernel,by decide +kernel⟩
theorem Ag (a:At K mg "_law_deed_told" Qf)(B:Blt mg) (CL:Cls K C)(XG_TurnError:mg "TurnError"=some (.ref cTurnError)) (DM_do:DmX P w K mg base C "do" ["self","thing"] 7 (jk (aDo C cBadDeed)))(D_law_refusal:Df P w K mg base "_law_refusal" ["_law_caught"] 7 (cSp (Qd cBadPlan cNotDone cBadDeed)))(XT:cf K (.ref cBadDeed) (.ref cTurnError)=some true)(X:vw K cBadDeed)(hd:ci K cBadDeed=true)(fw:aT K (.ref cBadDeed) "word"=some none):Df P w K mg base "_law_deed_told" ["_law_room","_law_thing"] 8 (cSp (BD C)):=by
 refine dfA (k:=7) a Jb (fun _ _ _ _ _ _=>Pn2_ fun _ _=>rfl) (fun xs M Q h=>?_) (fun f cdv A outer s H E hr=>?_)
 ·obtain ⟨_,_,_,_,_,_,rfl,_⟩:=h;rfl
 have sc:=Jb
 have hsl:=hsl
 refine ⟨_,(zc (qk (zD (za zI (za zI zb))) (qj (K:=K) 2 rfl rfl (zy (zx (i:=2) sc.nd rfl (by first | exact aV rfl | exact aW rfl)) (zy (zx (i:=3) sc.nd rfl (by first | exact aV rfl | exact aW rfl)) qi))))
  (zc (wB (K:=K) (i:=4) rfl rfl rfl rfl sc.nd rfl rfl rfl XG_TurnError (fun pins xe Eh hP=>(ze (zE (i:=3) sc.nd rfl (by first | exact aV rfl | exact aW rfl) (kB CL DM_do hr hP (pv 0) (za (pv 1) zb))))) (fun x=>(ze (zE (i:=2) sc.nd rfl (by first | exact aV rfl | exact aW rfl) (pv 4)))))
  (zc (zN (zo je (pv 2) zI (zq _)) (ze (zA (jL (zo je (pv 3) zI (zq _)) zm zm))) zw)
  (ze (zA (jL (zo (zY hr.units) (zO D_law_refusal hr rfl (za (pv 2) zb)) (zD (za zm zb)) (zq _)) (vI (pv 2) rfl) zm)))))),?_⟩
 refine ex2 (by walk_at "sim") ?_
 rintro xs M Q ⟨p,rw_,mv,s,ms,d,rfl,r,okm,ok,qe,q⟩
 rw [show zM ["_law_room","_law_thing","_law_caught","_law_found","error"] [.ref p,.d d]=[some (.ref p),some (.d d),none,none,none] from rfl]
 refine zd fun r1 hr1=>?_
 walk_at "ra"
 refine ⟨by omega,?_⟩
 subst hr1
 refine zd fun r1 hr1=>?_
 walk_at "ra"
 refine ⟨_,r.ins,rfl,p,rw_,mv,s,ms,d,rfl,r,okm,ok.1,ok.2,fun wd hw=>⟨XT,fun z hz=>?_⟩,fun t ht=>?_⟩
 ·subst hr1
  refine zd fun r1 hr1=>?_
  walk_at "ra"
  subst hr1
  walk_at "ra"
  refine ⟨z,rfl,.inr (.inr ⟨wd,zf,by omega,_,rfl,by simp [dp,dps],by simp [dp,dps],?_⟩)⟩
  rw [if_pos (by decide +kernel)]
  exact ⟨_,_,zf,X,hd,fw,_,HH wd,_,rfl,kC (Fr.refl.mup hz _) (qe wd hw)⟩
 ·subst hr1
  refine zd fun r1 hr1=>?_
  walk_at "ra"
  exact ⟨_,_,r.fin t.1 t.2 _,q t ht⟩
noncomputable def JA (C:ay):ASp:=fun xs M Q=>∃ (p rw_ mv:ay) (s:ES) (ms:List Int) (z:AV),xs=[.ref p,.d (.lst (s.1.map oD)),.d (oD s.2),z]/\zV C M p rw_ mv s ms/\qF z M=some (ms.map fun i=>AV.d (.int i))/\s.1.length<=1000/\ms.length<=1000/\Q (.d (.bl true)) M
noncomputable abbrev yK:cg:=top 38
theorem wc:zr ["_law_room","_law_row","_law_hand","_law_moved"] ["_law_room","_law_row","_law_hand","_law_moved"] (zg yK):=⟨rfl,rfl,rfl,by decide +kernel,rfl,by decide +kernel,by decide +kernel⟩
theorem J1 (a:At K mg "_law_stands" yK)(B:Blt mg)(D_law_alike:Df P w K mg base "_law_alike" ["_law_found","_law_due"] 6 (cSp (wM 3))) (CL:Cls K C)(M_row_now:Dm P w K mg base C "row_now" ["self"] 6 (cSp (Wy C)))(M_hand_now:Dm P w K mg base C "hand_now" ["self"] 6 (cSp (AH C)))(M_moved_now:Dm P w K mg base C "moved_now" ["self"] 6 (cSp (A2 C))):Df P w K mg base "_law_stands" ["_law_room","_law_row","_law_hand","_law_moved"] 7 (cSp (JA C)):=by
 refine dfA (k:=6) a wc (fun _ _ _ _ _ _=>Pn4_ fun _ _ _ _=>rfl) (fun xs M Q h=>?_) (fun f cdv A outer s H E hr=>?_)
 ·obtain ⟨_,_,_,_,_,_,rfl,_⟩:=h;rfl
 have sc:=wc
 have hsl:=hsl
 refine ⟨_,(ze (zA (zO D_law_alike hr rfl (za (zR (za (ye CL M_row_now hr (pv 0)) (za (ye CL M_hand_now hr (pv 0)) (za (ye CL M_moved_now hr (pv 0)) zb)))) (za (zR (za (zH ql rfl B.tuple qz (za (pv 1) zb)) (za (pv 2) (za (zH ql rfl B.tuple qz (za (pv 3) zb)) zb)))) zb))))),?_⟩
 refine ex2 (by walk_at "sim") ?_
 rintro xs M Q ⟨p,rw_,mv,⟨row,hd⟩,ms,z,rfl,r,hm,h1,h2,q⟩
 rw [show zM ["_law_room","_law_row","_law_hand","_law_moved"] [.ref p,.d (.lst (row.map oD)),.d (oD hd),z]=[some (.ref p),some (.d (.lst (row.map oD))),some (.d (oD hd)),some z] from rfl]
 walk_at "ra"
 refine ⟨_,r.ins,rfl,p,rw_,mv,(row,hd),ms,rfl,r,h1,_,r.ins,rfl,p,rw_,mv,(row,hd),ms,rfl,r,_,r.ins,rfl,p,rw_,mv,(row,hd),ms,rfl,r,h2,by omega,_,rfl,_,hm,_,qV _,by omega,_,_,_,rfl,rfl,rfl,?_,by omega,⟨_,_,qD Fr.refl _,q⟩⟩
 have h1:row.length<=1000:=h1
 have fo:∀ (c:Option Int) n,jp n (oD c):=fun c n=>by cases c;exact JG n;exact jJ n _
 refine QS (by simp) fun x hx=>?_
 simp only [aF,aN,or_false] at hx
 rcases hx with rfl | rfl | rfl
 ·exact (jv (n:=1) (by rw [aw];omega) fun x hx=>by obtain ⟨c,_,rfl⟩:=bE.mp hx;exact fo c 1)
 ·exact fo hd 2
 ·exact (xY (ns:=ms) (by omega)).mono (by omega)
theorem Wx (h:BxM M b N)(e:M' b=M b):BxM M' b N:=by
 obtain ⟨x,y,z,h1,h2⟩:=h
 exact ⟨x,y,z,e.trans h1,h2⟩
theorem kI {t:AS}{ag:AG}{x:AV} (h:∀ D',D'=D->ag x ρ M fun ρ' M'=>t B D' ρ' M'):ag x ρ M fun ρ' M'=>t B D ρ' M':=h D rfl
structure R7 (C:ay)(n:Nat)(M0 M:MH)(b:ay)(N:Nat)(m p1 r1 v1 p2 r2 v2:ay)(s1:ES)(ms1:List Int)(s2:ES)(ms2 mm:List Int):Prop where
 sb:SB M0 M b N
 ra:zV C M p1 r1 v1 s1 ms1
 rb:zV C M p2 r2 v2 s2 ms2
 mv:M m=some (msA mm)
 nd:[m,p1,r1,v1,p2,r2,v2].Nodup
 z:∀ a ∈ [m,p1,r1,v1,p2,r2,v2],M0 a=none
theorem Q8 (c:yh n s):OkM s n:=by
 refine ⟨fun x hx=>?_,fun x hx=>?_⟩
 ·have h:=c.2 x
  have:0<s.1.count (some x):=mq.mpr hx
  by_cases z:0<=x/\x<(n:Int)
  ·exact z
  ·rw [if_neg z] at h;omega
 ·have h:=c.2 x
  rw [if_pos hx] at h
  by_cases z:0<=x/\x<(n:Int)
  ·exact z
  ·rw [if_neg z] at h;omega
section
variable {C:ay}{n N N':Nat}{M0 M M':MH}{b m p1 r1 v1 p2 r2 v2:ay}{s1 s2:ES}{ms1 ms2 mm:List Int}
theorem R7.nb (h:R7 C n M0 M b N m p1 r1 v1 p2 r2 v2 s1 ms1 s2 ms2 mm):∀ a ∈ [m,p1,r1,v1,p2,r2,v2],a ≠ b:=fun a ha z=>h.sb.b0 (by rw [<- z];exact h.z a ha)
theorem R7.mono (h:R7 C n M0 M b N m p1 r1 v1 p2 r2 v2 s1 ms1 s2 ms2 mm)(l:N<=N'):R7 C n M0 M b N' m p1 r1 v1 p2 r2 v2 s1 ms1 s2 ms2 mm:=⟨h.sb.mono l,h.ra,h.rb,h.mv,h.nd,h.z⟩
theorem zV.at {p r v:ay} (h:zV C M p r v s ms)(k:∀ a ∈ [p,r,v],M' a=M a):zV C M' p r v s ms:=⟨(k p (by simp)).trans h.ins,(k r (by simp)).trans h.row,(k v (by simp)).trans h.mvd,h.ne⟩
theorem R7.keep (h:R7 C n M0 M b N m p1 r1 v1 p2 r2 v2 s1 ms1 s2 ms2 mm)(sb:SB M0 M' b N')(k:∀ a ∈ [m,p1,r1,v1,p2,r2,v2],M' a=M a):R7 C n M0 M' b N' m p1 r1 v1 p2 r2 v2 s1 ms1 s2 ms2 mm:=
 ⟨sb,h.ra.at fun a ha=>k a (by simp only [aF,aN,or_false] at ha;rcases ha with rfl | rfl | rfl <;> simp),h.rb.at fun a ha=>k a (by simp only [aF,aN,or_false] at ha;rcases ha with rfl | rfl | rfl <;> simp),(k m (by simp)).trans h.mv,h.nd,h.z⟩
theorem R7.box (h:R7 C n M0 M b N m p1 r1 v1 p2 r2 v2 s1 ms1 s2 ms2 mm)(s:BxS M M' b N'):R7 C n M0 M' b N' m p1 r1 v1 p2 r2 v2 s1 ms1 s2 ms2 mm:=h.keep (h.sb.go s) fun a ha=>s.at (h.nb a ha)
theorem R7.is (h:R7 C n M0 M b N m p1 r1 v1 p2 r2 v2 s1 ms1 s2 ms2 mm):∀ a ∈ [m,p1,r1,v1,p2,r2,v2],M a ≠ none:=fun a ha=>by
 simp only [aF,aN,or_false] at ha
 rcases ha with rfl | rfl | rfl | rfl | rfl | rfl | rfl
 ·exact zU h.mv
 ·exact zU h.ra.ins
 ·exact zU h.ra.row
 ·exact zU h.ra.mvd
 ·exact zU h.rb.ins
 ·exact zU h.rb.row
 ·exact zU h.rb.mvd
theorem R7.new (h:R7 C n M0 M b N m p1 r1 v1 p2 r2 v2 s1 ms1 s2 ms2 mm){p r v:ay}(hp:M p=none)(hr:M r=none)(hv:M v=none)(s:ES)(ms:List Int):R7 C n M0 (rmP C M p r v s ms) b N m p1 r1 v1 p2 r2 v2 s1 ms1 s2 ms2 mm:=by
 have f:∀ a,M a ≠ none->rmP C M p r v s ms a=M a:=fun a ha=>by
  unfold rmP;rw [zi (fun z=>ha (by rw [z];exact hv)),zi (fun z=>ha (by rw [z];exact hr)),zi (fun z=>ha (by rw [z];exact hp))]
 refine h.keep ?_ fun a ha=>f a (h.is a ha)
 obtain ⟨p0,pb⟩:=h.sb.new hp
 obtain ⟨r0,rb⟩:=h.sb.new hr
 obtain ⟨v0,vb⟩:=h.sb.new hv
 exact ((h.sb.put p0 pb _).put r0 rb _).put v0 vb _
theorem R7.cnt (h:R7 C n M0 M b N m p1 r1 v1 p2 r2 v2 s1 ms1 s2 ms2 mm)(mm':List Int):R7 C n M0 (mup M m (msA mm')) b N m p1 r1 v1 p2 r2 v2 s1 ms1 s2 ms2 mm':=by
 have nd:=h.nd
 simp only [cr,aF,aN,or_false,not_or,not_false_eq_true,and_true,gk] at nd
 obtain ⟨⟨n1,n2,n3,n4,n5,n6⟩,_⟩:=nd
 refine ⟨h.sb.put (h.z m (by simp)) (h.nb m (by simp)) _,h.ra.at fun a ha=>zi ?_,h.rb.at fun a ha=>zi ?_,zf,h.nd,h.z⟩
 all_goals
  simp only [aF,aN,or_false] at ha
  rcases ha with rfl | rfl | rfl <;> exact Ne.symm (by assumption)
theorem yZ {p r v a:ay} (h:a ≠ p/\a ≠ r/\a ≠ v):rmP C M p r v s ms a=M a:=by unfold rmP;rw [zi h.2.2,zi h.2.1,zi h.1]
theorem R7.doA (h:R7 C n M0 M b N m p1 r1 v1 p2 r2 v2 s1 ms1 s2 ms2 mm)(t:ES)(ms':List Int):R7 C n M0 (rmP C M p1 r1 v1 t ms') b N m p1 r1 v1 p2 r2 v2 t ms' s2 ms2 mm:=by
 have nd:=h.nd
 simp only [cr,aF,aN,or_false,not_or,not_false_eq_true,and_true,gk] at nd
 obtain ⟨⟨n1,n2,n3,n4,n5,n6⟩,⟨_,_,a1,a2,a3⟩,⟨_,b1,b2,b3⟩,⟨c1,c2,c3⟩,_⟩:=nd
 refine ⟨((h.sb.put (h.z p1 (by simp)) (h.nb p1 (by simp)) _).put (h.z r1 (by simp)) (h.nb r1 (by simp)) _).put (h.z v1 (by simp)) (h.nb v1 (by simp)) _,h.ra.to t ms',h.rb.at fun a ha=>yZ ?_,(yZ ⟨n1,n2,n3⟩).trans h.mv,h.nd,h.z⟩
 simp only [aF,aN,or_false] at ha
 rcases ha with rfl | rfl | rfl
 ·exact ⟨Ne.symm a1,Ne.symm b1,Ne.symm c1⟩
 ·exact ⟨Ne.symm a2,Ne.symm b2,Ne.symm c2⟩
 ·exact ⟨Ne.symm a3,Ne.symm b3,Ne.symm c3⟩
theorem R7.doB (h:R7 C n M0 M b N m p1 r1 v1 p2 r2 v2 s1 ms1 s2 ms2 mm)(t:ES)(ms':List Int):R7 C n M0 (rmP C M p2 r2 v2 t ms') b N m p1 r1 v1 p2 r2 v2 s1 ms1 t ms' mm:=by
 have nd:=h.nd
 simp only [cr,aF,aN,or_false,not_or,not_false_eq_true,and_true,gk] at nd
 obtain ⟨⟨n1,n2,n3,n4,n5,n6⟩,⟨_,_,a1,a2,a3⟩,⟨_,b1,b2,b3⟩,⟨c1,c2,c3⟩,_⟩:=nd
 refine ⟨((h.sb.put (h.z p2 (by simp)) (h.nb p2 (by simp)) _).put (h.z r2 (by simp)) (h.nb r2 (by simp)) _).put (h.z v2 (by simp)) (h.nb v2 (by simp)) _,h.ra.at fun a ha=>yZ ?_,h.rb.to t ms',(yZ ⟨n4,n5,n6⟩).trans h.mv,h.nd,h.z⟩
 simp only [aF,aN,or_false] at ha
 rcases ha with rfl | rfl | rfl
 ·exact ⟨a1,a2,a3⟩
 ·exact ⟨b1,b2,b3⟩
 ·exact ⟨c1,c2,c3⟩
theorem zV.is (h:zV C M p1 r1 v1 s1 ms1):∀ a ∈ [p1,r1,v1],M a ≠ none:=fun a ha=>by
 simp only [aF,aN,or_false] at ha
 rcases ha with rfl | rfl | rfl
 ·exact zU h.ins
 ·exact zU h.row
 ·exact zU h.mvd
theorem R7.start (hb:BxM M b N)(hp1:M p1=none)(hr1:M r1=none)(hv1:M v1=none)(n1:r1 ≠ v1)(n2:r1 ≠ p1)(n3:v1 ≠ p1)(hp2:rmP C M p1 r1 v1 s1 ms1 p2=none)(hr2:rmP C M p1 r1 v1 s1 ms1 r2=none)(hv2:rmP C M p1 r1 v1 s1 ms1 v2=none)(n1':r2 ≠ v2)(n2':r2 ≠ p2)(n3':v2 ≠ p2)
  (hm:rmP C (rmP C M p1 r1 v1 s1 ms1) p2 r2 v2 s2 ms2 m=none):R7 C n M (mup (rmP C (rmP C M p1 r1 v1 s1 ms1) p2 r2 v2 s2 ms2) m (msA mm)) b N m p1 r1 v1 p2 r2 v2 s1 ms1 s2 ms2 mm:=by
 have sb:=SB.refl hb
 obtain ⟨a0,ab⟩:=sb.new hp1
 obtain ⟨b0,bb⟩:=sb.new hr1
 obtain ⟨c0,cb⟩:=sb.new hv1
 have rA:=jG (C:=C) (M:=M) (s:=s1) (ms:=ms1) n1 n2 n3
 have sb:SB M (rmP C M p1 r1 v1 s1 ms1) b N:=((sb.put a0 ab _).put b0 bb _).put c0 cb _
 generalize rmP C M p1 r1 v1 s1 ms1=M1 at *
 obtain ⟨a0',ab'⟩:=sb.new hp2
 obtain ⟨b0',bb'⟩:=sb.new hr2
 obtain ⟨c0',cb'⟩:=sb.new hv2
 have ap:∀ x ∈ [p1,r1,v1],x ≠ p2/\x ≠ r2/\x ≠ v2:=fun x hx=>by
  have hx:=rA.is x hx
  exact ⟨(fun z=>hx (by rw [z];exact hp2)),(fun z=>hx (by rw [z];exact hr2)),(fun z=>hx (by rw [z];exact hv2))⟩
 have rB:=jG (C:=C) (M:=M1) (s:=s2) (ms:=ms2) n1' n2' n3'
 have rA:=rA.at (M':=rmP C M1 p2 r2 v2 s2 ms2) fun a ha=>yZ (ap a ha)
 have sb:SB M (rmP C M1 p2 r2 v2 s2 ms2) b N:=((sb.put a0' ab' _).put b0' bb' _).put c0' cb' _
 generalize rmP C M1 p2 r2 v2 s2 ms2=M2 at *
 obtain ⟨m0,mb⟩:=sb.new hm
 have am:∀ x ∈ [p1,r1,v1],x ≠ m:=fun x hx z=>rA.is x hx (by rw [z];exact hm)
 have bm:∀ x ∈ [p2,r2,v2],x ≠ m:=fun x hx z=>rB.is x hx (by rw [z];exact hm)
 refine ⟨sb.put m0 mb _,rA.at fun a ha=>zi (am a ha),rB.at fun a ha=>zi (bm a ha),zf,?_,fun a ha=>?_⟩
 ·have a1:=ap p1 (by simp)
  have a2:=ap r1 (by simp)
  have a3:=ap v1 (by simp)
  have b1:=am p1 (by simp)
  have b2:=am r1 (by simp)
  have b3:=am v1 (by simp)
  have c1:=bm p2 (by simp)
  have c2:=bm r2 (by simp)
  have c3:=bm v2 (by simp)
  simp only [cr,aF,aN,or_false,not_or,not_false_eq_true,and_true,gk]
  exact ⟨⟨Ne.symm b1,Ne.symm b2,Ne.symm b3,Ne.symm c1,Ne.symm c2,Ne.symm c3⟩,⟨Ne.symm n2,Ne.symm n3,a1⟩,⟨n1,a2⟩,a3,⟨Ne.symm n2',Ne.symm n3'⟩,n1'⟩
 ·simp only [aF,aN,or_false] at ha
  rcases ha with rfl | rfl | rfl | rfl | rfl | rfl | rfl <;> assumption
end
noncomputable def Bl:ASp:=fun xs M Q=>∃ (b:ay) (N n:Nat),xs=[.ref b,.d (.int n)]/\BxM M b N/\N<=1000/\n<=1000/\∀ M',BxS M M' b (N+1000)->Q (.d (.bl true)) M'
noncomputable abbrev Qc:cg:=top 39
theorem Js:zr ["_law_box_here","_law_n","_law_turn","_law_kept","_law_first","_law_second","_law_row","_law_hand","_law_moved","_law_deed_here","_law_thing","_law_again","_law_word","_law_twin"] ["_law_box_here","_law_n"] (zg Qc):=⟨rfl,rfl,rfl,by decide +kernel,rfl,by decide +kernel,by decide +kernel⟩
theorem Du (a:At K mg "_law_room_right" Qc)(B:Blt mg)(CL:Cls K C)(M_Room:Mkr P w K mg base "Room" C ["self","n"] 9 (cSp (Zg C)))(DM_do:DmX P w K mg base C "do" ["self","thing"] 10 (jk (aDo C cBadDeed)))(M_twin:Dm P w K mg base C "twin" ["self"] 10 (cSp (Gp C)))
  (D_law_take:Df P w K mg base "_law_take" ["_law_box_here","_law_many"] 10 (cSp ZK)) (D_law_deed:Df P w K mg base "_law_deed" ["_law_box_here","_law_row","_law_hand"] 10 (cSp WP)) (D_law_done:Df P w K mg base "_law_done" ["_law_row","_law_hand","_law_deed_here"] 10 (cSp XE)) (D_law_counted:Df P w K mg base "_law_counted" ["_law_moved","_law_row","_law_hand","_law_deed_here"] 10 (cSp wI)) (D_law_double:Df P w K mg base "_law_double" ["_law_box_here","_law_row"] 10 (cSp Hb)) (D_law_why:Df P w K mg base "_law_why" ["_law_row","_law_hand","_law_thing"] 10 (cSp IT)) (D_law_deed_told:Df P w K mg base "_law_deed_told" ["_law_room","_law_thing"] 10 (cSp (BD C))) (D_law_stands:Df P w K mg base "_law_stands" ["_law_room","_law_row","_law_hand","_law_moved"] 10 (cSp (JA C))):Df P w K mg base "_law_room_right" ["_law_box_here","_law_n"] 11 (cSp Bl):=by
 refine dfA (k:=10) a Js (fun _ _ _ _ _ _=>Pn2_ fun _ _=>rfl) (fun xs M Q h=>?_) (fun f cdv A outer s H E hr=>?_)
 ·obtain ⟨_,_,_,rfl,_⟩:=h;rfl
 have sc:=Js
 have hsl:=hsl
 refine ⟨_,(zc (KA (i:=4) (j:=5) rfl sc.nd rfl rfl (by decide) rfl rfl (za (Yp M_Room hr rfl (za (pv 1) zb)) (za (Yp M_Room hr rfl (za (pv 1) zb)) zb)) rfl)
  (zc (Xq (i:=6) (j:=7) (k:=8) rfl sc.nd rfl rfl rfl (by decide) (by decide) (by decide) rfl rfl rfl (za (zH (jh rfl) rfl B.list qy (za (zH jI rfl B.range xt (za (pv 1) zb)) zb)) (za zI (za (qX (zL yM (zR (za zh zb)) (pv 1))) zb))) rfl)
  (zc (jP cu rfl (qE rfl B.range (za (zO D_law_take hr rfl (za (pv 0) (za zh zb))) zb)) (zx (i:=2) sc.nd rfl (by first | exact aV rfl | exact aW rfl)) (zc (zE (i:=9) sc.nd rfl (by first | exact aV rfl | exact aW rfl) (zO D_law_deed hr rfl (za (pv 0) (za (pv 6) (za (pv 7) zb)))))
  (ze (zN (zo jx (pv 9) zI (zq _)) (zc (qB (kB CL DM_do hr Wg (pv 4) (za (pv 9) zb)))
  (zc (qB (kB CL DM_do hr Wg (pv 5) (za (pv 9) zb)))
  (zc (qB (zO D_law_counted hr rfl (za (pv 8) (za (pv 6) (za (pv 7) (za (pv 9) zb))))))
  (ze (qk (zO D_law_done hr rfl (za (pv 6) (za (pv 7) (za (pv 9) zb)))) (qj (K:=K) 2 rfl rfl (zy (zx (i:=6) sc.nd rfl (by first | exact aV rfl | exact aW rfl)) (zy (zx (i:=7) sc.nd rfl (by first | exact aV rfl | exact aW rfl)) qi)))))))) zw))))
  (zc (zE (i:=3) sc.nd rfl (by first | exact aV rfl | exact aW rfl) (zR (za (zH qZ rfl B.list qy (za (pv 6) zb)) (za (pv 7) (za (zH qZ rfl B.list qy (za (pv 8) zb)) zb)))))
  (zc (jP cu rfl (qE rfl B.range (za zh zb)) (zx (i:=2) sc.nd rfl (by first | exact aV rfl | exact aW rfl)) (zc (zE (i:=10) sc.nd rfl (by first | exact aV rfl | exact aW rfl) (zO D_law_double hr rfl (za (pv 0) (za (pv 6) zb))))
  (ze (jP cu rfl (qE rfl B.range (za zh zb)) (zx (i:=11) sc.nd rfl (by first | exact aV rfl | exact aW rfl)) (zc (zE (i:=12) sc.nd rfl (by first | exact aV rfl | exact aW rfl) (zO D_law_why hr rfl (za (pv 6) (za (pv 7) (za (pv 10) zb)))))
  (zc (zE (i:=13) sc.nd rfl (by first | exact aV rfl | exact aW rfl) (ye CL M_twin hr (pv 5)))
  (zc (zN (PW.pt (kl (zo (ka hr.units) (zO D_law_deed_told hr rfl (za (pv 5) (za (pv 10) zb))) (pv 12) (zq _)) (jE (qJ (qp (zO D_law_stands hr rfl (za (pv 13) (za (pv 6) (za (pv 7) (za (pv 8) zb))))) (fun _=>rfl)))))) (ze (zA kf)) zw)
  (zc (zN (zo (zY hr.units) (pv 12) zm (zq _)) (zc (qB (zO D_law_counted hr rfl (za (pv 8) (za (pv 6) (za (pv 7) (za (pv 10) zb))))))
  (ze (qk (zO D_law_done hr rfl (za (pv 6) (za (pv 7) (za (pv 10) zb)))) (qj (K:=K) 2 rfl rfl (zy (zx (i:=6) sc.nd rfl (by first | exact aV rfl | exact aW rfl)) (zy (zx (i:=7) sc.nd rfl (by first | exact aV rfl | exact aW rfl)) qi)))))) zw)
  (ze (zN (PW.pt (kl (qJ (qp (zO D_law_stands hr rfl (za (pv 5) (za (pv 6) (za (pv 7) (za (pv 8) zb))))) (fun _=>rfl))) (jE (qJ (qp (zO D_law_stands hr rfl (za (pv 4) (za (zu zB (pv 3) zh (fun _ _=>rfl)) (za (zu zB (pv 3) zh (fun _ _=>rfl)) (za (zu zB (pv 3) zh (fun _ _=>rfl)) zb))))) (fun _=>rfl)))))) (ze (zA kf)) zw))))))))))
  (ze (zA kf))))))),?_⟩
 refine ex2 (by walk_at "sim") ?_
 rintro xs M Q ⟨b,N,n,rfl,hb,hN,hn,q⟩
 rw [show zM ["_law_box_here","_law_n","_law_turn","_law_kept","_law_first","_law_second","_law_row","_law_hand","_law_moved","_law_deed_here","_law_thing","_law_again","_law_word","_law_twin"] [.ref b,.d (.int n)]=[some (.ref b),some (.d (.int n)),none,none,none,none,none,none,none,none,none,none,none,none] from rfl]
 have sb:=SB.refl hb
 refine zd fun r1 hr1=>?_
 walk_at "ra"
 intro p1 hp1
 refine ⟨p1,n,rfl,zf,hn,fun q1 v1 hq1 hv1 n1 n2 n3=>⟨rfl,fun p2 hp2=>⟨p2,n,rfl,zf,hn,fun q2 v2 hq2 hv2 n1' n2' n3'=>⟨rfl,?_⟩⟩⟩⟩
 have em:∀ (M:MH) p r v t ms,rmP C (mup M p (.ins C [])) p r v t ms=rmP C M p r v t ms:=fun M p r v t ms=>by unfold rmP;rw [xQ]
 rw [em] at hp2
 rw [em,zi n2'] at hq2
 rw [em,zi n3'] at hv2
 rw [em,em]
 rw [zi n2] at hq1
 rw [zi n3] at hv1
 clear em
 subst hr1
 refine zd fun r1 hr1=>?_
 walk_at "ra"
 refine ⟨_,_,_,rfl,iF (by omega) (by omega) (by omega) (by omega),n,by rw [fE];split <;> omega,by omega,by omega,by omega,by omega,by rw [bp];omega,fun m hm _=>?_⟩
 have r7:=R7.start (n:=n) (mm:=aH n 0) hb hp1 hq1 hv1 n1 n2 n3 hp2 hq2 hv2 n1' n2' n3' hm
 rw [show (MO.lst (aH (n:Int).toNat [AV.d (Dat.int 0)]).flatten)=msA (aH n 0) by
  rw [bp,List.flatten_replicate_singleton]
  show _=MO.lst ((aH n (0:Int)).map _)
  rw [fP]]
 show r1 _ _ [some (.ref b),some (.d (.int n)),none,none,some (.ref p1),some (.ref p2),some (.d (.lst ((z0 0 1 n).map .int))),some (.d (oD none)),some (.ref m),none,none,none,none,none] _
 rw [show (z0 0 1 n).map Dat.int=((z0 0 1 n).map some).map oD by rw [aZ];rfl]
 have cs:=jC n
 have lz:(aH n (0:Int)).length=n:=bU
 generalize mup (rmP C (rmP C M p1 q1 v1 ((z0 0 1 n).map some,none) (aH n 0)) p2 q2 v2 ((z0 0 1 n).map some,none) (aH n 0)) m (msA (aH n 0))=M1 at *
 clear hp1 hq1 hv1 n1 n2 n3 hp2 hq2 hv2 n1' n2' n3' hm sb
 subst hr1
 refine zd fun r1 hr1=>?_
 walk_at "ra"
 refine ⟨b,25,_,rfl,r7.sb.bx,by omega,by omega,by omega,fun j M2 s2 j0 j1=>⟨_,rfl,by omega,by omega,?_⟩⟩
 have r7:=r7.box s2
 clear s2
 refine ⟨fun i ρ M'=>∃ s ms u2 u9,ρ=[some (.ref b),some (.d (.int n)),u2,none,some (.ref p1),some (.ref p2),some (.d (.lst (s.1.map oD))),some (.d (oD s.2)),some (.ref m),u9,none,none,none,none]/\yh n s/\ms.length=n/\R7 C n M M' b (N+50+20 * i) m p1 q1 v1 p2 q2 v2 s ms s ms ms,⟨_,_,_,_,rfl,cs,lz,r7.mono (by omega)⟩,?_,?_⟩
 ·clear r7 cs lz
  rintro i y ρ M3 hy ⟨s,ms,u2,u9,rfl,cs,lm,r7⟩
  obtain ⟨hi,rfl⟩:=jw hy
  have hi:i<25:=by omega
  refine ⟨trivial,?_⟩
  rw [mR,ie]
  have l1:=cs.1
  refine kI fun D1 hD1=>?_
  refine zd fun r2 hr2=>?_
  walk_at "ra"
  refine ⟨b,s.1,s.2,_,rfl,r7.sb.bx,by omega,by omega,fun M4 s4=>?_⟩
  have r7:=r7.box s4
  clear s4
  refine ⟨?_,fun d t hdo=>?_⟩
  ·subst hr2
   walk_at "ra"
   subst hD1
   exact ⟨s,ms,_,_,rfl,cs,lm,r7.mono (by omega)⟩
  have okd:=BR d
  have okm:OkM s ms.length:=by rw [lm];exact Q8 cs
  have hdo':=v8 hdo ms
  have okmt:=hdo.okM okm
  subst hr2
  walk_at "ra"
  rw [show j7 (AV.d (dD d))=false by cases d <;> rfl,if_pos rfl]
  refine ⟨_,r7.ra.ins,rfl,p1,q1,v1,s,ms,dD d,rfl,r7.ra,okm,okd.1,okd.2,(fun wd hw=>by rw [hdo'] at hw;cases hw),fun t' ht=>?_⟩
  obtain rfl:t'=(t,(ja s d).foldl jb ms):=by rw [hdo'] at ht;exact (iT.inj ht).symm
  have r7:=r7.doA t ((ja s d).foldl jb ms)
  refine ⟨_,r7.rb.ins,rfl,p2,q2,v2,s,ms,dD d,rfl,r7.rb,okm,okd.1,okd.2,(fun wd hw=>by rw [hdo'] at hw;cases hw),fun t' ht=>?_⟩
  obtain rfl:t'=(t,(ja s d).foldl jb ms):=by rw [hdo'] at ht;exact (iT.inj ht).symm
  have r7:=r7.doB t ((ja s d).foldl jb ms)
  refine ⟨m,d,s,t,ms,rfl,r7.mv,hdo,okm,by omega,?_⟩
  have r7:=r7.cnt ((ja s d).foldl jb ms)
  refine ⟨d,s,t,rfl,hdo,by omega,_,rfl,rfl,_,_,rfl,_,_,rfl,rfl,?_⟩
  subst hD1
  exact ⟨t,(ja s d).foldl jb ms,_,_,rfl,yk hdo cs,by rw [kG,lm],r7.mono (by omega)⟩
 ·clear r7 cs lz
  rintro ρ M3 ⟨s,ms,u2,u9,rfl,cs,lm,r7⟩
  refine ⟨trivial,?_⟩
  have l1:=cs.1
  rw [jg] at r7
  have r7:=r7.mono (show _<=N+550 by omega)
  subst hr1
  dsimp only
  refine zd fun r1 hr1=>?_
  walk_at "ra"
  refine ⟨_,zF r7.mv,_,qV _,by omega,?_⟩
  subst hr1
  refine zd fun r1 hr1=>?_
  walk_at "ra"
  refine ⟨by omega,by omega,?_⟩
  refine ⟨fun t ρ M'=>∃ s2 ms2 u2 u9 x10 x11 x12 x13,ρ=[some (.ref b),some (.d (.int n)),u2,some (.d (.lst [.lst (s.1.map oD),oD s.2,.lst (ms.map .int)])),some (.ref p1),some (.ref p2),some (.d (.lst (s2.1.map oD))),some (.d (oD s2.2)),some (.ref m),u9,x10,x11,x12,x13]/\yh n s2/\ms2.length=n/\R7 C n M M' b (N+550+10 * t) m p1 q1 v1 p2 q2 v2 s ms s2 ms2 ms2,⟨s,ms,_,_,_,_,_,_,rfl,cs,lm,r7⟩,?_,?_⟩
  ·clear r7
   rintro i y ρ M4 hy ⟨s2,ms2,u2,u9,x10,x11,x12,x13,rfl,cs2,lm2,r7⟩
   obtain ⟨hi,rfl⟩:=jw hy
   have hi:i<14:=hi
   refine ⟨trivial,?_⟩
   rw [mR,ie]
   refine kI fun D1 hD1=>?_
   refine zd fun r2 hr2=>?_
   walk_at "ra"
   have l2:=cs2.1
   refine ⟨b,_,s2.1,rfl,r7.sb.bx,by omega,by omega,fun x M5 s5 okx=>?_⟩
   have r7:=r7.box s5
   clear s5
   subst hr2
   walk_at "ra"
   refine ⟨by omega,by omega,?_⟩
   refine ⟨fun t ρ M'=>∃ s2 ms2 x11 x12 x13,ρ=[some (.ref b),some (.d (.int n)),some (.d (.int i)),some (.d (.lst [.lst (s.1.map oD),oD s.2,.lst (ms.map .int)])),some (.ref p1),some (.ref p2),some (.d (.lst (s2.1.map oD))),some (.d (oD s2.2)),some (.ref m),u9,some (.d x),x11,x12,x13]/\yh n s2/\ms2.length=n/\R7 C n M M' b (N+550+10 * i+5) m p1 q1 v1 p2 q2 v2 s ms s2 ms2 ms2,⟨s2,ms2,_,_,_,rfl,cs2,lm2,r7⟩,?_,?_⟩
   ·rintro j y ρ M6 hy ⟨s2,ms2,x11,x12,x13,rfl,cs2,lm2,r7⟩
    refine ⟨trivial,?_⟩
    obtain ⟨hj,rfl⟩:=jw hy
    refine kI fun D2 hD2=>?_
    have l2:=cs2.1
    have okm:OkM s2 ms2.length:=by rw [lm2];exact Q8 cs2
    refine zd fun r2 hr2=>?_
    walk_at "ra"
    refine ⟨s2,x,rfl,okx.1,okx.2,by omega,?_⟩
    subst hr2
    refine zd fun r2 hr2=>?_
    walk_at "ra"
    refine ⟨_,r7.rb.ins,rfl,p2,q2,v2,s2,ms2,rfl,r7.rb,by omega,by omega,fun pt qt vt hpt hqt hvt n1 n2 n3=>?_⟩
    have rT:=jG (C:=C) (M:=M6) (s:=s2) (ms:=ms2) n1 n2 n3
    have r7':=r7.new hpt hqt hvt s2 ms2
    have ap:∀ a ∈ [pt,qt,vt],a ≠ p2/\a ≠ q2/\a ≠ v2:=fun a ha=>by
     have h0:M6 a=none:=by
      simp only [aF,aN,or_false] at ha
      rcases ha with rfl | rfl | rfl <;> assumption
     exact ⟨(fun z=>r7.is p2 (by simp) (by rw [<- z];exact h0)),(fun z=>r7.is q2 (by simp) (by rw [<- z];exact h0)),(fun z=>r7.is v2 (by simp) (by rw [<- z];exact h0))⟩
    generalize rmP C M6 pt qt vt s2 ms2=M7 at *
    clear r7 hpt hqt hvt n1 n2 n3
    have r7:=r7'
    clear r7'
    subst hr2
    refine zd fun r2 hr2=>?_
    walk_at "ra"
    have okx':=okx
    refine ⟨p2,q2,v2,s2,ms2,x,rfl,r7.rb,okm,okx,fun wd hw=>⟨_,rfl,by rw [zZ];omega,?_⟩,fun t ht=>⟨_,rfl,by rw [zZ];omega,?_⟩⟩
    ·have wn:¬ af wd=af "":=by have:=YG hw;simpa using this
     rw [Jl hw,qo,if_neg (by rw [decide_eq_true rfl];decide)]
     refine ⟨pt,qt,vt,s2,ms2,_,rfl,rT,zF r7.mv,by omega,by omega,true,rfl,?_⟩
     rw [if_neg (by decide)]
     subst hr2
     refine zd fun r2 hr2=>?_
     walk_at "ra"
     rw [if_neg wn]
     subst hr2
     walk_at "ra"
     refine ⟨p2,q2,v2,s2,ms2,_,rfl,r7.rb,zF r7.mv,by omega,by omega,true,rfl,?_⟩
     rw [if_neg (by decide)]
     refine ⟨_,rfl,_,rfl,_,rfl,p1,q1,v1,s,ms,_,rfl,r7.ra,?_,by omega,by omega,true,rfl,?_⟩
     ·show some ((ms.map Dat.int).map AV.d)=_
      rw [aZ];rfl
     rw [if_neg (by decide)]
     subst hD2
     exact ⟨s2,ms2,_,_,_,rfl,cs2,lm2,r7⟩
    ·rw [X4 ht,qo,if_neg (by rw [decide_eq_true rfl];decide)]
     have rT:=rT.at (M':=rmP C M7 p2 q2 v2 t.1 t.2) fun a ha=>yZ (ap a ha)
     have r7:=r7.doB t.1 t.2
     refine ⟨pt,qt,vt,s2,ms2,_,rfl,rT,zF r7.mv,by omega,by omega,true,rfl,?_⟩
     rw [if_neg (by decide)]
     subst hr2
     refine zd fun r2 hr2=>?_
     walk_at "ra"
     obtain ⟨dd,rfl,hdo⟩:=vU ht
     have e2:=v8 hdo ms2
     rw [ht] at e2
     have e2:t.2=(ja s2 dd).foldl jb ms2:=by injection e2 with e2;rw [e2]
     refine ⟨m,dd,s2,t.1,ms2,rfl,r7.mv,hdo,okm,by omega,?_⟩
     have r7:=r7.cnt t.2
     rw [<- e2]
     refine ⟨dd,s2,t.1,rfl,hdo,by omega,_,rfl,rfl,_,_,rfl,_,_,rfl,rfl,?_⟩
     have cs3:=yk hdo cs2
     have lm3:t.2.length=n:=by rw [e2,kG,lm2]
     have l3:=cs3.1
     subst hr2
     walk_at "ra"
     refine ⟨p2,q2,v2,t.1,t.2,_,rfl,r7.rb,zF r7.mv,by omega,by omega,true,rfl,?_⟩
     rw [if_neg (by decide)]
     refine ⟨_,rfl,_,rfl,_,rfl,p1,q1,v1,s,ms,_,rfl,r7.ra,?_,by omega,by omega,true,rfl,?_⟩
     ·show some ((ms.map Dat.int).map AV.d)=_
      rw [aZ];rfl
     rw [if_neg (by decide)]
     subst hD2
     exact ⟨t.1,t.2,_,_,_,rfl,cs3,lm3,r7⟩
   ·rintro ρ M6 ⟨s3,ms3,x11,x12,x13,rfl,cs3,lm3,r7⟩
    refine ⟨trivial,?_⟩
    subst hD1
    exact ⟨s3,ms3,_,_,_,_,_,_,rfl,cs3,lm3,r7.mono (by omega)⟩
  ·rintro ρ M4 ⟨s2,ms2,u2,u9,x10,x11,x12,x13,rfl,cs2,lm2,r7⟩
   refine ⟨trivial,?_⟩
   rw [jg] at r7
   subst hr1
   dsimp only
   walk_at "ra"
   exact (r7.sb.mono (by omega)).rt q
theorem En {n:Nat}{x:Dat}(hn:n<=1000):jp 4 (v7 n x):=by
 have fo:∀ (c:Option Int) n,jp n (oD c):=fun c n=>by cases c;exact JG n;exact jJ n _
 unfold v7
 cases h:jV n x with
 | error e=>
  obtain ⟨i,w⟩:=e
  refine jv (by simp) fun d hd=>?_
  simp only [aF,aN,or_false] at hd
  rcases hd with rfl | rfl | rfl
  ·exact jN _ _
  ·exact jJ _ _
  ·exact jN _ _
 | ok t=>
  obtain ⟨cs,l2⟩:=x8 h
  have l1:=cs.1
  show jp 4 (vi t)
  unfold vi
  cases hd:t.1.2 with
  | none=>
   refine jv (by simp) fun d hd=>?_
   simp only [aF,aN,or_false] at hd
   rcases hd with rfl | rfl | rfl
   ·exact jN _ _
   ·exact (ZJ (ns:=bL t.1.1) (by unfold bL;rw [aw,dH];omega)).mono (by omega)
   ·exact (xY (ns:=t.2) (by omega)).mono (by omega)
  | some h=>
   refine jv (by simp) fun d hd=>?_
   simp only [aF,aN,or_false] at hd
   rcases hd with rfl | rfl | rfl | rfl
   ·exact jN _ _
   ·exact (jv (n:=2) (by rw [aw];omega) fun x hx=>by obtain ⟨c,_,rfl⟩:=bE.mp hx;exact fo c 2)
   ·exact jJ _ _
   ·exact (xY (ns:=t.2) (by omega)).mono (by omega)
theorem Ak {n:Nat}{x:Dat}(hn:n<=1000):jp 4 (va n x):=by
 unfold va
 cases h:jV n x with
 | error e=>
  obtain ⟨i,w⟩:=e
  refine jv (by simp) fun d hd=>?_
  simp only [aF,aN,or_false] at hd
  rcases hd with rfl | rfl | rfl
  ·exact jN _ _
  ·exact jJ _ _
  ·exact jN _ _
 | ok t=>
  obtain ⟨cs,l2⟩:=x8 h
  have l1:=cs.1
  dsimp only
  cases hd:t.1.2 with
  | none=>
   refine jv (by simp) fun d hd=>?_
   simp only [aF,aN,or_false] at hd
   rcases hd with rfl | rfl
   ·exact jN _ _
   ·exact (ZJ (ns:=bL t.1.1) (by unfold bL;rw [aw,dH];omega)).mono (by omega)
  | some h=>
   refine jv (by simp) fun d hd=>?_
   simp only [aF,aN,or_false] at hd
   rcases hd with rfl | rfl
   ·exact jN _ _
   ·exact jJ _ _
theorem G2 (hl:l.length<=1000)(h:∀ d ∈ l,OkX d):OkP (.lst l):=⟨by rw [dp];exact eG (yN fun d hd=>(h d hd).1),fun l' e=>by rcases e with e | e <;> cases e;exact ⟨hl,h⟩⟩
theorem Mu (hl:l.length<=1000)(h:∀ d ∈ l,OkX d):OkP (.tup l):=⟨by rw [dp];exact eG (yN fun d hd=>(h d hd).1),fun l' e=>by rcases e with e | e <;> cases e;exact ⟨hl,h⟩⟩
theorem Fv {x:AV} {l:List AV}(h:qv x M=some l):qF x M=some l:=by
 rcases JE h with ⟨m,rfl,rfl⟩ | ⟨a,rfl,e⟩
 ·rfl
 ·exact zF e
theorem Wl {α:Type}(xs:List α)(lo hi:Option Int):(xb xs lo hi).length<=xs.length/\∀ x ∈ xb xs lo hi,x ∈ xs:=by
 unfold xb
 exact ⟨by rw [bI,cw];omega,fun x hx=>lF (lG hx)⟩
noncomputable def Yu:ASp:=fun xs M Q=>∃ (b:ay) (N n:Nat),xs=[.ref b,.d (.int n)]/\BxM M b N/\N<=2000/\n<=1000/\∀ M',BxS M M' b (N+1000)->Q (.d (.bl true)) M'
noncomputable abbrev v6:cg:=top 40
theorem ZO:zr ["_law_box_here","_law_n","_law_turn","_law_thing","_law_plan_here","_law_row","_law_hand","_law_at","_law_due"] ["_law_box_here","_law_n"] (zg v6):=⟨rfl,rfl,rfl,by decide +kernel,rfl,by decide +kernel,by decide +kernel⟩
theorem VU (a:At K mg "_law_plans_right" v6)(B:Blt mg)(D_law_take:Df P w K mg base "_law_take" ["_law_box_here","_law_many"] 10 (cSp ZK))(D_law_plan:Df P w K mg base "_law_plan" ["_law_box_here","_law_n","_law_many"] 10 (EK DR))(D_law_double:Df P w K mg base "_law_double" ["_law_box_here","_law_row"] 10 (cSp Hb))(D_law_judged:Df P w K mg base "_law_judged" ["_law_n","_law_plan_here"] 10 (cSp vO))(D_law_alike:Df P w K mg base "_law_alike" ["_law_found","_law_due"] 10 (cSp (wM 4)))
  (D_law_walk_told:Df P w K mg base "_law_walk_told" ["_law_n","_law_plan_here"] 10 (cSp vO)) (D_law_order_told:Df P w K mg base "_law_order_told" ["_law_n","_law_plan_here"] 10 (cSp WW)):Df P w K mg base "_law_plans_right" ["_law_box_here","_law_n"] 11 (cSp Yu):=by
 refine dfA (k:=10) a ZO (fun _ _ _ _ _ _=>Pn2_ fun _ _=>rfl) (fun xs M Q h=>?_) (fun f cdv A outer s H E hr=>?_)
 ·obtain ⟨_,_,_,rfl,_⟩:=h;rfl
 have sc:=ZO
 have hsl:=hsl
 refine ⟨_,(zc (qk (zO D_law_plan hr rfl (za (pv 0) (za (pv 1) (za (zO D_law_take hr rfl (za (pv 0) (za zh zb))) zb)))) (qj (K:=K) 3 rfl rfl (zy (zx (i:=4) sc.nd rfl (by first | exact aV rfl | exact aW rfl)) (zy (zx (i:=5) sc.nd rfl (by first | exact aV rfl | exact aW rfl)) (zy (zx (i:=6) sc.nd rfl (by first | exact aV rfl | exact aW rfl)) qi)))))
  (zc (jP cu rfl (qE rfl B.range (za zh zb)) (zx (i:=2) sc.nd rfl (by first | exact aV rfl | exact aW rfl)) (zc (zE (i:=7) sc.nd rfl (by first | exact aV rfl | exact aW rfl) (zO D_law_take hr rfl (za (pv 0) (za (zL jy (zn zv rfl B.len qd (za (pv 4) zb)) zh) zb))))
  (ze (zE (i:=4) sc.nd rfl (by first | exact aV rfl | exact aW rfl) (zL kQ (zL kQ (j9 yt (pv 4) xG (kj (pv 7))) (zR (za (zO D_law_double hr rfl (za (pv 0) (za (zu zB (zR (za (zH (jh rfl) rfl B.list qy (za (zH jI rfl B.range xt (za (pv 1) zb)) zb)) (za (pv 5) zb))) (pv 2) (fun _ _=>rfl)) zb))) zb))) (j9 yt (pv 4) (kj (pv 7)) xG))))))
  (zc (jP cu rfl (Jp (zD (za (pv 4) (za (zH ql rfl B.tuple qz (za (pv 4) zb)) (za (j9 yt (pv 4) xG (kj (BK Kk zh))) zb))))) (zx (i:=3) sc.nd rfl (by first | exact aV rfl | exact aW rfl)) (zc (zE (i:=8) sc.nd rfl (by first | exact aV rfl | exact aW rfl) (zO D_law_judged hr rfl (za (pv 1) (za (pv 3) zb))))
  (zc (zN (qJ (qp (zO D_law_alike hr rfl (za (zO D_law_walk_told hr rfl (za (pv 1) (za (pv 3) zb))) (za (pv 8) zb))) (fun _=>rfl))) (ze (zA kf)) zw)
  (zc (zN (zo (zY hr.units) (zu zB (pv 8) zh (fun _ _=>rfl)) zm (zq _)) (ze (zE (i:=8) sc.nd rfl (by first | exact aV rfl | exact aW rfl) (zD (za zm (za (zu zB (pv 8) zh (fun _ _=>rfl)) zb))))) zw)
  (zc (zN (zo (zY hr.units) (zu zB (pv 8) zh (fun _ _=>rfl)) zm (zq _)) (ze (zE (i:=8) sc.nd rfl (by first | exact aV rfl | exact aW rfl) (zD (za zm (za (zu zB (pv 8) zh (fun _ _=>rfl)) zb))))) zw)
  (ze (zN (qJ (qp (zO D_law_alike hr rfl (za (zO D_law_order_told hr rfl (za (pv 1) (za (pv 3) zb))) (za (pv 8) zb))) (fun _=>rfl))) (ze (zA kf)) zw)))))))
  (ze (zA kf))))),?_⟩
 refine ex2 (by walk_at "sim") ?_
 rintro xs M Q ⟨b,N,n,rfl,hb,hN,hn,q⟩
 rw [show zM ["_law_box_here","_law_n","_law_turn","_law_thing","_law_plan_here","_law_row","_law_hand","_law_at","_law_due"] [.ref b,.d (.int n)]=[some (.ref b),some (.d (.int n)),none,none,none,none,none,none,none] from rfl]
 have sb:=SB.refl hb
 refine zd fun r1 hr1=>?_
 walk_at "ra"
 refine ⟨b,20,_,rfl,sb.bx,by omega,by omega,by omega,fun m M2 s2 m0 m1=>?_⟩
 have sb:=sb.go s2
 refine ⟨b,n,_,m,rfl,by omega,m0,by omega,sb.bx,by omega,fun M3 ds st p s3 hp hpb ld hdo=>?_⟩
 refine ⟨rfl,_,_,rfl,_,_,rfl,_,_,rfl,rfl,?_⟩
 obtain ⟨p0,pb⟩:=sb.new hp
 have sb:=sb.go s3
 have sb:=sb.put p0 pb (.lst ((ds.map dD).map AV.d))
 have hpl:mup M3 p (.lst ((ds.map dD).map AV.d)) p=some (.lst ((ds.map dD).map .d)):=zf
 have okl:∀ d ∈ ds.map dD,OkX d:=fun d hd=>by obtain ⟨e,_,rfl⟩:=bE.mp hd;exact BR e
 have ll:(ds.map dD).length<=20:=by rw [aw];omega
 have lrow:st.1.length=n:=(Av hdo (jC n)).1
 generalize mup M3 p (.lst ((ds.map dD).map AV.d))=M4 at *
 generalize ds.map dD=l0 at *
 have sb:=sb.mono (show _<=N+300 by omega)
 subst hr1
 refine zd fun r1 hr1=>?_
 walk_at "ra"
 refine ⟨by omega,by omega,?_⟩
 refine ⟨fun i ρ M'=>SB M M' b (N+300+10 * i)/\∃ z l u2 u7,ρ=[some (.ref b),some (.d (.int n)),u2,none,some z,some (.d (.lst (st.1.map oD))),some (.d (oD st.2)),u7,none]/\((i=0/\z=.ref p/\M' p=some (.lst (l.map .d))) \/ z=.d (.lst l))/\l.length<=20+i/\∀ d ∈ l,OkX d,⟨sb,_,l0,_,_,rfl,.inl ⟨rfl,rfl,hpl⟩,ll,okl⟩,?_,?_⟩
 ·clear sb hpl okl ll
  rintro i y ρ M5 hy ⟨sb,z,l,u2,u7,rfl,hz,ll,okl⟩
  obtain ⟨hi,rfl⟩:=jw hy
  have hi:i<2:=hi
  refine ⟨trivial,?_⟩
  rw [mR,ie]
  have hl:∀ {M' k},BxS M5 M' b k->qv z M'=some (l.map .d):=fun {M' k} s=>by
   rcases hz with ⟨_,rfl,h⟩ | rfl
   ·exact qY ((s.at pb).trans h)
   ·rfl
  have hl0:qv z M5=some (l.map .d):=by
   rcases hz with ⟨_,rfl,h⟩ | rfl
   ·exact qY h
   ·rfl
  refine kI fun D1 hD1=>?_
  refine zd fun r2 hr2=>?_
  walk_at "ra"
  refine ⟨_,Fv hl0,b,_,_,rfl,sb.bx,by omega,by rw [aw];omega,by rw [aw];omega,fun at_ M6 s6 a0 a1=>?_⟩
  rw [aw] at a1
  have hl6:=hl s6
  have sb:=sb.go s6
  obtain ⟨k,rfl⟩:∃ k:Nat,at_=k:=⟨at_.toNat,by omega⟩
  have hk:k<=l.length:=by omega
  clear a0 a1
  subst hr2
  walk_at "ra"
  refine ⟨_,hl6,_,by rw [yr,Fo,zT],_,_,_,rfl,iF (by omega) (by omega) (by omega) (by omega),n,by rw [fE];split <;> omega,by omega,by omega,?_⟩
  rw [show (z0 0 1 n).map Dat.int=((z0 0 1 n).map some).map oD by rw [aZ];rfl]
  obtain ⟨row,hrow,erow⟩:∃ row:List (Option Int),row.length=n/\atI [AV.d (Dat.lst (((z0 0 1 n).map some).map oD)),AV.d (Dat.lst (st.1.map oD))] (i:Int)=some (.d (.lst (row.map oD))):=by
   obtain rfl | rfl:i=0 \/ i=1:=by omega
   ·exact ⟨(z0 0 1 n).map some,(jC n).1,rfl⟩
   ·exact ⟨st.1,lrow,rfl⟩
  refine ⟨_,erow,b,_,row,rfl,sb.bx,by omega,by omega,fun x M7 s7 okx=>⟨by omega,_,rfl,by simp only [bI,eT];omega,_,by rw [<- bO,zT],_,hl (s6.trans s7),_,by rw [yr,vf,zT],by simp only [bA,bI,eT,cw];omega,_,by rw [<- bO,zT],?_⟩⟩
  subst hD1
  refine ⟨(sb.go s7).mono (by omega),_,_,_,_,rfl,.inr rfl,by simp only [bA,bI,eT,cw];omega,fun d hd=>?_⟩
  rcases dM.mp hd with hd | hd
  ·rcases dM.mp hd with hd | hd
   ·exact okl d (lG hd)
   ·rw [cj.mp hd];exact okx
  ·exact okl d (lF hd)
 ·rintro ρ M5 ⟨sb,z,l,u2,u7,rfl,hz,ll,okl⟩
  refine ⟨trivial,?_⟩
  rw [jg] at sb hz ll
  obtain rfl:z=.d (.lst l):=by
   rcases hz with ⟨h,_⟩ | h
   ·cases h
   ·exact h
  subst hr1
  dsimp only
  refine zd fun r1 hr1=>?_
  walk_at "ra"
  obtain ⟨c0,c1⟩:=Wl l none (some (-1))
  refine ⟨_,by rw [yr,zT],by omega,?_⟩
  have ok3:∀ y ∈ [AV.d (Dat.lst l),AV.d (Dat.tup l),AV.d (Dat.lst (xb l none (some (-1))))],∃ x,y=.d x/\OkP x:=fun y hy=>by
   simp only [aF,aN,or_false] at hy
   rcases hy with rfl | rfl | rfl
   ·exact ⟨_,rfl,G2 (by omega) okl⟩
   ·exact ⟨_,rfl,Mu (by omega) okl⟩
   ·exact ⟨_,rfl,G2 (by omega) fun d hd=>okl d (c1 d hd)⟩
  generalize [AV.d (Dat.lst l),AV.d (Dat.tup l),AV.d (Dat.lst (xb l none (some (-1))))]=L3 at *
  refine ⟨fun i ρ M'=>M'=M5/\∃ u3 u8,ρ=[some (.ref b),some (.d (.int n)),u2,u3,some (.d (.lst l)),some (.d (.lst (st.1.map oD))),some (.d (oD st.2)),u7,u8],⟨rfl,_,_,rfl⟩,?_,?_⟩
  ·rintro i y ρ M6 hy ⟨rfl,u3,u8,rfl⟩
   obtain ⟨x,rfl,okp⟩:=ok3 y (bf hy)
   refine ⟨trivial,?_⟩
   refine kI fun D1 hD1=>?_
   refine zd fun r2 hr2=>?_
   walk_at "ra"
   refine ⟨n,x,rfl,hn,okp,?_⟩
   subst hr2
   refine zd fun r2 hr2=>?_
   walk_at "ra"
   refine ⟨n,x,rfl,hn,okp,_,_,_,rfl,rfl,rfl,En hn,by omega,true,rfl,?_⟩
   rw [if_neg (by decide)]
   have fd:=Ak (x:=x) hn
   unfold v7
   subst hr2
   cases hw:jV n x with
   | error e=>
    have ed:va n x=.tup [.str (af "bad"),.int e.1,.str (af e.2)]:=by unfold va;rw [hw]
    refine zd fun r2 hr2=>?_
    walk_at "ra"
    refine ⟨_,rfl,_,rfl,by rw [zZ];omega,?_⟩
    rw [if_neg (by rw [qo];decide +kernel)]
    subst hr2
    refine zd fun r2 hr2=>?_
    walk_at "ra"
    refine ⟨_,rfl,_,rfl,by rw [zZ];omega,?_⟩
    rw [if_neg (by rw [qo];decide +kernel)]
    subst hr2
    walk_at "ra"
    refine ⟨n,x,rfl,hn,okp,_,_,va n x,rfl,rfl,by rw [ed];rfl,fd,by omega,true,rfl,?_⟩
    rw [if_neg (by decide)]
    subst hD1
    exact ⟨rfl,_,_,rfl⟩
   | ok t=>
    dsimp only
    unfold vi
    cases hh:t.1.2 with
    | some h=>
     have ed:va n x=.tup [.str (af "open"),.int h]:=by unfold va;rw [hw];dsimp only;rw [hh]
     refine zd fun r2 hr2=>?_
     walk_at "ra"
     refine ⟨_,rfl,_,rfl,by rw [zZ];omega,?_⟩
     rw [if_pos (by rw [qo];decide +kernel)]
     refine ⟨_,rfl,by omega,_,rfl,?_⟩
     subst hr2
     refine zd fun r2 hr2=>?_
     walk_at "ra"
     refine ⟨_,rfl,_,rfl,by rw [zZ];omega,?_⟩
     rw [if_neg (by rw [qo];decide +kernel)]
     subst hr2
     walk_at "ra"
     refine ⟨n,x,rfl,hn,okp,_,_,va n x,rfl,rfl,by rw [ed];rfl,fd,by omega,true,rfl,?_⟩
     rw [if_neg (by decide)]
     subst hD1
     exact ⟨rfl,_,_,rfl⟩
    | none=>
     have ed:va n x=.tup [.str (af "order"),.lst ((bL t.1.1).map .int)]:=by unfold va;rw [hw];dsimp only;rw [hh]
     refine zd fun r2 hr2=>?_
     walk_at "ra"
     refine ⟨_,rfl,_,rfl,by rw [zZ];omega,?_⟩
     rw [if_neg (by rw [qo];decide +kernel)]
     subst hr2
     refine zd fun r2 hr2=>?_
     walk_at "ra"
     refine ⟨_,rfl,_,rfl,by rw [zZ];omega,?_⟩
     rw [if_pos (by rw [qo];decide +kernel)]
     refine ⟨_,rfl,by omega,_,rfl,?_⟩
     subst hr2
     walk_at "ra"
     refine ⟨n,x,rfl,hn,okp,_,_,va n x,rfl,rfl,by rw [ed];rfl,fd,by omega,true,rfl,?_⟩
     rw [if_neg (by decide)]
     subst hD1
     exact ⟨rfl,_,_,rfl⟩
  ·rintro ρ M6 ⟨rfl,u3,u8,rfl⟩
   refine ⟨trivial,?_⟩
   subst hr1
   dsimp only
   walk_at "ra"
   exact (sb.mono (by omega)).rt q
noncomputable abbrev DM:cg:=top 41
theorem BU:zr ["_law_script","_law_box_here","_law_n"] ["_law_script"] (zg DM):=⟨rfl,rfl,rfl,by decide +kernel,rfl,by decide +kernel,by decide +kernel⟩
noncomputable def XW (K:aA):Sp:=fun vs H Q _=>∃ (a:ay) (ns:List Int),vs=[.ref a]/\SqL K H a (ns.map V.int)/\ns.length<=63/\∀ H',Q (.bl true) H'
noncomputable def L9 (K:aA):ASp:=fun xs M Q=>∃ ns:List Int,xs=[.d (.scr K ns)]/\ns.length<=63/\Q (.d (.bl true)) M
theorem sp_law (vs:List V)(H:Hp)(Q:VK)(E:XK)(h:XW K vs H Q E):cSp (L9 K) vs H Q E:=by
 obtain ⟨a,ns,rfl,ha,hn,q⟩:=h
 refine ⟨[.d (.scr K ns)],fun _=>none,fun _=>False,fun x _=>x=.d (.bl true),⟨(fun a o e=>nomatch e),(fun a h=>h rfl),fun a h=>h.elim⟩,.cons (Eg (fun _ z=>z) ha) .nil,⟨ns,rfl,hn,rfl⟩,fun x M' v H' O' hx _ _ r=>?_⟩
 subst hx
 rw [xu r]
 exact q H'
theorem He (a:At K mg "law" DM)(B:Blt mg)(D_law_boxes:Df P w K mg base "_law_boxes" ["_law_script","_law_many"] 19 (cSp (AJ K)))(D_law_length:Df P w K mg base "_law_length" ["_law_box_here","_law_most"] 19 (cSp YI))(D_law_room_right:Df P w K mg base "_law_room_right" ["_law_box_here","_law_n"] 19 (cSp Bl))(D_law_plans_right:Df P w K mg base "_law_plans_right" ["_law_box_here","_law_n"] 19 (cSp Yu)) :
  Df P w K mg base "law" ["_law_script"] 20 (cSp (L9 K)):=by
 refine dfA (k:=19) a BU (fun _ _ _ _ _ _=>Pn1_ fun _=>rfl) (fun xs M Q h=>?_) (fun f cdv A outer s H E hr=>?_)
 ·obtain ⟨_,rfl,_⟩:=h;rfl
 have sc:=BU
 have hsl:=hsl
 refine ⟨_,(zc (jP cu rfl (Jp (zO D_law_boxes hr rfl (za (pv 0) (za zh zb)))) (zx (i:=1) sc.nd rfl (by first | exact aV rfl | exact aW rfl)) (zc (zE (i:=2) sc.nd rfl (by first | exact aV rfl | exact aW rfl) (zO D_law_length hr rfl (za (pv 1) (za zh zb))))
  (ze (zN (PW.pt (kl (qJ (qp (zO D_law_room_right hr rfl (za (pv 1) (za (pv 2) zb))) (fun _=>rfl))) (jE (qJ (qp (zO D_law_plans_right hr rfl (za (pv 1) (za (pv 2) zb))) (fun _=>rfl)))))) (ze (zA kf)) zw))))
  (ze (zA kf))),?_⟩
 refine ex2 (by walk_at "sim") ?_
 rintro xs M Q ⟨ns,rfl,hn,q⟩
 rw [show zM ["_law_script","_law_box_here","_law_n"] [.d (.scr K ns)]=[some (.d (.scr K ns)),none,none] from rfl]
 refine zd fun r1 hr1=>?_
 walk_at "ra"
 refine ⟨6,ns,rfl,by omega,by omega,hn,fun p M' bs fr hp hl nd hb hlen=>?_⟩
 refine ⟨_,zF hl,?_⟩
 refine ⟨fun i ρ M1=>(∃ u1 u2,ρ=[some (.d (.scr K ns)),u1,u2])/\Fr M M1/\M1 p=some (.lst (bs.map AV.ref))/\∀ (j:Nat) b,i<=j->bs[j]?=some b->BxM M1 b 0,⟨⟨_,_,rfl⟩,fr,hl,fun j b _ hj=>(hb b (bf hj)).1⟩,?_,?_⟩
 ·rintro i y ρ M1 hy ⟨⟨u1,u2,rfl⟩,f1,hl1,hbx⟩
  refine ⟨zF hl1,?_⟩
  rw [aK] at hy
  obtain ⟨b,hbi,rfl⟩:=dQ.mp hy
  obtain ⟨_,hbp,b0⟩:=hb b (bf hbi)
  have bx:=hbx i b (aM i) hbi
  refine kI fun D1 hD1=>?_
  refine zd fun r2 hr2=>?_
  walk_at "ra"
  refine ⟨b,60,0,rfl,bx,by omega,by omega,by omega,fun n M3 s3 n0 n1=>?_⟩
  obtain ⟨n,rfl⟩:∃ k:Nat,n=k:=⟨n.toNat,by omega⟩
  subst hr2
  walk_at "ra"
  refine ⟨b,_,n,rfl,s3.1,by omega,by omega,fun M4 s4=>⟨true,rfl,?_⟩⟩
  rw [if_neg (by decide)]
  refine ⟨b,_,n,rfl,s4.1,by omega,by omega,fun M5 s5=>⟨true,rfl,?_⟩⟩
  rw [if_neg (by decide)]
  have s:=(s3.trans s4).trans s5
  subst hD1
  refine ⟨⟨_,_,rfl⟩,f1.bx s b0,(s.at (Ne.symm hbp)).trans hl1,fun j c hj hc=>Wx (hbx j c (by omega) hc) (s.at fun z=>?_)⟩
  subst z
  have:=(mP (aG.mp hc).1 nd).mp (hc.trans hbi.symm)
  omega
 ·rintro ρ M1 ⟨⟨u1,u2,rfl⟩,f1,hl1,hbx⟩
  refine ⟨zF hl1,?_⟩
  subst hr1
  dsimp only
  walk_at "ra"
  exact kC f1 q
end
variable {l:PySem.W.OpenLaw}
theorem all_mk {w:bu}{K:aA}{h:Heap}{mg:Str->Option aj}{fa C pa cTurnError cBadDeed cBadPlan cBadRing cBadRow cNoMatch cNotDone fBadDeed fBadPlan fNotDone:ay}{cdd:ClassData}{cdp:ClassData}{cdo:ClassData}(X:K.In h)(G:h.Ns bh mg)(hfa:mg "law"=some (.ref fa))(a:At K mg "law" DM)(B:Blt mg)(Ball:mg "all"=none)(BValueError:mg "ValueError"=none)
  (a__law_take:At K mg "_law_take" Xe) (a__law_box:At K mg "_law_box" Wm) (a__law_folded:At K mg "_law_folded" wU) (a__law_length:At K mg "_law_length" wb) (a__law_deed:At K mg "_law_deed" Km) (a__law_done:At K mg "_law_done" Xd) (a__law_plan:At K mg "_law_plan" KM) (a__law_alike:At K mg "_law_alike" yF) (a__law_boxes:At K mg "_law_boxes" Qo) (a__law_why:At K mg "_law_why" ZS) (a__law_counted:At K mg "_law_counted" ZV) (a__law_judged:At K mg "_law_judged" KU) (a__law_refusal:At K mg "_law_refusal" Qe) (a__law_walk_told:At K mg "_law_walk_told" QG) (a__law_order_told:At K mg "_law_order_told" Z8) (a__law_double:At K mg "_law_double" DV) (a__law_deed_told:At K mg "_law_deed_told" Qf) (a__law_stands:At K mg "_law_stands" yK) (a__law_room_right:At K mg "_law_room_right" Qc) (a__law_plans_right:At K mg "_law_plans_right" v6) (a_is_place:At K mg "is_place" yd) (a_is_deed:At K mg "is_deed" wf) (a_back_of:At K mg "back_of" Kq) (a_room_behind:At K mg "room_behind" Xm) (a_walked:At K mg "walked" AU) (a_order_done:At K mg "order_done" Qk)
  (ag_TurnError:br K bh "TurnError"=some (some (.ref cTurnError)))
  (ag_BadDeed:br K bh "BadDeed"=some (some (.ref cBadDeed)))
  (ag_BadPlan:br K bh "BadPlan"=some (some (.ref cBadPlan)))
  (ag_BadRing:br K bh "BadRing"=some (some (.ref cBadRing)))
  (ag_BadRow:br K bh "BadRow"=some (some (.ref cBadRow)))
  (ag_NoMatch:br K bh "NoMatch"=some (some (.ref cNoMatch)))
  (ag_NotDone:br K bh "NotDone"=some (some (.ref cNotDone)))
  (xgs:eW K (.builtin "object.__class__") "__get__"=some (some (.builtin "getset_descriptor.__get__")))
  (xtk:gH K (.builtin "object.__class__")=some true)
  (dbx:lS K (.ref cBadDeed) (.type "BaseException")=some true)
  (dga:aT K (.ref cBadDeed) "__getattribute__"=some (some (.builtin "BaseException.__getattribute__")))
  (dgt:aT K (.ref cBadDeed) "__getattr__"=some none)
  (dcl:aT K (.ref cBadDeed) "__class__"=some (some (.builtin "object.__class__")))
  (dmo:iu K cBadDeed (.type "object")=some true)
  (dis:eR K cBadDeed=some cdd)
  (dhd:ci K cBadDeed=true)
  (dfw:aT K (.ref cBadDeed) "word"=some none)
  (pbx:lS K (.ref cBadPlan) (.type "BaseException")=some true)
  (pga:aT K (.ref cBadPlan) "__getattribute__"=some (some (.builtin "BaseException.__getattribute__")))
  (pgt:aT K (.ref cBadPlan) "__getattr__"=some none)
  (pcl:aT K (.ref cBadPlan) "__class__"=some (some (.builtin "object.__class__")))
  (pmo:iu K cBadPlan (.type "object")=some true)
  (pis:eR K cBadPlan=some cdp)
  (phd:ci K cBadPlan=true)
  (pfw:aT K (.ref cBadPlan) "word"=some none)
  (di:cf K (.ref cBadDeed) (.ref cBadDeed)=some true)
  (pfp:aT K (.ref cBadPlan) "place"=some none)
  (pt:cf K (.ref cBadPlan) (.ref cTurnError)=some true)
  (pv:aY K (.ref cBadPlan) [.type "ValueError"]=some true)
  (obx:lS K (.ref cNotDone) (.type "BaseException")=some true)
  (oga:aT K (.ref cNotDone) "__getattribute__"=some (some (.builtin "BaseException.__getattribute__")))
  (ogt:aT K (.ref cNotDone) "__getattr__"=some none)
  (ocl:aT K (.ref cNotDone) "__class__"=some (some (.builtin "object.__class__")))
  (omo:iu K cNotDone (.type "object")=some true)
  (ois:eR K cNotDone=some cdo)
  (ohd:ci K cNotDone=true)
  (ofh:aT K (.ref cNotDone) "hand"=some none)
  (ot:cf K (.ref cNotDone) (.ref cTurnError)=some true)
  (ov:aY K (.ref cNotDone) [.type "ValueError"]=some true)
  (pip:aY K (.ref cBadPlan) [.ref cBadPlan]=some true)
  (pio:aY K (.ref cBadPlan) [.ref cNotDone]=some false)
  (pid:aY K (.ref cBadPlan) [.ref cBadDeed]=some false)
  (pir:aY K (.ref cBadPlan) [.ref cBadRing]=some false)
  (piw:aY K (.ref cBadPlan) [.ref cBadRow]=some false)
  (pim:aY K (.ref cBadPlan) [.ref cNoMatch]=some false)
  (oip:aY K (.ref cNotDone) [.ref cBadPlan]=some false)
  (oio:aY K (.ref cNotDone) [.ref cNotDone]=some true)
  (oid:aY K (.ref cNotDone) [.ref cBadDeed]=some false)
  (oir:aY K (.ref cNotDone) [.ref cBadRing]=some false)
  (oiw:aY K (.ref cNotDone) [.ref cBadRow]=some false)
  (oim:aY K (.ref cNotDone) [.ref cNoMatch]=some false)
  (dip:aY K (.ref cBadDeed) [.ref cBadPlan]=some false)
  (dio:aY K (.ref cBadDeed) [.ref cNotDone]=some false)
  (did:aY K (.ref cBadDeed) [.ref cBadDeed]=some true)
  (dir:aY K (.ref cBadDeed) [.ref cBadRing]=some false)
  (diw:aY K (.ref cBadDeed) [.ref cBadRow]=some false)
  (dim:aY K (.ref cBadDeed) [.ref cNoMatch]=some false)
  (dv:aY K (.ref cBadDeed) [.type "ValueError"]=some true)
  (dt:cf K (.ref cBadDeed) (.ref cTurnError)=some true)
  (xa_BadDeed:aT K (.ref cBadDeed) "__init__"=some (some (.ref fBadDeed))) (xd_BadDeed:∃ fd,Fun K "__init__" "BadDeed.__init__" wL fBadDeed fd) (xn_BadDeed:cQ K (.ref fBadDeed)=true) (xq_BadDeed:jF K cBadDeed yW "ValueError.__new__" fBadDeed=true) (xs_BadDeed_word:xV K cBadDeed "word")
  (xa_BadPlan:aT K (.ref cBadPlan) "__init__"=some (some (.ref fBadPlan))) (xd_BadPlan:∃ fd,Fun K "__init__" "BadPlan.__init__" yv fBadPlan fd) (xn_BadPlan:cQ K (.ref fBadPlan)=true) (xq_BadPlan:jF K cBadPlan yW "ValueError.__new__" fBadPlan=true) (xs_BadPlan_place:xV K cBadPlan "place") (xs_BadPlan_word:xV K cBadPlan "word")
  (xa_NotDone:aT K (.ref cNotDone) "__init__"=some (some (.ref fNotDone))) (xd_NotDone:∃ fd,Fun K "__init__" "NotDone.__init__" wA fNotDone fd) (xn_NotDone:cQ K (.ref fNotDone)=true) (xq_NotDone:jF K cNotDone yW "ValueError.__new__" fNotDone=true) (xs_NotDone_hand:xV K cNotDone "hand")
  (aP:br K bh "PLACES_OF"=some (some (.ref pa))) {t1 t2 t3 t4 u1 u2 u3 u4:Tok} {ep:Nat}
  (lP:K.lookup pa=some ⟨.type "dict",none,.dict #[⟨ia w "swap",.str "swap" t1,.int 2 u1⟩,⟨ia w "take",.str "take" t2,.int 1 u2⟩,⟨ia w "move",.str "move" t3,.int 2 u3⟩,⟨ia w "lay",.str "lay" t4,.int 1 u4⟩] ep,#[]⟩) (nP:(pa == dJ)=false)
  (aC:br K bh "Room"=some (some (.ref C))) (pg:fh K C Str.empty=true) (hd:ci K C=true) (po:ig K C=true) (sa:aT K (.ref C) "__setattr__"=some (some (.builtin "object.__setattr__"))) (mk:li K C=true) (kc:de K (.ref C)=true)
  (nr:aT K (.ref C) "row"=some none) (nh:aT K (.ref C) "hand"=some none) (nm:aT K (.ref C) "moved"=some none)
  (am___init__:AtM K C "__init__" "Room.__init__" ZY) (am_do:AtM K C "do" "Room.do" LA) (am_swap:AtM K C "swap" "Room.swap" J9) (am_take:AtM K C "take" "Room.take" ZT) (am_move:AtM K C "move" "Room.move" Kl) (am_lay:AtM K C "lay" "Room.lay" Dz) (am_lift:AtM K C "lift" "Room.lift" Ke) (am_row_now:AtM K C "row_now" "Room.row_now" Xc) (am_hand_now:AtM K C "hand_now" "Room.hand_now" Kx) (am_moved_now:AtM K C "moved_now" "Room.moved_now" Xa) (am_twin:AtM K C "twin" "Room.twin" Ki)
 :∃ fd:df,(∀ (s:az) (v:aj),i3 s fd ⟨[v],[]⟩ [("_law_script",v)])/\∀ base:Heap,K.In base->base.Ns bh mg->jK l.prog w K mg base CX0 20 fa fd ["_law_script"] (XW K):=by
 obtain ⟨f,fd,F,m⟩:=id a
 obtain rfl:fa=f:=by rw [hfa] at m;cases m;rfl
 obtain ⟨oc,od,kV,doc,pm,an,cdv,ct,osl,e,lk,hcd⟩:=F.ex
 refine ⟨fd,fun s v=>?_,fun base _ _=>?_⟩
 ·subst e;exact .of_eq rfl
 ·have T:=Gd (P:=l.prog) (w:=w) (base:=base) a__law_take B
  have XG_TurnError:=dr X G ag_TurnError
  have XG_BadDeed:=dr X G ag_BadDeed
  have XG_BadPlan:=dr X G ag_BadPlan
  have XG_BadRing:=dr X G ag_BadRing
  have XG_BadRow:=dr X G ag_BadRow
  have XG_NoMatch:=dr X G ag_NoMatch
  have XG_NotDone:=dr X G ag_NotDone
  have R:RTx K C:=⟨⟨pg,hd,po,sa⟩,nr,nh,nm⟩
  have KP:KD K w pa Ep:=Vq lP nP
  have MP:=dr X G aP
  have MC:=dr X G aC
  have XD:XB K cBadDeed:=⟨⟨dbx,dga,dgt,dcl,xgs,xtk,dmo,by rw [dis];rfl⟩,di,dhd,dfw⟩
  have XCP:vw K cBadPlan:=⟨pbx,pga,pgt,pcl,xgs,xtk,pmo,by rw [pis];rfl⟩
  have XCO:vw K cNotDone:=⟨obx,oga,ogt,ocl,xgs,xtk,omo,by rw [ois];rfl⟩
  have XP:KF K cBadDeed cBadPlan cBadRing cBadRow cNoMatch cNotDone cBadPlan true false false:=⟨XCP,pip,pio,pid,pir,piw,pim,pv,phd⟩
  have XO:KF K cBadDeed cBadPlan cBadRing cBadRow cNoMatch cNotDone cNotDone false true false:=⟨XCO,oip,oio,oid,oir,oiw,oim,ov,ohd⟩
  have XDD:KF K cBadDeed cBadPlan cBadRing cBadRow cNoMatch cNotDone cBadDeed false false true:=⟨XD.x,dip,dio,did,dir,diw,dim,dv,dhd⟩
  obtain ⟨fdB,FB⟩:=xd_BadDeed
  obtain ⟨fdP,FP⟩:=xd_BadPlan
  obtain ⟨fdN,FN⟩:=xd_NotDone
  have MX:MkX l.prog w K mg base cBadDeed 1 1 fnW:=IY FB xq_BadDeed xn_BadDeed xs_BadDeed_word
  have MP1:MkX l.prog w K mg base cBadPlan 1 2 fnP:=HU FP xq_BadPlan xn_BadPlan xs_BadPlan_place xs_BadPlan_word
  have MP2:Z1 l.prog w K mg base cBadPlan 1 2 fnP:=FV FP xq_BadPlan xn_BadPlan xs_BadPlan_place xs_BadPlan_word
  have MN:MkX l.prog w K mg base cNotDone 1 1 fnN:=HY FN xq_NotDone xn_NotDone xs_NotDone_hand
  have d1:=Vs (P:=l.prog) (w:=w) (base:=base) a_is_deed B Ball (QQ a_is_place B) KP MP
  have ml:=DW am_lift R B MX XG_BadDeed
  have md:=Hx am_do R B (MkX.mono MX (by decide)) XG_BadDeed (d1.mono (by decide)) ((AC am_swap R B MX XG_BadDeed).mono (by decide)) (VH am_take R B (MkX.mono MX (by decide)) XG_BadDeed ml) (Ax am_move R B (MkX.mono MX (by decide)) XG_BadDeed ml) ((E8 am_lay R B MX XG_BadDeed).mono (by decide))
  obtain ⟨fi,fdi,Fi,bi,mi⟩:=(JO (P:=l.prog) (w:=w) (base:=base) am___init__ R B).mono (show 1<=5 by decide)
  have MR:Mkr l.prog w K mg base "Room" C ["self","n"] 5 (cSp (Zg C)):=⟨fi,fdi,Fi,bi,⟨mk,mi.at_,mi.fn,kc⟩,MC⟩
  have rb:=Es (P:=l.prog) (w:=w) (base:=base) a_room_behind B R.cl XG_BadDeed XG_BadPlan (MkX.mono MP1 (by decide)) (MP2.mono (by decide)) XD MR (md.mono (by decide))
  have rn:=Fj (P:=l.prog) (w:=w) (base:=base) am_row_now R B
  have hn:=ET (P:=l.prog) (w:=w) (base:=base) am_hand_now R B
  have mn:=Fh (P:=l.prog) (w:=w) (base:=base) am_moved_now R B
  have wk:=Ht (P:=l.prog) (w:=w) (base:=base) a_walked B R.cl rb ((EZ a_back_of B).mono (by decide)) (rn.mono (by decide)) (hn.mono (by decide)) (mn.mono (by decide))
  have od:=Dx (P:=l.prog) (w:=w) (base:=base) a_order_done B XG_NotDone (MkX.mono MN (by decide)) wk
  have tk:=T.imp' FS
  have dn:=(FJ (P:=l.prog) (w:=w) (base:=base) a__law_done B)
  have dd:=(EN (P:=l.prog) (w:=w) (base:=base) a__law_deed B tk)
  have wy:=BY (P:=l.prog) (w:=w) (base:=base) a__law_why B Ball
  have ct:=WZ (P:=l.prog) (w:=w) (base:=base) a__law_counted B
  have jd:=Ex (P:=l.prog) (w:=w) (base:=base) a__law_judged B (wy.mono (by decide)) (ct.mono (by decide)) (dn.mono (by decide))
  have rf:=W8 (P:=l.prog) (w:=w) (base:=base) a__law_refusal B BValueError XG_BadDeed XG_BadPlan XG_BadRing XG_BadRow XG_NoMatch XG_NotDone XP XO XDD pfw pfp ofh
  have wt:=WV (P:=l.prog) (w:=w) (base:=base) a__law_walk_told B XG_TurnError wk (rf.mono (by decide)) pt
  have ot:=WK (P:=l.prog) (w:=w) (base:=base) a__law_order_told B XG_TurnError od (rf.mono (by decide)) pt ot
  have dt:=Ag (P:=l.prog) (w:=w) (base:=base) a__law_deed_told B R.cl XG_TurnError (md.mono (by decide)) (rf.mono (by decide)) dt XD.x dhd dfw
  have st:=J1 (P:=l.prog) (w:=w) (base:=base) a__law_stands B ((yU a__law_alike B Ball 3).mono (by decide)) R.cl (rn.mono (by decide)) (hn.mono (by decide)) (mn.mono (by decide))
  have db:=Ig (P:=l.prog) (w:=w) (base:=base) a__law_double B tk
  have pl:=D9 (P:=l.prog) (w:=w) (base:=base) a__law_plan B dd (dn.mono (by decide))
  obtain ⟨fi9,fdi9,Fi9,bi9,mi9⟩:=(JO (P:=l.prog) (w:=w) (base:=base) am___init__ R B).mono (show 1<=9 by decide)
  have MR9:Mkr l.prog w K mg base "Room" C ["self","n"] 9 (cSp (Zg C)):=⟨fi9,fdi9,Fi9,bi9,⟨mk,mi9.at_,mi9.fn,kc⟩,MC⟩
  have rr:=Du (P:=l.prog) (w:=w) (base:=base) a__law_room_right B R.cl MR9 (md.mono (by decide)) ((E7 am_twin R B MR).mono (by decide)) (tk.mono (by decide)) (dd.mono (by decide)) (dn.mono (by decide)) (ct.mono (by decide)) (db.mono (by decide)) (wy.mono (by decide)) (dt.mono (by decide)) (st.mono (by decide))
  have pr:=VU (P:=l.prog) (w:=w) (base:=base) a__law_plans_right B (tk.mono (by decide)) (pl.mono (by decide)) (db.mono (by decide)) (jd.mono (by decide)) ((yU a__law_alike B Ball 4).mono (by decide)) (wt.mono (by decide)) (ot.mono (by decide))
  have bx:=Au (P:=l.prog) (w:=w) (base:=base) a__law_boxes B ((Vj a__law_folded B).imp' YX) ((Hd a__law_box B).imp' Io)
  have L:=He (P:=l.prog) (w:=w) (base:=base) a B (bx.mono (by decide)) (((YL a__law_length B T).imp' VJ).mono (by decide)) (rr.mono (by decide)) (pr.mono (by decide))
  exact (L.imp' (sp_law (K:=K))).fn m lk
theorem walk {q:aX}{loose:List Str}{XP:(Str->Option aj)->Heap->Prop}{YP:bu->Heap->Prop}{d:DefRec}{K:Params->aA}(hn:l.most=some 63)(hdf:d.params.defaults=[])
  (hY:∀ (w:bu) (h:Heap),YP w h->(K w.params).In h)
  (F:∀ (w:bu) (mg:Str->Option aj) (fa:ay) (h:Heap),(K w.params).In h->h.Ns bh mg->mg d.name=some (.ref fa) ->
   ∃ fd:df,(∀ (s:az) (u:aj),i3 s fd ⟨[u],[]⟩ [("_law_script",u)])/\∀ base:Heap,(K w.params).In base->base.Ns bh mg->jK l.prog w (K w.params) mg base CX0 20 fa fd ["_law_script"] (XW (K w.params))) :
  PySem.W.WalkO q loose XP YP l.row.toRowW d [] (fun f vs=>nz f vs):=
 L2.walk_of (n:=63) (k:=20) (x:="_law_script") (CX:=fun _=>CX0) (sp:=fun w=>XW (K w.params)) hn (by decide) hdf ⟨rfl,rfl,by decide,by decide⟩ hY F (fun _ _ a ns hl _ hS=>⟨a,ns,rfl,hS,hl,fun _=>rfl⟩) fun _ _ _ _ _ z=>z
end Ot
theorem PySem.W.Fast.te15354285222118661850:True:=trivial
theorem PySem.W.Fast.te5897869789866553761:True:=trivial
theorem PySem.W.Fast.te3719878868769411755:True:=trivial
namespace PySem.W.Fast
def tw12705266463169229209:=()
def tw9264545580362212207:=()
def tw981772702973711129:=()
def tw9778853129620054534:=()
def tw6176726208023341388:=()
def tw619198837494189309:=()
def tw2532230716300874935:=()
def tw15063040415806199934:=()
def tw13416966962475220332:=()
def tw4149044315957327905:=()
def tw17301964621180612183:=()
def tw6411249191184851298:=()
def tw12792552206317834668:=()
def tw15292672858713463928:=()
def tw14929253520378972604:=()
def tw17305268969694716419:=()
def tw12746835777958471570:=()
def tw9997207667607506263:=()
def tw5340627284048984897:=()
def tw14401004090380099966:=()
def tw1192939367835048427:=()
def tw17789055754932485017:=()
def tw3693560982481707797:=()
def tw4952370504713571995:=()
def tw6469577841000160764:=()
def tw10763765090239398883:=()
def tw14965680997913289271:=()
def tw1419284442194022809:=()
def tw16264454639551646327:=()
def tw7416950784017467278:=()
def tw7470935178926703394:=()
def tw4266852030640050636:=()
def tw11434410655311989763:=()
def tw14870885305288945530:=()
def tw4367704971285248287:=()
def tw12048410414738118190:=()
def tw3717648575248373505:=()
def tw17066641477718048068:=()
def tw11090489419689447906:=()
def tw37012097689088528:=()
def tw15898611459532343489:=()
def tw4296540674121323965:=()
def tw18125391632187497580:=()
def tw8709346668016565100:=()
def tw11865453961579856487:=()
def tw16860212418099367636:=()
def tw2748305449411129949:=()
def tw6935580202092413371:=()
def tw4111121535167276741:=()
def tw9053919378464021172:=()
def tw3929885275023471007:=()
def tw10087136229269728452:=()
def tw4542596703366460240:=()
def tw16067865831014554575:=()
def tw2577324112275365102:=()
def tw3130039273888489085:=()
def tw10841412167474951863:=()
def tw1092552706592853239:=()
def tw9795959106849690346:=()
def tw17582204164467903602:=()
def tw2943136726529207972:=()
def tw5947304903867877899:=()
def tw16573692381018829206:=()
def tw10450624123018413443:=()
def tw10520911242067791498:=()
def tw12579589039793292014:=()
def tw1026214596797072963:=()
def tw1756850211351151217:=()
def tw10379157391501636605:=()
def tw759991269813784467:=()
def tw1825366130137646657:=()
def tw9225163064984061929:=()
def tw7066094760273489523:=()
def tw842980276476159005:=()
def tw13896610594442157406:=()
def tw5998508379802400398:=()
def tw17838943536785939732:=()
def tw4327351414712654289:=()
def tw1148913682621224468:=()
def tw11571145611523252247:=()
def tw17865576376892965245:=()
def tw6850546166468544996:=()
def tw9183677089930643768:=()
def tw14197353006377039954:=()
def tw4142520293814079714:=()
def tw1103807951516935775:=()
def tw10186085894939302573:=()
def tw2987441378954372936:=()
def tw5479200144554585098:=()
def tw2600097637521704237:=()
def tw6800973880270700609:=()
def tw14646448956991554293:=()
def tw11607960801966664239:=()
def tw11911108100514472063:=()
def tw4466334373292324385:=()
def tw11046530769291901214:=()
def tw677380343042977785:=()
def tw10116032269847187753:=()
def tw10438670951005647661:=()
def tw16122742453195396045:=()
def tw15945598538796755379:=()
def tw16107807526111562917:=()
def tw6460801325017130496:=()
def tw18351710096336367248:=()
def tw11496260205844606226:=()
def tw6328947362937410024:=()
def tw17017077607845755267:=()
def tw15337289470347694968:=()
def tw8403708755373424841:=()
def tw7404203881615975278:=()
def tw15969246618931420566:=()
def tw4658517793557835605:=()
def tw17807725901998054174:=()
def tw18248680864802674314:=()
def tw153983749065447288:=()
def tw17880675187576379517:=()
def tw17992627641029044146:=()
def tw1465804614759414316:=()
def tw8216015583318799070:=()
def tw13600214837698225997:=()
def tw18274969379726723835:=()
def tw9287477070644100933:=()
def tw8644266618215439728:=()
def tw10067509787835463634:=()
def tw1715195495424843610:=()
def tw10493784601231286243:=()
def tw3147158028428582693:=()
def tw5870773546689183396:=()
def tw4322756754217766709:=()
def tw8721111122951734292:=()
def tw16157842130625753598:=()
def tw607654953798473405:=()
def tw5764471047510800807:=()
def tw6049968189496237716:=()
def tw1530618131407401697:=()
def tw16274832542248013238:=()
def tw16111269734555138744:=()
def tw10572147981804512458:=()
def tw13909004475265363397:=()
def tw10042677965569245246:=()
def tw4750730397203638737:=()
def tw6091151477888169703:=()
def tw15525319918527280731:=()
def tw10493231773071774825:=()
def tw15690118927457021676:=()
def tw9812791424440129036:=()
def tw1452069280766245158:=()
def tw6497451039652874639:=()
def tw13402474838380781147:=()
def tw220554954865810764:=()
def tw10702046125729589821:=()
def tw16102569659734335164:=()
def tw13229373734939372114:=()
def tw4966791068808466105:=()
def tw9565324826384545646:=()
def tw10083107851727460904:=()
def tw8822019662974824683:=()
def tw10974679098187447312:=()
def tw9302509446874170428:=()
def tw12265104790337994648:=()
def tw12226649364968563654:=()
def tw4025075421100656845:=()
def tw3453865538241233565:=()
def tw17559667735251318815:=()
def tw14444013560408767839:=()
def tw12886188263803964529:=()
def tw8665165444137992279:=()
def tw11562205651663059733:=()
def tw15866981759452712317:=()
def tw5047468553881827551:=()
def tw1711045921444096658:=()
def tw9153011575079881550:=()
def tw7327203966936213123:=()
def tw5693654901695179395:=()
def tw11988713664398369624:=()
def tw11943405402194806505:=()
def tw3178519346220665033:=()
def tw6817359240764337609:=()
def tw298253926654943486:=()
def tw7720452466952895604:=()
def tw12645547616848640162:=()
def tw13490092774726810196:=()
def tw4249843856453489089:=()
def tw5954976145641107153:=()
def tw4805437009758793976:=()
def tw11638090926801363396:=()
def tw3322192966403202147:=()
def tw13387286803676641031:=()
def tw10417872759221123342:=()
def tw16627180663932491122:=()
def tw6713179171118783909:=()
def tw14946501838274460699:=()
def tw4893625891098018730:=()
def tw8463307882305646577:=()
def tw6784063865916176128:=()
def tw16903869912795245671:=()
def tw4125556683125516410:=()
def tw8811114375957774712:=()
def tw15376585568907575169:=()
def tw4853773874907185075:=()
def tw7596241541234988081:=()
def tw10183608468884186997:=()
def tw16903109040479478616:=()
def tw7405899599210955699:=()
def tw13884272081129560463:=()
def tw14200490768703878628:=()
def tw10424266414241136685:=()
def tw12180162212048384823:=()
def tw15171880398024519893:=()
def tw5839395335763937490:=()
def tw3983995325606719756:=()
def tw4143856730173897037:=()
def tw4432348570596994707:=()
def tw4231474583503200115:=()
def tw3616190409482224370:=()
def tw12127180261656873605:=()
def tw9194216994157535748:=()
def tw14778201784008975746:=()
def tw10994441119878025173:=()
def tw14788629415119154038:=()
def tw17850386049609804418:=()
def tw16957799404928818950:=()
def tw17240643235497489656:=()
def tw8513540242431435769:=()
def tw14107096181338515456:=()
def tw8281352510633439921:=()
def tw9024540018140298355:=()
def tw18265089878702127605:=()
def tw16342326528974034932:=()
def tw4968710587777445772:=()
def tw16179036038985624358:=()
def tw786710303941282453:=()
def tw10910491079574879899:=()
def tw7773595831462887672:=()
def tw6613939150585344092:=()
def tw3185123464221751286:=()
def tw9818323335518528531:=()
def tw5092499359126995012:=()
def tw5596444374854826234:=()
def tw15763579705319250689:=()
def tw12210715580012889260:=()
def tw1594426496932314078:=()
def tw16605131169029323338:=()
def tw17856336027394612619:=()
def tw7511784234274063275:=()
def tw2878994303153115072:=()
def tw17590721596693253620:=()
def tw18146627135556753820:=()
def tw12196607500166965377:=()
def tw16266611879739610988:=()
def tw8747310089276439438:=()
def tw15584390955530584353:=()
def tw4814101852408538730:=()
def tw15434728485511037541:=()
def tw11368048156079092550:=()
def tw4138885172929167479:=()
def tw14367985037794189982:=()
def tw17892579509425855715:=()
def tw3916000734202722295:=()
def tw14598208515533260042:=()
def tw4231630932888475346:=()
def tw5318720556563727567:=()
def tw15375133244920701143:=()
def tw14174590412330207332:=()
def tw4802784276240679393:=()
def tw17073365733245387060:=()
def tw18068352063406691474:=()
def tw14908338851955915053:=()
def tw6394203561294746989:=()
def tw8281423768722563591:=()
def tw18348901286704179695:=()
def tw4447104795895919533:=()
def tw14759866249060728013:=()
def tw9670324875420244220:=()
def tw13725860750945295142:=()
def tw9566015294186193471:=()
def tw10375639987389728834:=()
def tw7257462623940650582:=()
def tw7182787826131314580:=()
def tw6347351258232372283:=()
def tw5219620684318345298:=()
def tw8210765485871570444:=()
def tw9593949220198549269:=()
def tw1857803044696172247:=()
def tw5094641119537858501:=()
def tw16957859566079945253:=()
def tw14584010123531231093:=()
def tw2149784107050351356:=()
def tw5381463811283329400:=()
def tw8692080581682922344:=()
def tw14817644855611319359:=()
def tw17162488152291840396:=()
def tw2836934757486177276:=()
def tw7138938350275143506:=()
def tw9508725431336340660:=()
def tw5470007003595710300:=()
def tw8513239920351117429:=()
def tw15519985076054188421:=()
def tw10573713906913122936:=()
def tw15861488296997858575:=()
def tw253510487180753398:=()
def tw14384507853599798430:=()
def tw5039418518651911366:=()
def tw1705335422226003560:=()
def tw9819015343412364140:=()
def tw8473911804759064481:=()
def tw10784413687751496810:=()
def tw3529276996917549724:=()
def tw5353016625202808181:=()
def tw12046091077971019608:=()
def tw12567165731409988091:=()
def tw6366106330068732623:=()
def tw13480487097412992332:=()
def tw10272154328953163235:=()
def tw12387929392942228652:=()
def tw8198251002283786513:=()
def tw8607889060156324514:=()
def tw6541607213502638124:=()
def tw5309661896098059550:=()
def tw488374546092793062:=()
def tw790344568766368951:=()
def tw6680892939035369662:=()
def tw15273436460533508330:=()
def tw11863023371217194484:=()
def tw8978054449660869976:=()
def tw7818212668896962145:=()
def tw2083801474846071525:=()
def tw3103068519579096633:=()
def tw18028626572424859180:=()
def tw16465305612397649745:=()
def tw7180470232522659092:=()
def tw15166201852416856311:=()
def tw15081668894851695288:=()
def tw13940761155902951653:=()
def tw8604850625130589011:=()
def tw11136429351365656991:=()
def tw12006272578497385856:=()
def tw15409153627282983687:=()
def tw17590218204176398906:=()
def tw14012015118595971858:=()
def tw17919855699182222628:=()
def tw2425046687756285652:=()
def tw11253932136816193561:=()
def tw11972357897654063014:=()
def tw6735321480700833267:=()
def tw7588357646069393946:=()
def tw17951850033070852754:=()
def tw10554755128364713606:=()
def tw8991184009726720767:=()
def tw2809683819457713497:=()
def tw5551492216922906095:=()
def tw13872432992091093990:=()
def tw2236180762164699381:=()
def tw11591835445004111490:=()
def tw4730009523952466767:=()
def tw3920364945107919198:=()
def tw7952958599571301217:=()
def tw11638596177679069442:=()
def tw14564939026347627297:=()
def tw12559979486436406318:=()
def tw783743719994824819:=()
def tw4238577437011027716:=()
def tw3606108404578372400:=()
def tw9931053155746807509:=()
def tw7095864587297738039:=()
def tw4842648353380258046:=()
def tw11610061738595663469:=()
def tw13698844896839881945:=()
def tw7828626945353945159:=()
def tw6334198281063135336:=()
def tw5250931037752088727:=()
def tw7053696862516862912:=()
def tw7622907816711597321:=()
def tw8444534959535841144:=()
def tw16436200416827158717:=()
def tw10829115964848467664:=()
def tw14376841368395956793:=()
def tw14854432404782394460:=()
def tw15846931420919026090:=()
end PySem.W.Fast
open PySem PySem.W PyProof.Rows
set_option maxRecDepth 100000 in
set_option maxHeartbeats 0 in
theorem PySem.Challenge.cw_ownturn_k76_whole_two_reasons_at_once_holds : PySem.Challenge.rw_ownturn_k76_whole_two_reasons_at_once.Holds := by
 w_on; o_law; k_head; (case hw => w_witness2)
 k_fill
 refine Ot.walk (l := PySem.Challenge.rw_ownturn_k76_whole_two_reasons_at_once) rfl rfl (fun w h Y => PySem.W.kIn_of Y) ?F
 case F =>
  intro w mg fa h KX G hmg
  refine' Ot.all_mk KX G hmg (L2.at_mk KX G ?a0 ?l0 ?c0 ?k0) (L2.blt_mk KX G ?z1 ?z2 ?z3 ?z4 ?z5 ?z6 ?z7 ?z8 ?z9 ?z10 ?z11 ?z12 ?z13 ?z14 ?z15 ?z16) (PySem.W.mg_none_of KX G ?zall) (PySem.W.mg_none_of KX G ?zValueError) (L2.at_mk KX G ?a1 ?l1 ?c1 ?k1) (L2.at_mk KX G ?a2 ?l2 ?c2 ?k2) (L2.at_mk KX G ?a3 ?l3 ?c3 ?k3) (L2.at_mk KX G ?a4 ?l4 ?c4 ?k4) (L2.at_mk KX G ?a5 ?l5 ?c5 ?k5) (L2.at_mk KX G ?a6 ?l6 ?c6 ?k6) (L2.at_mk KX G ?a7 ?l7 ?c7 ?k7) (L2.at_mk KX G ?a8 ?l8 ?c8 ?k8) (L2.at_mk KX G ?a9 ?l9 ?c9 ?k9) (L2.at_mk KX G ?a10 ?l10 ?c10 ?k10) (L2.at_mk KX G ?a11 ?l11 ?c11 ?k11) (L2.at_mk KX G ?a12 ?l12 ?c12 ?k12) (L2.at_mk KX G ?a13 ?l13 ?c13 ?k13) (L2.at_mk KX G ?a14 ?l14 ?c14 ?k14) (L2.at_mk KX G ?a15 ?l15 ?c15 ?k15) (L2.at_mk KX G ?a16 ?l16 ?c16 ?k16) (L2.at_mk KX G ?a17 ?l17 ?c17 ?k17) (L2.at_mk KX G ?a18 ?l18 ?c18 ?k18) (L2.at_mk KX G ?a19 ?l19 ?c19 ?k19) (L2.at_mk KX G ?a20 ?l20 ?c20 ?k20) (L2.at_mk KX G ?a21 ?l21 ?c21 ?k21) (L2.at_mk KX G ?a22 ?l22 ?c22 ?k22) (L2.at_mk KX G ?a23 ?l23 ?c23 ?k23) (L2.at_mk KX G ?a24 ?l24 ?c24 ?k24) (L2.at_mk KX G ?a25 ?l25 ?c25 ?k25) (L2.at_mk KX G ?a26 ?l26 ?c26 ?k26) ?xgTurnError ?xgD ?xgP ?xgR ?xgW ?xgNoMatch ?xgNotDone ?xfxgs ?xfxtk ?xfdbx ?xfdga ?xfdgt ?xfdcl ?xfdmo ?xfdis ?xfdhd ?xfdfw ?xfpbx ?xfpga ?xfpgt ?xfpcl ?xfpmo ?xfpis ?xfphd ?xfpfw ?xfdi ?xfpfp ?xfpt ?xfpv ?xfobx ?xfoga ?xfogt ?xfocl ?xfomo ?xfois ?xfohd ?xfofh ?xfot ?xfov ?xfpip ?xfpio ?xfpid ?xfpir ?xfpiw ?xfpim ?xfoip ?xfoio ?xfoid ?xfoir ?xfoiw ?xfoim ?xfdip ?xfdio ?xfdid ?xfdir ?xfdiw ?xfdim ?xfdv ?xfdt ?xaD ⟨_, L2.fun_mk ?xlD ?xcD ?xkD⟩ ?xnD ?xqD ⟨?xsDword, ?xtDword, ?xhDword, ?xmDword, ?xvDword⟩ ?xaP ⟨_, L2.fun_mk ?xlP ?xcP ?xkP⟩ ?xnP ?xqP ⟨?xsPplace, ?xtPplace, ?xhPplace, ?xmPplace, ?xvPplace⟩ ⟨?xsPword, ?xtPword, ?xhPword, ?xmPword, ?xvPword⟩ ?xaNotDone ⟨_, L2.fun_mk ?xlNotDone ?xcNotDone ?xkNotDone⟩ ?xnNotDone ?xqNotDone ⟨?xsNotDonehand, ?xtNotDonehand, ?xhNotDonehand, ?xmNotDonehand, ?xvNotDonehand⟩ ?aP ?lP ?nP ?aC ?pg ?hd ?po ?sa ?mk ?kc ?nr ?nh ?nm (L2.atm_mk ?ma0 ?mi0 ?ml0 ?mc0 ?mk0) (L2.atm_mk ?ma1 ?mi1 ?ml1 ?mc1 ?mk1) (L2.atm_mk ?ma2 ?mi2 ?ml2 ?mc2 ?mk2) (L2.atm_mk ?ma3 ?mi3 ?ml3 ?mc3 ?mk3) (L2.atm_mk ?ma4 ?mi4 ?ml4 ?mc4 ?mk4) (L2.atm_mk ?ma5 ?mi5 ?ml5 ?mc5 ?mk5) (L2.atm_mk ?ma6 ?mi6 ?ml6 ?mc6 ?mk6) (L2.atm_mk ?ma7 ?mi7 ?ml7 ?mc7 ?mk7) (L2.atm_mk ?ma8 ?mi8 ?ml8 ?mc8 ?mk8) (L2.atm_mk ?ma9 ?mi9 ?ml9 ?mc9 ?mk9) (L2.atm_mk ?ma10 ?mi10 ?ml10 ?mc10 ?mk10)
  (case xgTurnError | xgD | xgP | xgR | xgW | xgNoMatch | xgNotDone => k_is)
  (case xfxgs | xfxtk | xfdbx | xfdga | xfdgt | xfdcl | xfdmo | xfdis | xfdhd | xfdfw | xfpbx | xfpga | xfpgt | xfpcl | xfpmo | xfpis | xfphd | xfpfw | xfdi | xfpfp | xfpt | xfpv | xfobx | xfoga | xfogt | xfocl | xfomo | xfois | xfohd | xfofh | xfot | xfov | xfpip | xfpio | xfpid | xfpir | xfpiw | xfpim | xfoip | xfoio | xfoid | xfoir | xfoiw | xfoim | xfdip | xfdio | xfdid | xfdir | xfdiw | xfdim | xfdv | xfdt => first | k_is | kit_is | kts_exm)
  (case xaD | xlD | xcD | xkD | xnD => k_is)
  (case xqD => first | rfl | with_unfolding_all rfl | exact Eq.refl true)
  (case xsDword | xtDword | xhDword | xmDword => k_is)
  (case xvDword => first | rfl | with_unfolding_all rfl | exact Eq.refl true)
  (case xaP | xlP | xcP | xkP | xnP => k_is)
  (case xqP => first | rfl | with_unfolding_all rfl | exact Eq.refl true)
  (case xsPplace | xtPplace | xhPplace | xmPplace => k_is)
  (case xvPplace => first | rfl | with_unfolding_all rfl | exact Eq.refl true)
  (case xsPword | xtPword | xhPword | xmPword => k_is)
  (case xvPword => first | rfl | with_unfolding_all rfl | exact Eq.refl true)
  (case xaNotDone | xlNotDone | xcNotDone | xkNotDone | xnNotDone => k_is)
  (case xqNotDone => first | rfl | with_unfolding_all rfl | exact Eq.refl true)
  (case xsNotDonehand | xtNotDonehand | xhNotDonehand | xmNotDonehand => k_is)
  (case xvNotDonehand => first | rfl | with_unfolding_all rfl | exact Eq.refl true)
  (case aP | lP => k_is)
  (case nP => first | rfl | decide | k_is)
  (case aC | a0 | l0 | c0 | k0 | a1 | l1 | c1 | k1 | a2 | l2 | c2 | k2 | a3 | l3 | c3 | k3 | a4 | l4 | c4 | k4 | a5 | l5 | c5 | k5 | a6 | l6 | c6 | k6 | a7 | l7 | c7 | k7 | a8 | l8 | c8 | k8 | a9 | l9 | c9 | k9 | a10 | l10 | c10 | k10 | a11 | l11 | c11 | k11 | a12 | l12 | c12 | k12 | a13 | l13 | c13 | k13 | a14 | l14 | c14 | k14 | a15 | l15 | c15 | k15 | a16 | l16 | c16 | k16 | a17 | l17 | c17 | k17 | a18 | l18 | c18 | k18 | a19 | l19 | c19 | k19 | a20 | l20 | c20 | k20 | a21 | l21 | c21 | k21 | a22 | l22 | c22 | k22 | a23 | l23 | c23 | k23 | a24 | l24 | c24 | k24 | a25 | l25 | c25 | k25 | a26 | l26 | c26 | k26 | zall | zValueError | z1 | z2 | z3 | z4 | z5 | z6 | z7 | z8 | z9 | z10 | z11 | z12 | z13 | z14 | z15 | z16 | pg | hd | po | sa | mk | kc | nr | nh | nm | ma0 | mi0 | ml0 | mc0 | mk0 | ma1 | mi1 | ml1 | mc1 | mk1 | ma2 | mi2 | ml2 | mc2 | mk2 | ma3 | mi3 | ml3 | mc3 | mk3 | ma4 | mi4 | ml4 | mc4 | mk4 | ma5 | mi5 | ml5 | mc5 | mk5 | ma6 | mi6 | ml6 | mc6 | mk6 | ma7 | mi7 | ml7 | mc7 | mk7 | ma8 | mi8 | ml8 | mc8 | mk8 | ma9 | mi9 | ml9 | mc9 | mk9 | ma10 | mi10 | ml10 | mc10 | mk10 => k_is)
