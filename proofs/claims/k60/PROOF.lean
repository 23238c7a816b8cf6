import PyProof.Rows.All
import Wide.All
import OpenK.AllK
import Wide.FinOn
import Lean
import PyProof.EqAt
import PyProof.EqKinds
import PyProof.TupleCall
import Lean
import PyProof.ExcInit
import PyProof.ExcClass3
import PyProof.InstStoreFacts
import KE.KIsAll
import KE.KTryMore
import PyProof.ExcBaseAll.ValueError
import PyProof.ExcArgsOwn
import KE.RegKIsAll
import KE.RegKTryMore
import PyProof.RulesAs
import PyProof.WalksMore
import PyProof.TupleOfGen
import PyProof.DictUpdate
import PyProof.FactsAll.dict_3
import PyProof.FactsAll.dict_4
import PyProof.StrWalks
import PyProof.StrBlockI
import PyProof.StrBlockG
import PyProof.StrLawsTight
import PyProof.StrLawsChain
import PyProof.StrLawsOccR
import PyProof.StrLawsIn
import PyProof.MeetsStr
import PyProof.StrLawsJoin
import PyProof.StrBlock2
import PyProof.Rows.StrItems
import KE.KIntText
import PySem.Challenge.RW_ownturn_k60_bounds_of_sheets
local macro_rules | `(tactic| omega) => `(tactic| lia)
set_option compiler.extract_closed false
set_option Elab.async false
set_option linter.all false
set_option maxRecDepth 100000
open Array renaming mem_toList_iff->eI,getElem?_toList->fS,length_toList->gA,append_assoc->lH,find?_toList->lJ,toList->lY,toList_inj->mL
open Bool renaming and_eq_true->bj,false_ne_true->bK,true_and->et,eq_iff_iff->ff,and_false->gM,not_true->h7,or_eq_true->iM,not_false->i4,false_eq_true->lQ,not_eq_true'->mq
open Classical renaming choose_spec->fT,byContradiction->gT,choose->ii
open False renaming elim->cg
open ForInStep renaming yield->ee
open Int renaming toNat_natCast->bB,mul_le_mul_of_nonneg_left->gu,fdiv_eq_ediv_of_nonneg->gJ,fmod_eq_emod_of_nonneg->gL,mul_one->iV,toNat_of_nonneg->lw,emod_lt_of_pos->lT,zero_add->mr
open Lean renaming mkIdent->iC
open Lean.Parser.Tactic renaming tacticSeq->gy
open List renaming length_map->ap,getElem?_eq_getElem->aq,getD_eq_getElem?_getD->aA,replicate->aH,mem_cons->aJ,getElem?_map->aK,getElem?_eq_some_iff->aP,length_append->aQ,size_toArray->aR,length_cons->aV,mem_cons_of_mem->ba,map_cons->bp,mem_of_getElem?->br,all_eq_true->bv,lookup->bD,mem_singleton->bG,map_map->bH,getElem_mem->bI,not_mem_nil->bM,map_replicate->bN,range->bP,map->bQ,mem_append_right->bS,length_set->bT,map_append->bU,length_singleton->b7,append_nil->b9,length_take->ca,mem_append->cq,lookup_cons->cu,mem_map->cv,getElem?_append_left->cy,getElem?_set->cB,length_range->cC,length_replicate->cD,mem_cons_self->cK,getElem?_append_right->cO,replicate_succ->cQ,length_drop->cW,getElem?_of_mem->df,nil_append->dD,mem_append_left->dE,flatten_cons->dH,append_assoc->dI,getElem?_range->dP,getElem?_replicate->dQ,cons_append->dW,getElem?_set_self->dZ,length_nil->d9,idxOf_lt_length_of_mem->eD,getElem?_set_ne->eG,take_length->eS,filterMap_cons->eU,map_congr_left->eY,length_pos_iff->eZ,nodup_cons->fg,range_succ->fh,length_eq_zero_iff->fv,map_set->fO,flatten_replicate_singleton->fP,ext_getElem->fX,length->gk,length_dropLast->gm,mem_iff_getElem->gn,mem_of_mem_take->gr,find?_cons->gw,forIn_cons->gx,map_nil->gE,all_map->gF,mem_filterMap->gI,getElem_idxOf->gR,drop_eq_getElem_cons->gW,getLastD_eq_getLast?->gX,take_add_one->hV,getElem_inj->h9,filter_cons_of_neg->io,filter_cons_of_pos->ip,drop_of_length_le->iB,sum_replicate_nat->iF,mem_filter->iG,of_mem_zip->iL,dropLast_eq_take->iR,length_filter_le->iS,getElem?_eq_none->iT,drop_zero->i7,mem_of_mem_drop->i8,dropLast_subset->i9,length_flatten->lz,foldl->lM,getElem?_drop->lR,filter_append->lU,map_inj_right->lV,drop_length->mI
open List.cons renaming inj->fb
open Nat renaming le_refl->aL,lt_of_lt_of_le->bt,le_trans->bu,ne_of_lt->bE,zero_le->cb,lt_of_sub_eq_succ->cV,lt_irrefl->cY,ne_of_gt->dF,max_le->fq,succ_ne_self->ig,le_max_right->ik,succ_le_succ->im,le_max_left->iN,min_eq_left->iO,lt_of_le_of_lt->lW,le_of_lt->lX,le_of_eq->ma,lt_succ_of_lt->mj,lt_succ_self->my,le_add_right->mG,min_eq_right->mH,le_succ->mP
open Option renaming map_eq_some_iff->cw,isSome_iff_exists->hZ,map_some->iP,getD_none->mC,getD_some->mE
open Option.some renaming inj->bO
open Or renaming inl->bn,inr->bq
open PyProof renaming noPylong_small->iu
open PyProof.Rows renaming Keyed->cm,callWith_type1->cM,envOfC->fF,AllBare->gD
open PySem renaming Value->am,Shared->ax,Addr->aE,wpAny_bind->aF,sizeLine->aT,mainGlobals->aW,model->bc,Program->bf,wpAny->bg,wpAny_pure->bh,starEach->bi,Around->bo,World->bC,wpAny_mono->bF,hashStr->bJ,bootBuiltins->bR,NameKind->bW,sizeLine_eq->bY,Str->cf,Stmt->cn,wpAny_truthy_bool->cz,wpAny_loadPart'->cH,compareOp->cP,wpAny_field->cS,backTo->cT,wpAny_callSpecial?_slot->dj,PyData->dq,PassesOwn->du,FuncData->dv,wpAny_Call_Name_kw->dw,wpAny_pyIter_tuple->dz,wpAny_passesOwn->dC,attributeBase->dL,mem_of_lookup->dO,wpAny_seqItems->dR,wpAny_setField->dS,intText?->dU,keywordEach->dX,sysModules->dY,behindInMarks->eg,wpAny_pyIter_enum->eA,wpAny_loadPart_at->eB,call_meets->eK,wpAny_nameGoes_keeps->eM,wpAny_call_entry->eQ,wpAny_holding->e7,wpAny_standAt->e8,binaryOp->e9,wpAny_execs_nil->fc,Spec->fj,assignEach->fk,sliceBounds->fu,foldedSetIterable->fw,codeAny->fA,codeAny_mono->fE,IsPair->fK,ExcBaseFacts->fM,plainObj_wpAny_Assign_Attribute->fQ,typeIs_str->fV,wpAny_pyIter_zip->fW,Comprehension->gc,backToKw->gh,bindArgs->gi,excClassObj->gq,letOwnedTupleGo->gv,Within->gC,wpAny_letOwnedTupleGo_enum->gN,wpAny_letOwnedTupleGo_zip->gS,wpAny_pyIter_list->gZ,wpAny_newObj_type->hU,rawInt->hX,wpAny_lookBehind->ib,pastItsLine_dict->ic,callWith->ie,Paired->ir,wpAny_call->iw,cLine->iK,pyNext->iU,wpAny_loadPart->iW,recursionLimit->iY,subscripted->iZ,standAt->lh,swapsWith->li,BindsTo->lj,Keyword->lm,callerA->lp,valueAt->lq,field->lB,wpAny_attempt->lC,wpAny_onRaise->lE,assign->lI,wpAny_nsSet1->lZ,Code->mf,seqIndex_neg->mh,relabel->mi,Result->ms,noteFrame->mD,seqItems?->mF,setFlight->mJ,strValues->mK,Model->mM,CmpOp->mO,getAttr->mR,getItem->mS,bindL->mT,bindC->mU,call->mV
open PySem.Builtin.List renaming listTooLong->dM
open PySem.Builtin.ObjectAttr renaming storeInDict->fZ
open PySem.Builtin.Range renaming rangeSize->dh,small->eW
open PySem.Builtin.SmallTypes renaming nextOf->cc,ownedTupleIsFree->cG,ownedTupleHandOut->eX
open PySem.Builtin.Str renaming strSliceIndices->gG
open PySem.Builtin.Tuple renaming tupleHashOf->gU
open PySem.Calls renaming callWith_builtin->fJ,evalArgs_plain->gl,Name_function_global->gH
open PySem.Challenge renaming rw_ownturn_k60_bounds_of_sheets->dJ
open PySem.Data renaming fields->dr,seq->eL,cell->ft
open PySem.F renaming plainAttrs_str->ci,plainAttrs_list->cL,slot_list_append->cZ,type_list_append->db,slot_str_join->dA,type_str_join->dB,excBase_ValueError->eN,slot_str_split->iD,type_str_split->iE,slot_dict_get->iQ
open PySem.Heap renaming get?_push_of_some->aG,lt_size->aM,get?_push_size->aY,get?_update_self->bZ,SameBut->b8,size_push->de,get?_none_of_le->eF,get?_update_other->fH,FlyingW->fL,MadeExcOf->i5,IsTuple->mn
open PySem.Obj renaming mapFields->bV,isFreed_of_fields->cU,data_mapFields->cX,mapSeq->iA
open PySem.PassesOwn renaming never->cJ
open PySem.PyData renaming hasDict->dg
open PySem.SeqAt renaming EqAt->eE,RcNeAt->eR,RcAt->fY
open PySem.Str renaming ofString->aj,join->bX,length->dm,empty->mw
open PySem.StrLaws renaming join_split->gQ
open PySem.Txt renaming mul->eT,startswith->fN
open PySem.W renaming Frag->au,nsIn->aX,findIn->bz,mg_none_of->bA,fnOf->ck,kia_one->cr,emptyDict->cA,keepIn->cF,kia_tup->cI,instObj->dk,hasDictIn->dG,callWith_K->d8,hasDictIn->eo,findIn->eu,looks_findIn->eJ,plainGet->eO,isFn->eP,looks_clsIn->eV,lookIn->fz,specialIn->fB,kitx_list->fC,kitx_dict->fD,codeIn->fG,methodCall_KW->fR,any_some->fU,Looks->f9,hideAll_none->gg,hideAll_get->gz,plainGet_of->gB,exmOne->gO,Looks->gP,methodObj->gY,plainOver->g9,set_plain->hJ,findObj->hW,handedIn->ia,cellsFrom_some->iz,takerIn->iH,makesIn->iI,takesIn->iJ,kitOne->iX,kitAny->i3,notCls->i6,takerIn->lu,findObj_own->lv,mg_of->lA,subIn->lF,of_hideAll->lG,kitx_float->lK,kitx_tuple->lL,isNs_of_in->lS,kitx_none->md,kitx_bool->me,kitx_int->mz,kitx_str->mB,mroIn->mQ
open Sum renaming inr->aZ,inl->iq
theorem Pn1_ {α:Type}{p:List α->Prop}(f:∀ a,p [a]):∀ us:List α,us.length=1->p us
 | [_],_=>f _
theorem Pn2_ {α:Type}{p:List α->Prop}(f:∀ a b,p [a,b]):∀ us:List α,us.length=2->p us
 | [_,_],_=>f _ _
theorem Pn3_ {α:Type}{p:List α->Prop}(f:∀ a b c,p [a,b,c]):∀ us:List α,us.length=3->p us
 | [_,_,_],_=>f _ _ _
theorem Pn4_ {α:Type}{p:List α->Prop}(f:∀ a b c d,p [a,b,c,d]):∀ us:List α,us.length=4->p us
 | [_,_,_,_],_=>f _ _ _ _
namespace L2
open PySem PySem.Spec PyProof.Rows
abbrev Key:=Sum Int Str
noncomputable def wo:Key->am->Bool
 | .inl k,v=>am.isInt k v
 | .inr x,v=>am.isStrOf x v
noncomputable def MZ (w:bC):Key->Int
 | .inl k=>hashInt k
 | .inr x=>bJ w x
theorem zY:∀ {k:Key} {v:am},wo k v=true->(∃ i t,k=iq i/\v=am.int i t) \/ (∃ x t,k=aZ x/\v=am.str x t)
 | .inl i,v,h=>by
  obtain ⟨t,e⟩:=am.isInt_shape (k:=i) (v:=v) h
  exact .inl ⟨i,t,rfl,e⟩
 | .inr x,v,h=>by
  obtain ⟨t,e⟩:=am.isStrOf_shape (x:=x) (v:=v) h
  exact .inr ⟨x,t,rfl,e⟩
theorem Y8 (i:Int)(t:Tok):wo (.inl i) (.int i t)=true:=by simp [wo,am.isInt]
theorem YI (x:Str)(t:Tok):wo (.inr x) (.str x t)=true:=by simp [wo,am.isStrOf]
theorem Hz (a b:Int):decide ((iq a:Key)=iq b)=(a == b):=by
 by_cases e:a=b
 ·subst e;simp
 ·have h:¬ (iq a:Key)=iq b:=fun q=>e (iq.inj q)
  rw [decide_eq_false h]
  exact (beq_eq_false_iff_ne.mpr e).symm
theorem GO (a b:Str):decide ((aZ a:Key)=aZ b)=decide (a=b):=by
 by_cases e:a=b
 ·subst e;simp
 ·have h:¬ (aZ a:Key)=aZ b:=fun q=>e (aZ.inj q)
  rw [decide_eq_false h,decide_eq_false e]
theorem HD (a:Int)(b:Str):decide ((iq a:Key)=aZ b)=false:=decide_eq_false (fun q=>nomatch q)
theorem HR (a:Str)(b:Int):decide ((aZ a:Key)=iq b)=false:=decide_eq_false (fun q=>nomatch q)
noncomputable def jc (prog:bf)(w:bC):PySem.KeyKind prog w Key where
 is:=wo
 hash:=MZ w
 inj:=fun v a b ha hb=>by
  rcases zY ha with ⟨i,t,rfl,rfl⟩ | ⟨x,t,rfl,rfl⟩
  ·rcases zY hb with ⟨j,u,rfl,e⟩ | ⟨y,u,rfl,e⟩
   ·injection e with e1 _;rw [e1]
   ·exact nomatch e
  ·rcases zY hb with ⟨j,u,rfl,e⟩ | ⟨y,u,rfl,e⟩
   ·exact nomatch e
   ·injection e with e1 _;rw [e1]
 byValue:=fun k v h=>by
  rcases zY h with ⟨i,t,rfl,rfl⟩ | ⟨x,t,rfl,rfl⟩ <;> rfl
 pyHash:=fun hv h=>by
  rcases zY hv with ⟨i,t,rfl,rfl⟩ | ⟨x,t,rfl,rfl⟩
  ·exact wpAny_pyHash_int h
  ·exact wpAny_pyHash_str h
 eqBool:=fun hu hv h=>by
  rcases zY hu with ⟨i,t,rfl,rfl⟩ | ⟨x,t,rfl,rfl⟩
  ·rcases zY hv with ⟨j,u,rfl,rfl⟩ | ⟨y,u,rfl,rfl⟩
   ·rw [Hz] at h;exact wpAny_eqBool_int h
   ·rw [HD] at h;exact eE.int_str i t y u _ _ _ _ h
  ·rcases zY hv with ⟨j,u,rfl,rfl⟩ | ⟨y,u,rfl,rfl⟩
   ·rw [HR] at h;exact eE.str_int x t j u _ _ _ _ h
   ·rw [GO] at h;exact wpAny_eqBool_str h
 «strs»:=fun k x t v h=>by
  rcases zY h with ⟨i,u,rfl,e⟩ | ⟨y,u,rfl,e⟩
  ·exact nomatch e
  ·injection e with e1 _
   subst e1
   cases v <;> rfl
theorem Qi (prog:bf)(w:bC)(i:Int)(t:Tok):(jc prog w).is (.inl i) (.int i t)=true:=Y8 i t
theorem Qc (prog:bf)(w:bC)(x:Str)(t:Tok):(jc prog w).is (.inr x) (.str x t)=true:=YI x t
inductive V where
 | non | bl (b:Bool) | int (i:Int) | str (x:Str) | byt (b:Array UInt8) | flt (b:UInt64) | ref (a:aE) | ty (n:String)
 deriving DecidableEq
noncomputable def zC:V->am->Prop
 | .non,u=>u=am.none
 | .bl b,u=>u=am.bool b
 | .int i,u=>∃ t,u=am.int i t
 | .str x,u=>∃ t,u=am.str x t
 | .byt b,u=>∃ t,u=am.bytes b t
 | .flt b,u=>∃ t,u=am.float b t
 | .ref a,u=>u=am.ref a
 | .ty n,u=>u=am.type n
noncomputable abbrev zx:List V->List am->Prop:=ir zC
variable {xs:List V} {us:List am}
theorem zx.length (r:zx xs us):xs.length=us.length:=ir.length r
theorem zx.get:∀ {xs:List V} {us:List am} {i:Nat} {x:V},zx xs us->xs[i]?=some x->∃ u,us[i]?=some u/\zC x u
 | _,_,_,_,.nil,e=>by simp at e
 | _,_,0,_,.cons r _,e=>by simp at e;subst e;exact ⟨_,rfl,r⟩
 | _,_,i+1,x,.cons _ t,e=>by
  obtain ⟨u,h1,h2⟩:=zx.get (i:=i) (x:=x) t (by simpa using e)
  exact ⟨u,by simpa using h1,h2⟩
theorem zx.set {x:V}{u:am}(r:zC x u):∀ {xs:List V} {us:List am} (i:Nat),zx xs us->zx (xs.set i x) (us.set i u)
 | _,_,_,.nil=>.nil
 | _,_,0,.cons _ t=>.cons r t
 | _,_,i+1,.cons q t=>.cons q (zx.set r i t)
theorem zx.append:∀ {xs ys:List V} {us ws:List am},zx xs us->zx ys ws->zx (xs ++ ys) (us ++ ws)
 | _,_,_,_,.nil,s=>s
 | _,_,_,_,.cons r t,s=>.cons r (zx.append t s)
theorem zx.take:∀ {xs:List V} {us:List am} (n:Nat),zx xs us->zx (xs.take n) (us.take n)
 | _,_,0,_=>.nil
 | _,_,_+1,.nil=>.nil
 | _,_,n+1,.cons r t=>.cons r (zx.take n t)
theorem zx.drop:∀ {xs:List V} {us:List am} (n:Nat),zx xs us->zx (xs.drop n) (us.drop n)
 | _,_,0,r=>r
 | _,_,_+1,.nil=>.nil
 | _,_,n+1,.cons _ t=>zx.drop n t
noncomputable def ka:Option V->Option am->Prop
 | some v,some u=>zC v u
 | none,none=>True
 | _,_=>False
noncomputable def KV {κ:Type}:List (κ × V)->List (κ × am)->Prop:=ir fun (p:κ × V) (q:κ × am)=>p.1=q.1/\zC p.2 q.2
noncomputable def kV:Key->V
 | .inl i=>.int i
 | .inr x=>.str x
inductive HO where
  | lst (xs:List V)
  | tup (xs:List V)
  | dK (kvs:List (Key × V)) | dT (kvs:List (List Key × V))
  | set (S:Int->Bool) (n:Nat)
  | ins (C dx:aE) (fs:List (Str × V))
  | own (x:aE)
  | xd (fs:List (Str × V))
  | met (f x:aE)
  | rng (lo hi:Int)
  | frz (o:Obj) (u:HO)
  | tbl (ps:Array am)
  | ext (φ:Heap->Prop)
abbrev Hp:=aE->Option HO
noncomputable def upd (H:Hp)(a:aE)(o:HO):Hp:=fun b=>if b=a then some o else H b
variable {H:Hp} {a:aE} {o:HO}
theorem zi:upd H a o a=some o:=by unfold upd;rw [if_pos rfl]
variable {b:aE}
theorem zg (h:b ≠ a):upd H a o b=H b:=by unfold upd;rw [if_neg h]
variable {u:HO}
theorem KA:upd (upd H a o) a u=upd H a u:=by
 funext b;unfold upd;split <;> rfl
theorem KL (h:H a=some o)(h':H b=some u)(d:o ≠ u):a ≠ b:=by
 intro e;subst e;rw [h] at h';exact d (bO h')
theorem zj (h:H a=some o)(h':H b=none):a ≠ b:=by
 intro e;subst e;rw [h] at h';cases h'
def Ja (h:Heap)(a:aE)(items:Array am):Prop:=∃ o,h.get? a=some o/\o.cls=.type "tuple"/\(∃ n,o.data=.seq items n)/\o.dict=none
variable {h:Heap} {items:Array am}
theorem Ja.is (x:Ja h a items):IsTup h a items:=let ⟨o,e,c,n,_⟩:=x;⟨o,e,c,n⟩
theorem Ja.lt (x:Ja h a items):a<h.objs.size:=x.is.lt
theorem Ja.new (h:Heap)(items:Array am):Ja (h.push { cls:=.type "tuple",data:=.seq items }) h.objs.size items:=⟨_,aY _ rfl,rfl,⟨_,rfl⟩,rfl⟩
section
variable (P:bf)(w:bC)
noncomputable def zS (H:Hp)(h:Heap)(a:aE):HO->Prop
  | .lst xs=>xs.length<=aT/\∃ (its:List am) (n:Nat),zx xs its/\h.get? a=some { cls:=.type "list",data:=.seq its.toArray n }
  | .tup xs=>xs.length<=aT/\∃ its:List am,zx xs its/\Ja h a its.toArray
  | .dK kvs=>kvs.length<=aT/\(a == dY)=false/\∃ vs,KV kvs vs/\h.DictOf (jc P w) a vs
  | .dT kvs => kvs.length <= aT /\ (a == dY) = false /\ ∃ xs : List (List Key × aE × am),
      ir (fun (p:List Key × V) (q:List Key × aE × am)=>p.1=q.1/\H q.2.1=some (.tup (p.1.map kV))/\zC p.2 q.2.2) kvs xs /\
      ∃ o es ep,h.get? a=some o/\o.ExactDict/\o.data=.dict es ep/\es.toList=xs.map (entryOfKey (tupleKind (jc P w)))/\(xs.map (·.1)).Nodup
  | .set S n=>h.SetOf (intKind P w) a S n
  | .ins C dx fs => H dx = some (.own a) /\ fs.length <= 1000 /\ dx ≠ a /\ h.get? a = some (dk C dx) /\
      ∃ mA,h.Ns1 dx mA/\(∀ f,ka (fs.lookup f) (mA f))/\gC mA (fs.map (·.1))
  | .own _=>∃ o,h.get? a=some o
  | .xd fs=>∃ mA,h.Ns1 a mA/\∀ f,ka (fs.lookup f) (mA f)
  | .rng lo hi=>∃ t u v,h.get? a=some { cls:=.type "range",data:=.fields #[.int lo t,.int hi u,.int 1 v] }
  | .frz o u=>h.get? a=some o/\zS H h a u
  | .tbl ps=>h.get? a=some { cls:=.none,data:=.fields ps }
  | .met f x=>h.get? a=some (gY (.ref f) (.ref x))
  | .ext φ=>φ h/\(∃ o,h.get? a=some o)/\∀ h1 h2:Heap,φ h1->(∀ o,h1.get? a=some o->h2.get? a=some o)->φ h2
def HOk (H:Hp)(h:Heap):Prop:=∀ a o,H a=some o->zS P w H h a o
end
section
variable {P:bf}{w:bC}{H H':Hp}{h h':Heap}{a:aE}{o:HO}
theorem zS.lt (x:zS P w H h a o):a<h.objs.size:=by
 cases o with
 | lst xs=>obtain ⟨_,_,_,_,e⟩:=x;exact aM e
 | tup xs=>obtain ⟨_,_,_,p⟩:=x;exact p.lt
 | dK kvs=>obtain ⟨_,_,_,_,o,_,_,e,_⟩:=x;exact aM e
 | dT kvs=>obtain ⟨_,_,_,_,o,_,_,e,_⟩:=x;exact aM e
 | set S n=>obtain ⟨o,_,_,_,e,_⟩:=x;exact aM e
 | ins C dx fs=>obtain ⟨_,_,_,e,_⟩:=x;exact aM e
 | own y=>obtain ⟨_,e⟩:=x;exact aM e
 | xd fs=>obtain ⟨_,⟨_,_,_,e,_⟩,_⟩:=x;exact aM e
 | rng lo hi=>obtain ⟨_,_,_,e⟩:=x;exact aM e
 | frz ob u=>obtain ⟨e,_⟩:=x;exact aM e
 | tbl ps=>exact aM (show h.get? a=some _ from x)
 | met f y=>exact aM (show h.get? a=some _ from x)
 | ext φ=>obtain ⟨_,⟨_,e⟩,_⟩:=x;exact aM e
theorem ir.mapP {α β:Type}{F G:α->β->Prop}:∀ {l₁:List α} {l₂:List β},ir F l₁ l₂->(∀ a b,F a b->G a b)->ir G l₁ l₂
 | _,_,.nil,_=>.nil
 | _,_,.cons r t,f=>.cons (f _ _ r) (ir.mapP t f)
theorem zS.stay (x:zS P w H h a o)(k:∀ b u,(b=a \/ H b=some (.own a))->h.get? b=some u->h'.get? b=some u)
  (ho:∀ b,H b=some (.own a)->H' b=some (.own a)) (ht:∀ b xs,H b=some (.tup xs)->H' b=some (.tup xs)):zS P w H' h' a o:=by
 induction o with
 | lst xs=>obtain ⟨z,its,n,r,e⟩:=x;exact ⟨z,its,n,r,k _ _ (.inl rfl) e⟩
 | tup xs=>obtain ⟨z,its,r,ob,e,c⟩:=x;exact ⟨z,its,r,ob,k _ _ (.inl rfl) e,c⟩
 | dK kvs=>obtain ⟨z,y,vs,r,ob,es,ep,e,c⟩:=x;exact ⟨z,y,vs,r,ob,es,ep,k _ _ (.inl rfl) e,c⟩
 | dT kvs=>
  obtain ⟨z,y,xs,r,ob,es,ep,e,c⟩:=x
  exact ⟨z,y,xs,ir.mapP r fun p q z=>⟨z.1,ht _ _ z.2.1,z.2.2⟩,ob,es,ep,k _ _ (.inl rfl) e,c⟩
 | set S n=>obtain ⟨ob,es,ep,t,e,c⟩:=x;exact ⟨ob,es,ep,t,k _ _ (.inl rfl) e,c⟩
 | ins C dx fs=>
  obtain ⟨d,z,ne,e,mA,⟨od,es,ep,e2,c⟩,r⟩:=x
  exact ⟨ho _ d,z,ne,k _ _ (.inl rfl) e,mA,⟨od,es,ep,k _ _ (.inr d) e2,c⟩,r⟩
 | own y=>obtain ⟨ob,e⟩:=x;exact ⟨ob,k _ _ (.inl rfl) e⟩
 | xd fs=>obtain ⟨mA,⟨od,es,ep,e,c⟩,r⟩:=x;exact ⟨mA,⟨od,es,ep,k _ _ (.inl rfl) e,c⟩,r⟩
 | rng lo hi=>obtain ⟨t,u,v,e⟩:=x;exact ⟨t,u,v,k _ _ (.inl rfl) e⟩
 | frz ob u ih=>obtain ⟨e,q⟩:=x;exact ⟨k _ _ (.inl rfl) e,ih q⟩
 | tbl ps=>
  have e:h.get? a=some { cls:=.none,data:=.fields ps }:=x
  show h'.get? a=some { cls:=.none,data:=.fields ps }
  exact k a _ (.inl rfl) e
 | met f y=>
  have e:h.get? a=some (gY (.ref f) (.ref y)):=x
  show h'.get? a=some (gY (.ref f) (.ref y))
  exact k a _ (.inl rfl) e
 | ext φ=>obtain ⟨p,⟨o,e⟩,st⟩:=x;exact ⟨st _ _ p fun o q=>k _ _ (.inl rfl) q,⟨o,k _ _ (.inl rfl) e⟩,st⟩
theorem HOk.lt (x:HOk P w H h)(e:H a=some o):a<h.objs.size:=(x a o e).lt
theorem HOk.fresh (x:HOk P w H h)(e:h.objs.size<=a):H a=none:=by
 cases q:H a with
 | none=>rfl
 | some u=>exact absurd (bt (x.lt q) e) (cY _)
theorem HOk.kept (x:HOk P w H h)(k:∀ b u,h.get? b=some u->h'.get? b=some u):HOk P w H h':=fun a o e=>
 (x a o e).stay (fun b u _ q=>k b u q) (fun _ q=>q) fun _ _ q=>q
theorem HOk.laid (x:HOk P w H h)(k:∀ b u,h.get? b=some u->h'.get? b=some u)(hp:h.objs.size<=a)(new:zS P w (upd H a o) h' a o):HOk P w (upd H a o) h':=fun b u e=>by
 have hn:=x.fresh hp
 by_cases hb:b=a
 ·subst hb;rw [zi] at e;cases e;exact new
 ·rw [zg hb] at e
  exact (x b u e).stay (fun c v _ q=>k c v q) (fun c q=>by rw [zg (zj q hn)];exact q) fun c xs q=>by rw [zg (zj q hn)];exact q
end
def Rd (H:Hp)(a:aE)(u:HO):Prop:=H a=some u \/ ∃ o,H a=some (.frz o u)
variable {P:bf} {w:bC}
theorem Rd.ok (r:Rd H a u)(x:HOk P w H h):zS P w H h a u:=by
 rcases r with r | ⟨o,r⟩
 ·exact x a u r
 ·obtain ⟨_,q⟩:=x a _ r
  exact q
noncomputable def Mut:Option HO->Prop
 | some (.lst _)=>True
 | some (.dK _)=>True
 | some (.dT _)=>True
 | some (.set _ _)=>True
 | some (.ins _ _ _)=>True
 | some (.ext _)=>True
 | _=>False
section
variable {P:bf}{w:bC}{H:Hp}{h h':Heap}{x e:aE}{o':HO}
theorem HOk.write (ok : HOk P w H h)(mu : Mut (H x))(he : e = x \/ H e = some (.own x))(k : ∀ b u, b ≠ e -> h.get? b = some u -> h'.get? b = some u)(heo : ∃ u, h'.get? e = some u)
    (new:zS P w (upd H x o') h' x o'):HOk P w (upd H x o') h':=fun b u q=>by
  have nown:∀ c y,H c=some (.own y)->c ≠ x:=fun c y r z=>by subst z;rw [r] at mu;exact mu
  have ntup:∀ c xs,H c=some (.tup xs)->c ≠ x:=fun c xs r z=>by subst z;rw [r] at mu;exact mu
  by_cases hb:b=x
  · subst hb;rw [zi] at q;cases q;exact new
  · rw [zg hb] at q
    by_cases hbe:b=e
    · have q' : H b = some (.own x) := by
        rcases he with z | z
        · exact absurd (hbe.trans z) hb
        · rw [hbe];exact z
      rw [q] at q';cases q'
      obtain ⟨v,hv⟩:=heo
      exact ⟨v,by rw [hbe];exact hv⟩
    · refine (ok b u q).stay (fun c v hc r=>k c v ?_ r) (fun c r=>by rw [zg (nown c b r)];exact r) fun c xs r=>by rw [zg (ntup c xs r)];exact r
      rcases hc with rfl | hc
      · exact hbe
      · rintro rfl
        rcases he with z | z
        · exact nown c b hc z
        · rw [hc] at z;cases z;exact hb rfl
end
structure Un (fs ex:List aE)(H H':Hp)(h h':Heap):Prop where
 keep:∀ b o,h.get? b=some o->H b=none->b ∉ fs->b ∉ ex->h'.get? b=some o
 slot:∀ b o,h.get? b=some o->H b=none->b ∈ fs->b ∉ ex->∃ sl,h'.get? b=some { o with slots:=sl }
 free:∀ b o,h.get? b=some o->H b=none->b ∉ ex->H' b=none
 there:∀ b o,h.get? b=some o->b ∉ ex->∃ o',h'.get? b=some o'
 tups:∀ b xs,H b=some (.tup xs)->H' b=some (.tup xs)
 frzs:∀ b o u,H b=some (.frz o u)->H' b=some (.frz o u)
 tbls:∀ b ps,H b=some (.tbl ps)->∃ more,H' b=some (.tbl (ps ++ more))
section
variable {fs fs' ex ex':List aE}{H H1 H2:Hp}{h h1 h2 h':Heap}{a x e:aE}{o:HO}
theorem Un.any (u:Un fs ex H H1 h h1) {ob:Obj}(q:h.get? b=some ob)(n:H b=none)(hx:b ∉ ex):∃ sl,h1.get? b=some { ob with slots:=sl }:=by
 by_cases hb:b ∈ fs
 ·exact u.slot b ob q n hb hx
 ·exact ⟨ob.slots,u.keep b ob q n hb hx⟩
theorem Un.kept (k:∀ b u,h.get? b=some u->h'.get? b=some u):Un fs ex H H h h':=
 ⟨fun b ob q _ _ _=>k b ob q,fun b ob q _ _ _=>⟨ob.slots,k b ob q⟩,fun _ _ _ n _=>n,fun b ob q _=>⟨ob,k b ob q⟩,fun _ _ q=>q,fun _ _ _ q=>q,fun _ ps q=>⟨#[],by rw [q];simp⟩⟩
theorem Un.refl:Un fs ex H H h h:=Un.kept fun _ _ q=>q
theorem Un.laid (k:∀ b u,h.get? b=some u->h'.get? b=some u)(hp:h.objs.size<=a)(hn:H a=none):Un fs ex H (upd H a o) h h' where
 keep:=fun b u q _ _ _=>k b u q
 slot:=fun b u q _ _ _=>⟨u.slots,k b u q⟩
 free:=fun b u q n _=>by rw [zg (bE (bt (aM q) hp))];exact n
 there:=fun b u q _=>⟨u,k b u q⟩
 tups:=fun b xs q=>by rw [zg (zj q hn)];exact q
 frzs:=fun b u xs q=>by rw [zg (zj q hn)];exact q
 tbls:=fun b ps q=>⟨#[],by rw [zg (zj q hn),q];simp⟩
theorem Un.write (mu:Mut (H x))(he:e=x \/ H e=some (.own x))(k:∀ b u,b ≠ e->h.get? b=some u->h'.get? b=some u)(heo:∃ u,h'.get? e=some u):Un fs ex H (upd H x o) h h':=by
 have hx:∀ b,H b=none->b ≠ x:=fun b n z=>by subst z;rw [n] at mu;exact mu
 have hb:∀ b,H b=none->b ≠ e:=fun b n z=>by
  subst z
  rcases he with r | r
  ·exact hx b n r
  ·rw [n] at r;cases r
 have hm:∀ b u,H b=some u->¬ Mut (some u)->b ≠ x:=fun b u q nm z=>by subst z;rw [q] at mu;exact nm mu
 refine ⟨fun b u q n _ _=>k b u (hb b n) q,fun b u q n _ _=>⟨u.slots,k b u (hb b n) q⟩,fun b u q n _=>by rw [zg (hx b n)];exact n,fun b u q _=>?_,
  fun b xs q=>by rw [zg (hm b _ q fun z=>z)];exact q,fun b u xs q=>by rw [zg (hm b _ q fun z=>z)];exact q,fun b ps q=>⟨#[],by rw [zg (hm b _ q fun z=>z),q];simp⟩⟩
 by_cases hbe:b=e
 ·subst hbe;exact heo
 ·exact ⟨u,k b u hbe q⟩
end
noncomputable def trk (h:Heap)(H:Hp):List aE:=(bP h.objs.size).filter fun a=>(H a).isSome
noncomputable def Zg (h:Heap)(H:Hp):Heap:=PySem.W.hideAll h (trk h H)
theorem YV (h:Heap)(H:Hp):(Zg h H).objs.size=h.objs.size:=PySem.W.hideAll_size _ _
theorem Wq {o:Obj}(e:h.get? b=some o)(n:H b=none):(Zg h H).get? b=some o:=
 gz _ e fun hm=>by
  have q:(H b).isSome=true:=(iG.mp hm).2
  rw [n] at q;simp at q
theorem Dt {h:Heap}{H:Hp}{b:aE}{o:Obj}(e:(Zg h H).get? b=some o):h.get? b=some o/\H b=none:=by
 have e':h.get? b=some o:=lG (trk h H) e
 refine ⟨e',?_⟩
 cases q:H b with
 | none=>rfl
 | some x=>
  have hm:b ∈ trk h H:=iG.mpr ⟨List.mem_range.mpr (aM e'),by simp [q]⟩
  have z:(Zg h H).get? b=none:=gg (trk h H) hm
  rw [z] at e;cases e
noncomputable def BY (g h:Heap)(L:aE):List (aE × Obj):=(bP h.objs.size).filterMap fun a=>if a=L \/ (g.get? a).isSome=true then none else (h.get? a).map fun o=>(a,o)
noncomputable def qh (g h:Heap)(L d:aE):List (aE × Obj):=(BY g h L).filter fun p=>decide (p.1 ≠ d)
structure Mod (K:au)(mg:Str->Option am)(base:Heap):Prop where
 kin:K.In base
 glob:base.Ns aW mg
 blt:∃ mb,base.Ns builtinsNs mb/\∀ x:Str,x ≠ "__name__"->mb x=bR x
 nolimit:base.NoLimit
structure Cx where
 prog:bf
 w:bC
 K:au
 mg:Str->Option am
 base:Heap
 A:bo
 N:List Str
 s₀:ax
 H₀:Hp
 env:Env
 outer:List Env
 stack:List Env
 ex:List aE
 fn:Str->Bool
 calm:Bool
 pn:List (aE × Obj)
 xe:am->ax->Prop
noncomputable def frs (l:List Env):List aE:=l.filterMap (·.frame)
noncomputable abbrev Cx.fs (X:Cx):List aE:=frs X.outer
def Vis (sc:Scope)(x:Str):Prop:=sc.names.lookup x=some .local \/ sc.names.lookup x=some .cell \/ sc.names.lookup x=some .free
def Loc (sc:Scope)(x:Str):Prop:=sc.names.lookup x=some .local \/ sc.names.lookup x=some .cell
def Na (env:Env)(h:Heap)(m:Str->Option am)(x:Str)(u:am):Prop:=
 (env.kindOf x=some .local/\m x=some u) \/ ((env.kindOf x=some .cell \/ env.kindOf x=some .free)/\∃ c,env.cells.lookup x=some c/\h.IsCell c (some u))
structure Cx.Ok (X:Cx):Prop where
 mod:Mod X.K X.mg X.base
 kind:X.env.scope.kind=.function
 glob:X.env.globals=aW
 blt:X.env.builtins=builtinsNs
 above:X.s₀.heap.objs.size<=X.env.locals
 inj:∀ x y c,X.env.cells.lookup x=some c->X.env.cells.lookup y=some c->x=y
 has:∀ x,(X.env.kindOf x=some .cell \/ X.env.kindOf x=some .free)->∃ c,X.env.cells.lookup x=some c
 cab:∀ x c,X.fn x=true->X.env.cells.lookup x=some c->X.s₀.heap.objs.size<=c
 hd:X.calm=true->X.A.handled=none
 frames:X.A.frames=some X.stack
 stk:X.stack=X.outer \/ (X.stack=X.env :: X.outer/\X.env.frame=some X.env.locals)
 exf:∀ b ∈ X.ex,b ≠ X.env.locals/\∀ x c,X.env.cells.lookup x=some c->c ≠ b
 bs:∀ b o,X.base.get? b=some o->X.s₀.heap.get? b=some o/\X.H₀ b=none
 bsz:X.base.objs.size<=X.s₀.heap.objs.size
 noex:∀ b o,X.base.get? b=some o->b ∉ X.ex
 exfs:∀ b ∈ X.ex,b ∉ X.fs
 funs:X.s₀.heap.FunFrames X.base X.outer
 frf:∀ b ∈ X.fs,X.H₀ b=none
structure Inv (X:Cx)(pins:List (aE × Obj))(σ:List (Option V))(H:Hp)(s:ax):Prop where
 ok:X.Ok
 os:s.os=X.s₀.os
 bare:gD s.gens
 base:Un X.fs X.ex X.H₀ H X.s₀.heap s.heap
 loc:∃ m,s.heap.Ns X.env.locals m/\∀ (i:Nat) (x:Str) (v:V),X.N[i]?=some x->σ[i]?=some (some v)->Vis X.env.scope x->∃ u,zC v u/\Na X.env s.heap m x u
 cell:∀ x c,X.env.cells.lookup x=some c->∃ v,s.heap.IsCell c v
 free:H X.env.locals=none
 freeC:∀ x c,X.env.cells.lookup x=some c->H c=none
 pin:∀ p ∈ X.pn ++ pins,s.heap.get? p.1=some p.2/\H p.1=none/\p.1 ≠ X.env.locals/\p.1 ∉ X.fs/\∀ v,p.2.data ≠ .cell v
 hok:HOk X.prog X.w H s.heap
 len:σ.length=X.N.length
section
variable {X:Cx}{pins:List (aE × Obj)}{σ:List (Option V)}{H H':Hp}{s:ax}{h':Heap}
theorem Cx.Ok.nofr (ok:X.Ok) {o:Obj}(e:X.base.get? b=some o):b ∉ X.fs:=fun hb=>by
 have:=(ok.funs.mem hb).1
 rw [e] at this;cases this
theorem Inv.bs (I:Inv X pins σ H s):∀ b o,X.base.get? b=some o->s.heap.get? b=some o/\H b=none:=fun b o e=>
 ⟨I.base.keep b o (I.ok.bs b o e).1 (I.ok.bs b o e).2 (I.ok.nofr e) (I.ok.noex b o e),I.base.free b o (I.ok.bs b o e).1 (I.ok.bs b o e).2 (I.ok.noex b o e)⟩
theorem Inv.bk (I:Inv X pins σ H s):∀ b o,X.base.get? b=some o->s.heap.get? b=some o:=fun b o e=>(I.bs b o e).1
theorem Inv.mod (I:Inv X pins σ H s):Mod X.K X.mg X.base:=I.ok.mod
theorem Inv.kIn (I:Inv X pins σ H s):X.K.In s.heap:=I.ok.mod.kin.keeps I.bk
theorem Inv.lt (I:Inv X pins σ H s):X.env.locals<s.heap.objs.size:=let ⟨_,hn,_⟩:=I.loc;hn.lt
theorem Inv.sz (I:Inv X pins σ H s):X.s₀.heap.objs.size<=s.heap.objs.size:=bu I.ok.above (lX I.lt)
theorem Inv.nofs (I:Inv X pins σ H s) (h:s.heap.objs.size<=a):a ∉ X.fs:=fun hb=>by
 obtain ⟨_,o,ho,_⟩:=I.ok.funs.mem hb
 exact absurd (bt (aM ho) (bu I.sz h)) (cY _)
theorem Inv.cne (I:Inv X pins σ H s):∀ x c,X.env.cells.lookup x=some c->c ≠ X.env.locals:=fun x c e z=>by
 obtain ⟨v,o,ho,hd⟩:=I.cell x c e
 obtain ⟨m,⟨o',es,ep,ho',hd',_⟩,_⟩:=I.loc
 rw [z,ho'] at ho;cases ho;rw [hd'] at hd;cases hd
theorem Inv.funs (I:Inv X pins σ H s):s.heap.FunFrames X.base X.outer:=by
 have all:∀ (l:List Env),(∀ b ∈ frs l,b ∈ X.fs)->X.s₀.heap.FunFrames X.base l->s.heap.FunFrames X.base l:=by
  intro l
  induction l with
  | nil=>intro _ _;trivial
  | cons env r ih=>
   intro hs hl
   obtain ⟨hk,⟨L,o,hf,hn,ho,hd⟩,hr⟩:=hl
   have hL:L ∈ X.fs:=hs L (by unfold frs;rw [eU,hf];exact cK)
   obtain ⟨sl,e⟩:=I.base.slot L o ho (I.ok.frf L hL) hL fun z=>I.ok.exfs L z hL
   exact ⟨hk,⟨L,_,hf,hn,e,hd⟩,ih (fun b hb=>hs b (by unfold frs;rw [eU,hf];exact ba _ hb)) hr⟩
 exact all X.outer (fun _ hb=>hb) I.ok.funs
theorem Inv.stack (I:Inv X pins σ H s):s.heap.FunFrames X.base X.stack:=by
 rcases I.ok.stk with e | ⟨e,hf⟩
 ·rw [e];exact I.funs
 ·rw [e]
  obtain ⟨m,hn,_⟩:=I.loc
  refine .cons (by rw [I.ok.kind];decide) hf hn ?_ I.funs
  exact eF (bu I.ok.bsz I.ok.above)
theorem Inv.stkSub (I:Inv X pins σ H s):∀ b ∈ frs X.stack,b ∈ X.env.locals :: X.fs:=fun b hb=>by
 rcases I.ok.stk with e | ⟨e,hf⟩
 ·rw [e] at hb;exact ba _ hb
 ·rw [e] at hb
  unfold frs at hb
  rw [eU,hf] at hb
  exact hb
theorem Inv.stkFree (I:Inv X pins σ H s):∀ b ∈ frs X.stack,H b=none:=fun b hb=>by
 rcases aJ.mp (I.stkSub b hb) with e | hb
 ·rw [e];exact I.free
 ·obtain ⟨_,o,ho,_⟩:=I.ok.funs.mem hb
  exact I.base.free b o ho (I.ok.frf b hb) fun z=>I.ok.exfs b z hb
variable {g':Array GenState} {t':Nat} {d':Drawn} {ch:List aE}
theorem Inv.step (I:Inv X pins σ H s)
  (hch:∀ b ∈ ch,(b ∈ X.ex \/ X.s₀.heap.objs.size<=b)/\b ≠ X.env.locals/\(∀ x c,X.env.cells.lookup x=some c->c ≠ b)/\∀ p ∈ X.pn ++ pins,p.1 ≠ b)
  (keep:∀ b o,b ≠ X.env.locals->b ∉ X.fs->b ∉ ch->s.heap.get? b=some o->H b=none->h'.get? b=some o)
  (slot:∀ b o,b ≠ X.env.locals->b ∈ X.fs->b ∉ ch->s.heap.get? b=some o->H b=none->∃ sl,h'.get? b=some { o with slots:=sl }) (free:∀ b o,b ∉ ch->s.heap.get? b=some o->H b=none->H' b=none)
  (there:∀ b o,b ∉ ch->s.heap.get? b=some o->∃ o',h'.get? b=some o')
  (tups:∀ b xs,H b=some (.tup xs)->H' b=some (.tup xs)) (frzs:∀ b o u,H b=some (.frz o u)->H' b=some (.frz o u)) (tbls:∀ b ps,H b=some (.tbl ps)->∃ more,H' b=some (.tbl (ps ++ more)))
  (ns:∀ m,s.heap.Ns X.env.locals m->h'.Ns X.env.locals m) (hok:HOk X.prog X.w H' h') (hg:gD g') :
  Inv X pins σ H' { s with heap:=h',gens:=g',drawn:=d',toks:=t' }:=by
 have neL:∀ b o,X.s₀.heap.get? b=some o->b ≠ X.env.locals:=fun b o e=>bE (bt (aM e) I.ok.above)
 have neC:∀ b o,X.s₀.heap.get? b=some o->b ∉ X.ex->b ∉ ch:=fun b o e hx hb=>by
  rcases (hch b hb).1 with z | z
  ·exact hx z
  ·exact absurd (bt (aM e) z) (cY _)
 have cellK:∀ x c,X.env.cells.lookup x=some c->∀ v,s.heap.IsCell c v->h'.IsCell c v:=fun x c e v ⟨o,ho,hd⟩=>by
  have nch:c ∉ ch:=fun z=>(hch c z).2.2.1 x c e rfl
  by_cases hc:c ∈ X.fs
  ·obtain ⟨sl,q⟩:=slot c o (I.cne x c e) hc nch ho (I.freeC x c e)
   exact ⟨_,q,hd⟩
  ·exact ⟨o,keep c o (I.cne x c e) hc nch ho (I.freeC x c e),hd⟩
 refine ⟨I.ok,I.os,hg,⟨fun b o e n hb hx=>?_,fun b o e n hb hx=>?_,fun b o e n hx=>?_,fun b o e hx=>?_,fun b xs e=>tups b xs (I.base.tups b xs e),fun b o xs e=>frzs b o xs (I.base.frzs b o xs e),fun b ps e=>?_⟩,?_,fun x c e=>?_,?_,fun x c e=>?_,fun p hp=>?_,hok,I.len⟩
 ·exact keep b o (neL b o e) hb (neC b o e hx) (I.base.keep b o e n hb hx) (I.base.free b o e n hx)
 ·obtain ⟨sl,e1⟩:=I.base.slot b o e n hb hx
  obtain ⟨sl',e2⟩:=slot b _ (neL b o e) hb (neC b o e hx) e1 (I.base.free b o e n hx)
  exact ⟨sl',e2⟩
 ·obtain ⟨o',e1⟩:=I.base.there b o e hx
  exact free b o' (neC b o e hx) e1 (I.base.free b o e n hx)
 ·obtain ⟨o',e1⟩:=I.base.there b o e hx
  exact there b o' (neC b o e hx) e1
 ·obtain ⟨m1,e1⟩:=I.base.tbls b ps e
  obtain ⟨m2,e2⟩:=tbls b _ e1
  exact ⟨m1 ++ m2,by rw [e2,lH]⟩
 ·obtain ⟨m,hn,hl⟩:=I.loc
  refine ⟨m,ns m hn,fun i x v e1 e2 e3=>?_⟩
  obtain ⟨u,r,l⟩:=hl i x v e1 e2 e3
  refine ⟨u,r,?_⟩
  rcases l with l | ⟨k,c,e,z⟩
  ·exact .inl l
  ·exact .inr ⟨k,c,e,cellK x c e _ z⟩
 ·obtain ⟨v,z⟩:=I.cell x c e
  exact ⟨v,cellK x c e v z⟩
 ·obtain ⟨m,⟨o,_,_,ho,_⟩,_⟩:=I.loc
  exact free _ o (fun z=>(hch _ z).2.1 rfl) ho I.free
 ·obtain ⟨v,o,ho,hd⟩:=I.cell x c e
  exact free c o (fun z=>(hch c z).2.2.1 x c e rfl) ho (I.freeC x c e)
 ·obtain ⟨e,n,ne,nf,d⟩:=I.pin p hp
  have nch:p.1 ∉ ch:=fun z=>(hch p.1 z).2.2.2 p hp rfl
  exact ⟨keep p.1 p.2 ne nf nch e n,free p.1 p.2 nch e n,ne,nf,d⟩
theorem Inv.un (I:Inv X pins σ H s)(u:Un X.fs [] H H' s.heap h')(hok:HOk X.prog X.w H' h'):Inv X pins σ H' { s with heap:=h',toks:=t' }:=by
 obtain ⟨m,⟨o,es,ep,ho,r⟩,_⟩:=id I.loc
 obtain ⟨sl,hL⟩:=u.any ho I.free (by simp)
 exact I.step (g':=s.gens) (d':=s.drawn) (ch:=[]) (fun _ z=>nomatch z) (fun b o _ hb _ e n=>u.keep b o e n hb (by simp)) (fun b o _ hb _ e n=>u.slot b o e n hb (by simp)) (fun b o _ e n=>u.free b o e n (by simp)) (fun b o _ e=>u.there b o e (by simp)) u.tups u.frzs u.tbls (fun m' hm=>by
  obtain ⟨o',es',ep',ho',r'⟩:=hm
  rw [ho] at ho';cases ho'
  exact ⟨_,es',ep',hL,r'⟩) hok I.bare
theorem Inv.call (I:Inv X pins σ H s)(u:Un (frs X.stack) ch H H' s.heap h')(hok:HOk X.prog X.w H' h')(hg:gD g')
  (hch:∀ b ∈ ch,(b ∈ X.ex \/ X.s₀.heap.objs.size<=b)/\b ≠ X.env.locals/\(∀ x c,X.env.cells.lookup x=some c->c ≠ b)/\∀ p ∈ X.pn ++ pins,p.1 ≠ b) :
  Inv X pins σ H' { s with heap:=h',gens:=g',drawn:=d',toks:=t' }:=by
 obtain ⟨m,⟨o,es,ep,ho,r⟩,_⟩:=id I.loc
 obtain ⟨sl,hL⟩:=u.any ho I.free fun z=>(hch _ z).2.1 rfl
 exact I.step (ch:=ch) hch (fun b o hL hb hc e n=>u.keep b o e n (fun z=>(aJ.mp (I.stkSub b z)).elim hL hb) hc) (fun b o _ _ hc e n=>u.any e n hc) (fun b o hc e n=>u.free b o e n hc) (fun b o hc e=>u.there b o e hc) u.tups u.frzs u.tbls (fun m' hm=>by
  obtain ⟨o',es',ep',ho',r'⟩:=hm
  rw [ho] at ho';cases ho'
  exact ⟨_,es',ep',hL,r'⟩) hok hg
theorem Inv.turned {it:aE}(I:Inv X pins σ H s)(k:∀ b o,b ≠ it->s.heap.get? b=some o->h'.get? b=some o)(hn:H it=none)(hL:it ≠ X.env.locals)
  (h1:it ∈ X.ex \/ X.s₀.heap.objs.size<=it) (h2:∀ x c,X.env.cells.lookup x=some c->c ≠ it) (h3:∀ p ∈ X.pn ++ pins,p.1 ≠ it):Inv X pins σ H { s with heap:=h',toks:=t' }:=by
 have nit:∀ b u,H b=some u->b ≠ it:=fun b u e z=>by rw [z,hn] at e;cases e
 refine I.step (g':=s.gens) (d':=s.drawn) (ch:=[it]) (fun b hb=>?_) (fun b o _ _ hc e _=>k b o (fun z=>hc (by simp [z])) e) (fun b o _ _ hc e _=>⟨o.slots,k b o (fun z=>hc (by simp [z])) e⟩) (fun _ _ _ _ n=>n)
  (fun b o hc e=>⟨o,k b o (fun z=>hc (by simp [z])) e⟩) (fun _ _ e=>e) (fun _ _ _ e=>e) (fun b ps e=>⟨#[],by rw [e];simp⟩) (fun m hm=>?_) (fun b u e=>?_) I.bare
 ·have e:b=it:=by simpa using hb
  subst e
  exact ⟨h1,hL,h2,h3⟩
 ·obtain ⟨o,es,ep,ho,r⟩:=hm
  exact ⟨o,es,ep,k _ o (Ne.symm hL) ho,r⟩
 ·refine (I.hok b u e).stay (fun c v hc q=>k c v ?_ q) (fun _ q=>q) fun _ _ q=>q
  rcases hc with z | z
  ·rw [z];exact nit b u e
  ·exact nit c _ z
theorem Inv.tok (I:Inv X pins σ H s)(t:Nat):Inv X pins σ H { s with toks:=t }:=I.un (h':=s.heap) (t':=t) Un.refl I.hok
theorem Inv.kept (I:Inv X pins σ H s)(k:∀ b u,s.heap.get? b=some u->h'.get? b=some u):Inv X pins σ H { s with heap:=h',toks:=t' }:=I.un (Un.kept k) (I.hok.kept k)
theorem Inv.laid (I:Inv X pins σ H s)(k:∀ b u,s.heap.get? b=some u->h'.get? b=some u)(hp:s.heap.objs.size<=a)(new:zS X.prog X.w (upd H a o) h' a o) :
  Inv X pins σ (upd H a o) { s with heap:=h',toks:=t' }:=I.un (Un.laid k hp (I.hok.fresh hp)) (I.hok.laid k hp new)
theorem Inv.write {x e:aE} (I:Inv X pins σ H s)(mu:Mut (H x))(he:e=x \/ H e=some (.own x))(k:∀ b u,b ≠ e->s.heap.get? b=some u->h'.get? b=some u)(heo:∃ u,h'.get? e=some u)
  (new:zS X.prog X.w (upd H x o) h' x o):Inv X pins σ (upd H x o) { s with heap:=h',toks:=t' }:=I.un (Un.write mu he k heo) (I.hok.write mu he k heo new)
theorem Inv.pins_of {pins':List (aE × Obj)}(I:Inv X pins σ H s)(h:∀ p ∈ pins',s.heap.get? p.1=some p.2/\H p.1=none/\p.1 ≠ X.env.locals/\p.1 ∉ X.fs/\∀ v,p.2.data ≠ .cell v):Inv X pins' σ H s:=
 ⟨I.ok,I.os,I.bare,I.base,I.loc,I.cell,I.free,I.freeC,fun p hp=>(cq.mp hp).elim (fun z=>I.pin p (dE _ z)) (h p),I.hok,I.len⟩
theorem vv {N:List Str}(hN:N.Nodup){i j:Nat}{x:Str}(a:N[i]?=some x)(b:N[j]?=some x):i=j:=by
 obtain ⟨h1,e1⟩:=aP.mp a
 obtain ⟨h2,e2⟩:=aP.mp b
 exact (h9 hN).mp (e1.trans e2.symm)
theorem wV {M : mM}{A : bo}{E : am -> ax -> Prop}{i : Nat}{x : Str}{v : V}{u : am}{Q : Unit -> ax -> Prop}(I : Inv X pins σ H s)(hN : X.N.Nodup)(hi : X.N[i]? = some x)(hx : Loc X.env.scope x)(r : zC v u)
    (h:∀ s',Inv X pins (σ.set i (some v)) H s'->(∃ a,b8 a s.heap s'.heap/\(a=X.env.locals \/ X.env.cells.lookup x=some a))->Q () s') (hf:X.fn x=true \/ X.env.scope.names.lookup x=some .local:=by first | exact .inl rfl | exact .inr rfl | assumption):bg M A (storeName X.env x u) Q E s:=by
  obtain ⟨m,hn,hl⟩:=id I.loc
  have hcls:(X.env.scope.kind == .class || (X.env.scope.kind == .module && X.env.locals != X.env.globals))=false:=by rw [I.ok.kind];rfl
  have hiσ:i<σ.length:=by rw [I.len];exact (aP.mp hi).1
  have cne:=I.cne
  have tracked:∀ {a:aE} {h':Heap},(∃ o,s.heap.get? a=some o/\H a=none)->b8 a s.heap h'->HOk X.prog X.w H h':=fun {a h'} ha hs b ob e=>by
    obtain ⟨_,_,hfree⟩:=ha
    refine (I.hok b ob e).stay (fun c w' hc q=>(hs.2 c ?_).trans q) (fun _ q=>q) fun _ _ q=>q
    rintro rfl
    rcases hc with rfl | hc
    · rw [hfree] at e;cases e
    · rw [hfree] at hc;cases hc
  rcases hx with hk | hk
  · refine wpAny_storeName_local hk hn (fun h' hn' hs=>?_) hcls
    obtain ⟨oL,_,_,hoL,_⟩:=id hn
    refine h _ ⟨I.ok,I.os,I.bare,⟨fun b o e n hb hx=>?_,fun b o e n hb hx=>?_,I.base.free,fun b o e hx=>?_,I.base.tups,I.base.frzs,I.base.tbls⟩,⟨_,hn',fun j y v' e1 e2 e3=>?_⟩,fun y c e=>?_,I.free,I.freeC,fun p hp=>?_,tracked ⟨oL,hoL,I.free⟩ hs,by simpa using I.len⟩ ⟨_,hs,.inl rfl⟩
    · exact (hs.2 b (bE (bt (aM e) I.ok.above))).trans (I.base.keep b o e n hb hx)
    · obtain ⟨sl,e1⟩:=I.base.slot b o e n hb hx
      exact ⟨sl,(hs.2 b (bE (bt (aM e) I.ok.above))).trans e1⟩
    · obtain ⟨o',e1⟩:=I.base.there b o e hx
      exact ⟨o',(hs.2 b (bE (bt (aM e) I.ok.above))).trans e1⟩
    · by_cases hj:j=i
      · subst hj
        rw [hi] at e1;cases e1
        rw [dZ hiσ] at e2
        cases e2
        exact ⟨u,r,.inl ⟨hk,by simp⟩⟩
      · rw [eG (Ne.symm hj)] at e2
        obtain ⟨u',r',q⟩:=hl j y v' e1 e2 e3
        refine ⟨u',r',?_⟩
        rcases q with ⟨k,e⟩ | ⟨k,c,e,z⟩
        · refine .inl ⟨k,?_⟩
          have:y ≠ x:=fun e=>hj (vv hN e1 (e ▸ hi))
          simp [this,e]
        · exact .inr ⟨k,c,e,z.sameBut hs (cne y c e)⟩
    · obtain ⟨w',z⟩:=I.cell y c e
      exact ⟨w',z.sameBut hs (cne y c e)⟩
    · obtain ⟨e,n,ne,nf,d⟩:=I.pin p hp
      exact ⟨(hs.2 p.1 ne).trans e,n,ne,nf,d⟩
  · have hfn : X.fn x = true := by
      rcases hf with z | z
      · exact z
      · rw [z] at hk;cases hk
    obtain ⟨c,hc⟩:=I.ok.has x (.inl hk)
    obtain ⟨w',z⟩:=I.cell x c hc
    refine wpAny_storeName_cell I.ok.kind hk hc z (fun h' hc' hs=>?_)
    obtain ⟨oc,hoc,hocd⟩:=id z
    refine h { s with heap:=h' } ⟨I.ok,I.os,I.bare,⟨fun b o e n hb hx=>?_,fun b o e n hb hx=>?_,I.base.free,fun b o e hx=>?_,I.base.tups,I.base.frzs,I.base.tbls⟩,⟨m,hn.sameBut hs (Ne.symm (cne x c hc)),fun j y v' e1 e2 e3=>?_⟩,fun y c' e=>?_,I.free,I.freeC,fun p hp=>?_,tracked ⟨oc,hoc,I.freeC x c hc⟩ hs,by simpa using I.len⟩ ⟨c,hs,.inr hc⟩
    · exact (hs.2 b (bE (bt (aM e) (I.ok.cab x c hfn hc)))).trans (I.base.keep b o e n hb hx)
    · obtain ⟨sl,e1⟩:=I.base.slot b o e n hb hx
      exact ⟨sl,(hs.2 b (bE (bt (aM e) (I.ok.cab x c hfn hc)))).trans e1⟩
    · obtain ⟨o',e1⟩:=I.base.there b o e hx
      exact ⟨o',(hs.2 b (bE (bt (aM e) (I.ok.cab x c hfn hc)))).trans e1⟩
    · by_cases hj:j=i
      · subst hj
        rw [hi] at e1;cases e1
        rw [dZ hiσ] at e2
        cases e2
        exact ⟨u,r,.inr ⟨.inl hk,c,hc,hc'⟩⟩
      · rw [eG (Ne.symm hj)] at e2
        obtain ⟨u',r',q⟩:=hl j y v' e1 e2 e3
        refine ⟨u',r',?_⟩
        rcases q with q | ⟨k,c',e,z'⟩
        · exact .inl q
        · refine .inr ⟨k,c',e,z'.sameBut hs ?_⟩
          rintro rfl
          exact hj (vv hN e1 (I.ok.inj _ _ _ e hc ▸ hi))
    · by_cases hcc:c'=c
      · subst hcc;exact ⟨_,hc'⟩
      · obtain ⟨w2,z2⟩:=I.cell y c' e
        exact ⟨w2,z2.sameBut hs hcc⟩
    · obtain ⟨e,n,ne,nf,d⟩:=I.pin p hp
      refine ⟨(hs.2 p.1 ?_).trans e,n,ne,nf,d⟩
      intro q
      rw [q,hoc] at e
      have q':oc=p.2:=bO e
      exact d w' (by rw [<- q'];exact hocd)
theorem yO {M:mM}{A:bo}{E:am->ax->Prop}{i:Nat}{x:Str}{v:V}{u:am}{Q:Unit->ax->Prop}(I:Inv X pins σ H s)(hN:X.N.Nodup)(hi:X.N[i]?=some x)(hx:Loc X.env.scope x)(r:zC v u)
  (h:∀ s',Inv X pins (σ.set i (some v)) H s'->Q () s') (hf:X.fn x=true \/ X.env.scope.names.lookup x=some .local:=by first | exact .inl rfl | exact .inr rfl | assumption):bg M A (storeName X.env x u) Q E s:=
 wV I hN hi hx r (fun s' I' _=>h s' I') hf
theorem Inv.call' {s':ax} (I:Inv X pins σ H s)(ho:s'.os=s.os)(u:Un (frs X.stack) ch H H' s.heap s'.heap)(hok:HOk X.prog X.w H' s'.heap)(hg:gD s'.gens)
  (hch:∀ b ∈ ch,(b ∈ X.ex \/ X.s₀.heap.objs.size<=b)/\b ≠ X.env.locals/\(∀ x c,X.env.cells.lookup x=some c->c ≠ b)/\∀ p ∈ X.pn ++ pins,p.1 ≠ b):Inv X pins σ H' s':=by
 obtain ⟨h',g',d',t',o'⟩:=s'
 have e:o'=s.os:=ho
 subst e
 exact I.call (g':=g') (t':=t') (d':=d') u hok hg hch
end
abbrev XK:=am->Option aE->Hp->Prop
abbrev St:=List (Option V)
abbrev VK:=V->Hp->Prop
abbrev TE:=St->Hp->VK->Prop
abbrev TT:=St->Hp->(Bool->Hp->Prop)->Prop
abbrev TA:=St->Hp->(List V->Hp->Prop)->Prop
structure jr where
 nx:St->Hp->Prop
 rt:VK
 bk:St->Hp->Prop:=fun _ _=>False
 ct:St->Hp->Prop:=fun _ _=>False
abbrev TS:=jr->St->Hp->Prop
def EP (X:Cx)(pins:List (aE × Obj))(σ:St)(Q:VK)(u:am)(s':ax):Prop:=∃ v H',Inv X pins σ H' s'/\zC v u/\Q v H'
def TP (X:Cx)(pins:List (aE × Obj))(σ:St)(Q:Bool->Hp->Prop)(b:Bool)(s':ax):Prop:=∃ H',Inv X pins σ H' s'/\Q b H'
def AP (X:Cx)(pins:List (aE × Obj))(σ:St)(Q:List V->Hp->Prop)(us:List am)(s':ax):Prop:=∃ vs H',Inv X pins σ H' s'/\zx vs us/\Q vs H'
def SP (X:Cx)(pins:List (aE × Obj))(D:jr)(f:Flow)(s':ax):Prop:=
 match f with
 | .next=>∃ σ' H',Inv X pins σ' H' s'/\D.nx σ' H'
 | .brk=>∃ σ' H',Inv X pins σ' H' s'/\D.bk σ' H'
 | .cont=>∃ σ' H',Inv X pins σ' H' s'/\D.ct σ' H'
 | .ret u=>∃ v σ' H',Inv X pins σ' H' s'/\zC v u/\D.rt v H'
def PE (X:Cx)(e:Expr)(t:TE):Prop:=
 ∀ (pins:List (aE × Obj)) (s:ax) (σ:St) (H:Hp) (Q:VK),Inv X pins σ H s->t σ H Q->bg (bc X.prog X.w) X.A (eval e X.env) (EP X pins σ Q) X.xe s
def PT (X:Cx)(e:Expr)(t:TT):Prop:=
 ∀ (pins:List (aE × Obj)) (s:ax) (σ:St) (H:Hp) (Q:Bool->Hp->Prop),Inv X pins σ H s->t σ H Q->bg (bc X.prog X.w) X.A (isTrue e X.env (eval e X.env)) (TP X pins σ Q) X.xe s
def PW (X:Cx)(e:Expr)(t:TT):Prop:=
 ∀ (whole:Sem am) (pins:List (aE × Obj)) (s:ax) (σ:St) (H:Hp) (Q:Bool->Hp->Prop),Inv X pins σ H s->t σ H Q->bg (bc X.prog X.w) X.A (isTrue e X.env whole) (TP X pins σ Q) X.xe s
variable {X:Cx} {e:Expr}
theorem PW.pt {t:TT}(h:PW X e t):PT X e t:=h _
def PA (X:Cx)(es:List Expr)(t:TA):Prop:=
 ∀ (pos:Pos) (pins:List (aE × Obj)) (s:ax) (σ:St) (H:Hp) (Q:List V->Hp->Prop),Inv X pins σ H s->t σ H Q->bg (bc X.prog X.w) X.A (spliced (cT pos (bi es X.env))) (AP X pins σ Q) X.xe s
def PS (X:Cx)(st:cn)(t:TS):Prop:=
 ∀ (pins:List (aE × Obj)) (s:ax) (σ:St) (H:Hp) (D:jr),Inv X pins σ H s->t D σ H->bg (bc X.prog X.w) X.A (exec st X.env) (SP X pins D) X.xe s
def PSs (X:Cx)(st:List cn)(t:TS):Prop:=
 ∀ (pins:List (aE × Obj)) (s:ax) (σ:St) (H:Hp) (D:jr),Inv X pins σ H s->t D σ H->bg (bc X.prog X.w) X.A (execs st X.env) (SP X pins D) X.xe s
variable {A:bo} {E:am->ax->Prop} {s:ax}
theorem thn {α:Type}{t:Sem α}{Q Q':α->ax->Prop}{M:mM} (h:bg M A t Q E s)(hQ:∀ a s,Q a s->Q' a s):bg M A t Q' E s:=bF h hQ fun _ _ x=>x
section
variable {X:Cx}
variable {pins:List (aE × Obj)} {σ:St}
theorem bin {a b:Expr}{ta tb:TE}(ha:PE X a ta)(hb:PE X b tb) {R:V->V->Hp->Prop}(I:Inv X pins σ H s)(h:ta σ H fun x H1=>tb σ H1 fun y H2=>R x y H2)
  {α:Type} {Q:α->ax->Prop} {f:am->am->Sem α}
  (hf:∀ v u s2 x y H2,Inv X pins σ H2 s2->zC x v->zC y u->R x y H2->bg (bc X.prog X.w) X.A (f v u) Q X.xe s2) :
  bg (bc X.prog X.w) X.A (eval a X.env) (fun v s₁=>bg (bc X.prog X.w) X.A (eval b X.env) (fun u s₂=>bg (bc X.prog X.w) X.A (f v u) Q X.xe s₂) X.xe s₁) X.xe s:=by
 refine thn (ha pins s σ H _ I h) fun v s1 ⟨x,H1,I1,r1,q1⟩=>?_
 refine thn (hb pins s1 σ H1 _ I1 q1) fun u s2 ⟨y,H2,I2,r2,q2⟩=>?_
 exact hf v u s2 x y H2 I2 r1 r2 q2
noncomputable def XR (i:Nat):TE:=fun σ H Q=>∃ v,σ[i]?=some (some v)/\Q v H
noncomputable def tC (v:V):TE:=fun _ H Q=>Q v H
variable {pos:Pos}
theorem Gz {i:Nat}{x:Str} (hN:X.N[i]?=some x)(hv:Vis X.env.scope x)(hd:(x == ("__debug__":Str))=false:=by decide)(hcd:(x == ("__classdict__":Str))=false:=by decide):PE X (.Name x pos) (XR i):=by
 intro pins s σ H Q I h
 obtain ⟨v,e,h⟩:=h
 obtain ⟨m,hn,hl⟩:=I.loc
 obtain ⟨u,r,l⟩:=hl i x v hN e hv
 have fin:EP X pins σ Q u s:=⟨v,H,I,r,h⟩
 rcases l with ⟨hk,hm⟩ | ⟨hk,c,hc,hcell⟩
 ·exact wpAny_Name (wpAny_loadName_local I.ok.kind hk hn hm fin) hd
 ·rcases hk with hk | hk
  ·exact wpAny_Name (wpAny_loadName_cell I.ok.kind hk hc hcell fin) hd
  ·exact wpAny_Name (wpAny_loadName_free I.ok.kind hk hc hcell fin hcd) hd
theorem ze {i j pos}:PE X (.Constant (.int i) j pos) (tC (.int i)):=fun _ _ _ H _ I h=>wpAny_Constant_int ⟨.int i,H,I.tok _,⟨_,rfl⟩,h⟩
theorem j8 {b j pos}:PE X (.Constant (.bool b) j pos) (tC (.bl b)):=fun _ _ _ H _ I h=>Constant_bool ⟨.bl b,H,I,rfl,h⟩
theorem JN {j pos}:PE X (.Constant .none j pos) (tC .non):=fun _ _ _ H _ I h=>Constant_none ⟨.non,H,I,rfl,h⟩
theorem zl {x j pos}:PE X (.Constant (.str x) j pos) (tC (.str x)):=fun _ _ _ H _ I h=>Calls.Constant_str ⟨.str x,H,I.tok _,⟨_,rfl⟩,h⟩
def Gl (X:Cx)(x:Str):Prop:=X.env.kindOf x=some .globalImplicit
variable {Q:am->ax->Prop}
theorem jd {x:Str}{u:am} (I:Inv X pins σ H s)(hg:Gl X x)(hm:X.mg x=some u)(h:Q u s)
  (hd:(x == ("__debug__":Str))=false:=by decide):bg (bc X.prog X.w) X.A (eval (.Name x pos) X.env) Q E s:=
 gH I.ok.kind hg (Calls.loadGlobal_global (by rw [I.ok.glob];exact I.mod.glob.keeps I.bk) hm h) hd
theorem kX {x:Str}{u:am} (I:Inv X pins σ H s)(hg:Gl X x)(hm:X.mg x=none)(hv:bR x=some u)(h:Q u s)
  (hn:x ≠ "__name__":=by decide) (hd:(x == ("__debug__":Str))=false:=by decide):bg (bc X.prog X.w) X.A (eval (.Name x pos) X.env) Q E s:=by
 obtain ⟨mb,h1,h2⟩:=I.mod.blt
 exact gH I.ok.kind hg (Calls.loadGlobal_builtin (by rw [I.ok.glob];exact I.mod.glob.keeps I.bk) hm (by rw [I.ok.blt];exact h1.keeps I.bk) ((h2 x hn).trans hv) h) hd
variable {v:V}
theorem j3 {x:Str} {u:am} (hg:Gl X x)(hm:X.mg x=some u)(r:zC v u)(hd:(x == ("__debug__":Str))=false:=by decide):PE X (.Name x pos) (tC v):=
 fun _ _ _ H _ I h=>jd I hg hm ⟨v,H,I,r,h⟩ hd
theorem kD {x:Str} {u:am} (hg:Gl X x)(hm:X.mg x=none)(hv:bR x=some u)(r:zC v u)(hn:x ≠ "__name__":=by decide)(hd:(x == ("__debug__":Str))=false:=by decide):PE X (.Name x pos) (tC v):=
 fun _ _ _ H _ I h=>kX I hg hm hv ⟨v,H,I,r,h⟩ hn hd
variable {a b:Expr}{ta tb:TE}{pos:Pos}
def PC (X:Cx)(op:mO)(a b:Expr)(t:TE):Prop:=
 ∀ (pins:List (aE × Obj)) (s:ax) (σ:St) (H:Hp) (Q:VK),Inv X pins σ H s->t σ H Q ->
  bg (bc X.prog X.w) X.A (eval a X.env) (fun v s₁=>bg (bc X.prog X.w) X.A (eval b X.env) (fun u s₂=>bg (bc X.prog X.w) X.A (cP op v u) (EP X pins σ Q) X.xe s₂) X.xe s₁) X.xe s
variable {op:mO}
theorem Az (b:Expr) (h:op ≠ .In)(h2:op ≠ .NotIn):eg op b=false:=by
 have e1:(op == mO.In)=false:=by cases op <;> first | rfl | exact absurd rfl h
 have e2:(op == mO.NotIn)=false:=by cases op <;> first | rfl | exact absurd rfl h2
 cases b <;> simp [eg,e1,e2]
noncomputable def tB (t:TE):TT:=fun σ H Q=>t σ H fun x H1=>∃ c,x=.bl c/\Q c H1
variable {t:TE}
theorem GS (h:PC X op a b t)(h1:eg op b=false:=by first | exact Az _ (by decide) (by decide) | rfl):PT X (.Compare a [op] [b] pos) (tB t):=by
 intro pins s σ H Q I hw
 refine wpAny_isTrue_Compare1 (thn (h pins s σ H _ I hw) fun v s1 h1=>thn h1 fun u s2 h2=>thn h2 fun c s3 ⟨x,H1,I1,r1,q1⟩=>?_) h1
 obtain ⟨d,rfl,q⟩:=q1
 cases r1
 exact cz ⟨H1,I1,q⟩
theorem qY (h:PE X e t)(he:∀ whole,isTrue e X.env whole=(do let v <- whole;lh e.pos;holding [v] (truthy v)):=by intro _;rfl):PT X e (tB t):=by
 intro pins s σ H Q I hw
 refine isTrue_plain (thn (h pins s σ H _ I hw) fun v s1 ⟨x,H1,I1,r1,q1⟩=>?_) (he _)
 obtain ⟨d,rfl,q⟩:=q1
 cases r1
 exact cz ⟨H1,I1,q⟩
variable {tA tB':TT}{qh:List Expr}
noncomputable def IY (t u:TT):TT:=fun σ H Q=>t σ H fun c H1=>if c=true then u σ H1 Q else Q false H1
noncomputable def tOr (t u:TT):TT:=fun σ H Q=>t σ H fun c H1=>if c=true then Q true H1 else u σ H1 Q
noncomputable def Lb (t:TT):TT:=fun σ H Q=>t σ H fun c H1=>Q (!c) H1
theorem Ef (ha:PT X a tA):PW X (.BoolOp .And [a] pos) tA:=by
 intro wh pins s σ H Q I h
 refine isTrue_and (thn (ha pins s σ H Q I h) fun c s1 e=>?_)
 cases c with
 | true=>exact isTrue_and_nil e
 | false=>exact e
theorem vT (ha:PT X a tA):PW X (.BoolOp .Or [a] pos) tA:=by
 intro wh pins s σ H Q I h
 refine isTrue_or (thn (ha pins s σ H Q I h) fun c s1 e=>?_)
 cases c with
 | false=>exact isTrue_or_nil e
 | true=>exact e
theorem GZ (ha:PT X a tA)(hb:PW X (.BoolOp .And (b :: qh) pos) tB'):PW X (.BoolOp .And (a :: b :: qh) pos) (IY tA tB'):=by
 intro wh pins s σ H Q I h
 refine isTrue_and (thn (ha pins s σ H _ I h) fun c s1 ⟨H1,I1,q1⟩=>?_)
 cases c with
 | true=>exact hb wh pins s1 σ H1 Q I1 q1
 | false=>exact ⟨H1,I1,q1⟩
theorem QK (ha:PT X a tA)(hb:PW X (.BoolOp .Or (b :: qh) pos) tB'):PW X (.BoolOp .Or (a :: b :: qh) pos) (tOr tA tB'):=by
 intro wh pins s σ H Q I h
 refine isTrue_or (thn (ha pins s σ H _ I h) fun c s1 ⟨H1,I1,q1⟩=>?_)
 cases c with
 | true=>exact ⟨H1,I1,q1⟩
 | false=>exact hb wh pins s1 σ H1 Q I1 q1
theorem kc (ha:PT X a tA):PT X (.UnaryOp .Not a pos) (Lb tA):=by
 intro pins s σ H Q I h
 exact isTrue_not (ha pins s σ H (fun c H1=>Q (!c) H1) I h)
noncomputable def W5 (ta tb:TE):TE:=fun σ H Q=>ta σ H fun x H1=>∃ c,x=.bl c/\if c=true then tb σ H1 Q else Q (.bl false) H1
noncomputable def HG (ta tb:TE):TE:=fun σ H Q=>ta σ H fun x H1=>∃ c,x=.bl c/\if c=true then Q (.bl true) H1 else tb σ H1 Q
theorem vL {op} (h:PE X a t):PE X (.BoolOp op [a] pos) t:=fun pins s σ H Q I hw=>BoolOp_one (h pins s σ H Q I hw)
theorem yZ (ha:PE X a ta)(hb:PE X (.BoolOp .And (b :: qh) pos) tb):PE X (.BoolOp .And (a :: b :: qh) pos) (W5 ta tb):=by
 intro pins s σ H Q I h
 refine BoolOp_and (thn (ha pins s σ H _ I h) fun v s1 ⟨x,H1,I1,r1,q1⟩=>?_)
 obtain ⟨c,rfl,q1⟩:=q1
 cases r1
 refine cz ?_
 cases c with
 | true=>exact hb pins s1 σ H1 Q I1 q1
 | false=>exact ⟨.bl false,H1,I1,rfl,q1⟩
theorem Lq (ha:PE X a ta)(hb:PE X (.BoolOp .Or (b :: qh) pos) tb):PE X (.BoolOp .Or (a :: b :: qh) pos) (HG ta tb):=by
 intro pins s σ H Q I h
 refine BoolOp_or (thn (ha pins s σ H _ I h) fun v s1 ⟨x,H1,I1,r1,q1⟩=>?_)
 obtain ⟨c,rfl,q1⟩:=q1
 cases r1
 refine cz ?_
 cases c with
 | false=>exact hb pins s1 σ H1 Q I1 q1
 | true=>exact ⟨.bl true,H1,I1,rfl,q1⟩
noncomputable def tIf (t:TT)(ta tb:TE):TE:=fun σ H Q=>t σ H fun c H1=>if c=true then ta σ H1 Q else tb σ H1 Q
theorem QO {c:Expr}(hc:PT X c tA)(ha:PE X a ta)(hb:PE X b tb):PE X (.IfExp c a b pos) (tIf tA ta tb):=by
 intro pins s σ H Q I h
 refine wpAny_IfExp (thn (hc pins s σ H _ I h) fun d s1 ⟨H1,I1,q1⟩=>?_)
 cases d with
 | true=>exact ha pins s1 σ H1 Q I1 q1
 | false=>exact hb pins s1 σ H1 Q I1 q1
end
def SqL (K:au)(H:Hp)(a:aE)(xs:List V):Prop:=
 Rd H a (.lst xs) \/
  ∃ (o:Obj) (its:Array am) (n:Nat),K.lookup a=some o/\o.cls=.type "list"/\o.dict=none/\o.data=.seq its n/\its.size<=aT/\zx xs its.toList
def SqT (K:au)(H:Hp)(a:aE)(xs:List V):Prop:=
 Rd H a (.tup xs) \/
  ∃ (o:Obj) (its:Array am) (n:Nat),K.lookup a=some o/\o.cls=.type "tuple"/\o.data=.seq its n/\its.size<=aT/\zx xs its.toList
noncomputable def Nc:am->Option V
 | .none=>some .non
 | .bool b=>some (.bl b)
 | .int i _=>some (.int i)
 | .str x _=>some (.str x)
 | .bytes b _=>some (.byt b)
 | .float b _=>some (.flt b)
 | .ref a=>some (.ref a)
 | .type n=>some (.ty n)
 | _=>none
theorem zC.abs {x:V}{u:am}(r:zC x u):Nc u=some x:=by
 cases x with
 | non=>cases r;rfl
 | bl _=>cases r;rfl
 | int _=>obtain ⟨t,rfl⟩:=r;rfl
 | str _=>obtain ⟨t,rfl⟩:=r;rfl
 | byt _=>obtain ⟨t,rfl⟩:=r;rfl
 | flt _=>obtain ⟨t,rfl⟩:=r;rfl
 | ref _=>cases r;rfl
 | ty _=>cases r;rfl
theorem zC.inj {x y:V}{u:am}(r:zC x u)(q:zC y u):x=y:=bO (r.abs.symm.trans q.abs)
theorem zx.inj:∀ {xs ys:List V} {us:List am},zx xs us->zx ys us->xs=ys
 | _,_,_,.nil,.nil=>rfl
 | _,_,_,.cons r t,.cons r' t'=>by rw [r.inj r',zx.inj t t']
section
variable {X:Cx}{pins:List (aE × Obj)}{σ:St}{H:Hp}{s:ax}{a:aE}{xs ys:List V}
variable {K:au}
theorem SqL.of (h:H a=some (.lst xs)):SqL K H a xs:=.inl (.inl h)
theorem SqT.of (h:H a=some (.tup xs)):SqT K H a xs:=.inl (.inl h)
theorem Inv.list (I:Inv X pins σ H s)(h:SqL X.K H a xs):∃ its:List am,zx xs its/\PlainL s.heap a its.toArray/\xs.length<=aT:=by
 rcases h with h | ⟨o,its,n,hk,hc,hd,hs,hz,r⟩
 ·obtain ⟨z,its,n,r,e⟩:=h.ok I.hok
  exact ⟨its,r,⟨_,n,e,rfl,rfl,rfl⟩,z⟩
 ·refine ⟨its.toList,r,⟨o,n,I.kIn a o hk,hc,hd,by simpa using hs⟩,?_⟩
  have e:=r.length
  simp only [gA] at e
  omega
theorem Inv.tuple (I:Inv X pins σ H s)(h:SqT X.K H a xs):∃ its:List am,zx xs its/\IsTup s.heap a its.toArray/\xs.length<=aT:=by
 rcases h with h | ⟨o,its,n,hk,hc,hs,hz,r⟩
 ·obtain ⟨z,its,r,p⟩:=h.ok I.hok
  exact ⟨its,r,p.is,z⟩
 ·refine ⟨its.toList,r,⟨o,I.kIn a o hk,hc,n,by simpa using hs⟩,?_⟩
  have e:=r.length
  simp only [gA] at e
  omega
theorem Inv.list_inj (I:Inv X pins σ H s)(h:SqL X.K H a xs)(h':SqL X.K H a ys):xs=ys:=by
 obtain ⟨its,r,⟨o,n,e,_,_,d⟩,_⟩:=I.list h
 obtain ⟨its',r',⟨o',n',e',_,_,d'⟩,_⟩:=I.list h'
 rw [e] at e';cases e'
 rw [d] at d'
 injection d' with d1 _
 have:its=its':=by simpa using congrArg lY d1
 subst this
 exact r.inj r'
theorem Inv.tuple_inj (I:Inv X pins σ H s)(h:SqT X.K H a xs)(h':SqT X.K H a ys):xs=ys:=by
 obtain ⟨its,r,⟨o,e,_,n,d⟩,_⟩:=I.tuple h
 obtain ⟨its',r',⟨o',e',_,n',d'⟩,_⟩:=I.tuple h'
 rw [e] at e';cases e'
 rw [d] at d'
 injection d' with d1 _
 have:its=its':=by simpa using congrArg lY d1
 subst this
 exact r.inj r'
end
noncomputable abbrev Cx.wish (X:Cx)(E:am->ax->Prop):Cx:={ X with xe:=E }
noncomputable abbrev Cx.nox (X:Cx):Cx:=X.wish fun _ _=>False
theorem Cx.Ok.wish (ok:X.Ok)(E:am->ax->Prop):(X.wish E).Ok:=
 ⟨ok.mod,ok.kind,ok.glob,ok.blt,ok.above,ok.inj,ok.has,ok.cab,ok.hd,ok.frames,ok.stk,ok.exf,ok.bs,ok.bsz,ok.noex,ok.exfs,ok.funs,ok.frf⟩
theorem Cx.Ok.unwish (ok:(X.wish E).Ok):X.Ok:=
 ⟨ok.mod,ok.kind,ok.glob,ok.blt,ok.above,ok.inj,ok.has,ok.cab,ok.hd,ok.frames,ok.stk,ok.exf,ok.bs,ok.bsz,ok.noex,ok.exfs,ok.funs,ok.frf⟩
section
variable {X:Cx}{pins:List (aE × Obj)}{σ:St}{H:Hp}{s:ax}{E:am->ax->Prop}
theorem Inv.wish (I:Inv X pins σ H s)(E:am->ax->Prop):Inv (X.wish E) pins σ H s:=⟨I.ok.wish E,I.os,I.bare,I.base,I.loc,I.cell,I.free,I.freeC,I.pin,I.hok,I.len⟩
theorem Inv.unwish (I:Inv (X.wish E) pins σ H s):Inv X pins σ H s:=⟨I.ok.unwish,I.os,I.bare,I.base,I.loc,I.cell,I.free,I.freeC,I.pin,I.hok,I.len⟩
theorem SP.unwish {D:jr}{f:Flow}{s':ax}(h:SP (X.wish E) pins D f s'):SP X pins D f s':=by
 cases f with
 | next=>obtain ⟨σ',H',I,q⟩:=h;exact ⟨σ',H',I.unwish,q⟩
 | brk=>obtain ⟨σ',H',I,q⟩:=h;exact ⟨σ',H',I.unwish,q⟩
 | cont=>obtain ⟨σ',H',I,q⟩:=h;exact ⟨σ',H',I.unwish,q⟩
 | ret u=>obtain ⟨v,σ',H',I,r,q⟩:=h;exact ⟨v,σ',H',I.unwish,r,q⟩
theorem PSs.nox {st:List cn}{t:TS}(h:PSs X.nox st t):PSs X st t:=fun pins s σ H D I hw=>
 bF (h pins s σ H D (I.wish _) hw) (fun _ _ q=>q.unwish) fun _ _ z=>cg z
end
section
variable {X:Cx}{st:cn}{qh:List cn}{t u:TS}{e:Expr}{te:TE}{pos:Pos}
noncomputable def WY:TS:=fun D σ H=>D.nx σ H
noncomputable def J3 (t u:TS):TS:=fun D σ H=>t { D with nx:=u D } σ H
theorem zF:PSs X [] WY:=fun _ _ σ H _ I h=>fc ⟨σ,H,I,h⟩
theorem zc (h1:PS X st t)(h2:PSs X qh u):PSs X (st :: qh) (J3 t u):=by
 intro pins s σ H D I h
 refine wpAny_execs_cons (thn (h1 pins s σ H { D with nx:=u D } I h) fun f s1 q=>?_)
 cases f with
 | next=>
  obtain ⟨σ',H',I',q⟩:=q
  exact h2 pins s1 σ' H' D I' q
 | ret v=>exact q
 | brk=>exact q
 | cont=>exact q
theorem zf (h1:PS X st t):PSs X [st] t:=by
 intro pins s σ H D I h
 refine wpAny_execs_cons (thn (h1 pins s σ H D I h) fun f s1 q=>?_)
 cases f with
 | next=>exact fc q
 | ret v=>exact q
 | brk=>exact q
 | cont=>exact q
theorem Inv.quiet {pins:List (aE × Obj)}{σ:St} (I:Inv X pins σ H s):interactive X.env=false:=by simp [interactive,I.ok.kind]
noncomputable def Ao (te:TE):TS:=fun D σ H=>te σ H fun _ H1=>D.nx σ H1
theorem xf (he:PE X e te)(hs:li e none pos.line X.env=pure false:=by rfl):PS X (.Expr e pos) (Ao te):=by
 intro pins s σ H D I h
 exact wpAny_Expr_any (thn (he pins s σ H _ I h) fun v s1 ⟨x,H1,I1,r1,q1⟩=>⟨σ,H1,I1,q1⟩) I.quiet hs
noncomputable def Dn (te:TE):TS:=fun D σ H=>te σ H D.rt
theorem zr (he:PE X e te):PS X (.Return (some e) pos) (Dn te):=by
 intro pins s σ H D I h
 exact wpAny_Return_some (thn (he pins s σ H _ I h) fun v s1 ⟨x,H1,I1,r1,q1⟩=>⟨x,σ,H1,I1,r1,q1⟩)
noncomputable def Fb (c:TT)(t u:TS):TS:=fun D σ H=>c σ H fun b H1=>if b=true then t D σ H1 else u D σ H1
theorem qb {c:Expr}{a b:List cn}{tc:TT}(hc:PT X c tc)(ha:PSs X a t)(hb:PSs X b u):PS X (.If c a b pos) (Fb tc t u):=by
 intro pins s σ H D I h
 refine wpAny_If (thn (hc pins s σ H _ I h) fun d s1 ⟨H1,I1,q1⟩=>?_)
 cases d with
 | true=>exact ha pins s1 σ H1 D I1 q1
 | false=>exact hb pins s1 σ H1 D I1 q1
noncomputable def Jx:TS:=fun _ _ _=>False
theorem Q8:PS X st Jx:=fun _ _ _ _ _ _ h=>h.elim
end
abbrev TG:=V->St->Hp->(St->Hp->Prop)->Prop
abbrev TGs:=List V->St->Hp->(St->Hp->Prop)->Prop
def PG (X:Cx)(target:Expr)(t:TG):Prop:=
 ∀ (pins:List (aE × Obj)) (s:ax) (σ:St) (H:Hp) (v:V) (u:am) (Q:St->Hp->Prop),Inv X pins σ H s->zC v u->t v σ H Q ->
  bg (bc X.prog X.w) X.A (lI target X.env u) (fun _ s'=>∃ σ' H',Inv X pins σ' H' s'/\Q σ' H') X.xe s
def PGs (X:Cx)(ts:List Expr)(t:TGs):Prop:=
 ∀ (pins:List (aE × Obj)) (s:ax) (σ:St) (H:Hp) (vs:List V) (us:List am) (Q:St->Hp->Prop),Inv X pins σ H s->zx vs us->t vs σ H Q ->
  bg (bc X.prog X.w) X.A (assignInOrder ((fk ts X.env).map (·.2)) us) (fun _ s'=>∃ σ' H',Inv X pins σ' H' s'/\Q σ' H') X.xe s
abbrev Ww:=V->V->V->Hp->(Hp->Prop)->Prop
def IP (X:Cx)(t:Ww):Prop:=
 ∀ (pins:List (aE × Obj)) (s:ax) (σ:St) (H:Hp) (o i v:V) (ov iv u:am) (Q:Hp->Prop),Inv X pins σ H s->zC o ov->zC i iv->zC v u->t o i v H Q ->
  bg (bc X.prog X.w) X.A (setItem ov iv u) (fun _ s'=>∃ H',Inv X pins σ H' s'/\Q H') X.xe s
abbrev TIp:=V->V->Hp->VK->Prop
section
variable {X:Cx}{pos:Pos}
noncomputable def yq (i:Nat):TG:=fun v σ H Q=>Q (σ.set i (some v)) H
variable {i:Nat}
theorem zE {x:Str}(hN:X.N.Nodup)(hi:X.N[i]?=some x)(hx:Loc X.env.scope x)(hf:X.fn x=true \/ X.env.scope.names.lookup x=some .local:=by first | exact .inl rfl | exact .inr rfl | assumption):PG X (.Name x pos) (yq i):=by
 intro pins s σ H v u Q I r h
 exact wpAny_assign_Name (yO I hN hi hx r (fun s' I'=>⟨_,H,I',h⟩) hf)
noncomputable def Hk:TGs:=fun vs σ H Q=>vs=[]/\Q σ H
noncomputable def W0 (t:TG)(u:TGs):TGs:=fun vs σ H Q=>∃ v r,vs=v :: r/\t v σ H fun σ' H'=>u r σ' H' Q
theorem jV:PGs X [] Hk:=by
 intro pins s σ H vs us Q I r h
 obtain ⟨e,h⟩:=h
 subst e
 cases r
 exact assignInOrder_nil ⟨σ,H,I,h⟩
theorem zZ {e:Expr}{es:List Expr}{t:TG}{u:TGs}(h1:PG X e t)(h2:PGs X es u)
  (hs:(fk (e :: es) X.env).map (·.2)=lI e X.env :: (fk es X.env).map (·.2):=by rfl):PGs X (e :: es) (W0 t u):=by
 intro pins s σ H vs us Q I r h
 obtain ⟨v,vr,e1,h⟩:=h
 subst e1
 cases r with
 | cons r rr=>
  rw [hs]
  refine assignInOrder_cons (thn (h1 pins s σ H _ _ _ I r h) fun _ s1 ⟨σ1,H1,I1,q1⟩=>?_)
  exact h2 pins s1 σ1 H1 _ _ Q I1 rr q1
noncomputable def BS (K:au)(n:Nat)(t:TGs):TG:=fun v σ H Q=>∃ a xs,v=.ref a/\SqT K H a xs/\xs.length=n/\t xs σ H Q
theorem Im {es:List Expr}{k:Nat}{t:TGs}{n:Nat}(hc:X.calm=true)(h:PGs X es t)
  (hn:(fk es X.env).length=n:=by rfl) (hst:(fk es X.env).findIdx? (·.1)=none:=by rfl):PG X (.Tuple es k pos) (BS X.K n t):=by
 intro pins s σ H v u Q I r hw
 obtain ⟨a,xs,e1,hq,hl,hw⟩:=hw
 subst e1
 cases r
 obtain ⟨its,rv,ht,hz⟩:=I.tuple hq
 refine assign_Tuple_tuple (I.ok.hd hc) ht (by simp [hn,<- hl,rv.length]) hst fun h' hx=>?_
 have I1:Inv X pins σ H { s with heap:=h' }:=I.kept (t':=s.toks) fun b o e=>hx b o (bE (aM e)) e
 exact h pins _ σ H xs _ Q I1 (by simpa using rv) hw
noncomputable def Ii (to ti:TE)(t:Ww):TG:=fun v σ H Q=>to σ H fun o H1=>ti σ H1 fun i H2=>t o i v H2 fun H3=>Q σ H3
theorem jT {o i:Expr}{to ti:TE}{t:Ww}(ho:PE X o to)(hi:PE X i ti)(hs:IP X t)
  (ha:∀ v,lI (.Subscript o i pos) X.env v=(do
   let ov <- holding [v] (eval o X.env)
   let iv <- holding [v,ov] (eval i X.env)
   lh pos
   holding [v,ov,iv] (setItem ov iv v)
   release [v,ov,iv] []):=by intro _;rfl):PG X (.Subscript o i pos) (Ii to ti t):=by
 intro pins s σ H v u Q I r h
 rw [ha]
 refine aF (e7 (thn (ho pins s σ H _ I h) fun ov s1 ⟨x,H1,I1,r1,q1⟩=>?_))
 refine aF (e7 (thn (hi pins s1 σ H1 _ I1 q1) fun iv s2 ⟨y,H2,I2,r2,q2⟩=>?_))
 refine aF (e8 (aF (e7 (thn (hs pins s2 σ H2 x y v ov iv u _ I2 r1 r2 r q2) fun _ s3 ⟨H3,I3,q3⟩=>?_))))
 exact wpAny_release ⟨σ,H3,I3,q3⟩
noncomputable def vJ (te:TE)(g:TG):TS:=fun D σ H=>te σ H fun x H1=>g x σ H1 D.nx
variable {te:TE}
theorem jN {tg e:Expr} {g:TG}(he:PE X e te)(hg:PG X tg g)(hs:swapsWithSole [tg] e pos.line X.env=pure false:=by rfl)(hw:swappedStores [tg] e X.env=pure none:=by rfl)
  (h1:(fk [tg] X.env).map (·.2)=[lI tg X.env]:=by rfl):PS X (.Assign [tg] e pos) (vJ te g):=by
 intro pins s σ H D I h
 refine wpAny_Assign_stores (thn (he pins s σ H _ I h) fun v s1 ⟨x,H1,I1,r1,q1⟩=>?_) hs hw
 rw [h1]
 exact thn (hg pins s1 σ H1 x v _ I1 r1 q1) fun _ s2 q=>q
theorem zw {x:Str} {pos':Pos}(hN:X.N.Nodup)(hi:X.N[i]?=some x)(hx:Loc X.env.scope x)(he:PE X e te)(hs:li e (some (.Name x pos')) pos.line X.env=pure false:=by rfl)(hf:X.fn x=true \/ X.env.scope.names.lookup x=some .local:=by first | exact .inl rfl | exact .inr rfl | assumption) :
  PS X (.Assign [.Name x pos'] e pos) (vJ te (yq i)):=by
 intro pins s σ H D I h
 refine wpAny_Assign_Name (thn (he pins s σ H _ I h) fun v s1 ⟨y,H1,I1,r1,q1⟩=>?_) hs
 exact yO I1 hN hi hx r1 (fun s2 I2=>⟨_,H1,I2,q1⟩) hf
end
section
variable {X:Cx}{pos:Pos}
noncomputable def JP (c:TT)(tb:TS):TS:=fun D σ H=>∃ W:Nat->St->Hp->Prop,(∃ m,W m σ H)/\∀ m σ H,W m σ H ->
 c σ H fun b H1=>if b=true then ∃ N:St->Hp->Prop,(∀ σ' H',N σ' H'->∃ m',m'<m/\W m' σ' H')/\tb { D with nx:=N,ct:=N,bk:=D.nx } σ H1 else D.nx σ H1
theorem Jf {c:Expr}{body:List cn}{tc:TT}{tb:TS}(hp:du (bc X.prog X.w) X.A X.env X.xe)(hc:PT X c tc)(hb:PSs X body tb):PS X (.While c body [] pos) (JP tc tb):=by
 intro pins s σ H D I h
 obtain ⟨W,⟨m0,w0⟩,turn⟩:=h
 refine wpAny_While (codeAny_whileLoop (fun n s'=>∃ σ' H',Inv X pins σ' H' s'/\W n σ' H') ?_ m0 ⟨σ,H,I,w0⟩)
 rintro n s1 ⟨σ1,H1,I1,w1⟩
 refine dC hp (thn (hc pins s1 σ1 H1 _ I1 (turn n σ1 H1 w1)) fun b s2 ⟨H2,I2,q2⟩=>?_)
 cases b with
 | true=>
  obtain ⟨N,hN,q2⟩:=q2
  rw [if_pos rfl]
  refine dC hp (thn (hb pins s2 σ1 H2 _ I2 q2) fun f s3 q3=>?_)
  cases f with
  | next=>
   obtain ⟨σ3,H3,I3,n3⟩:=q3
   obtain ⟨m',hm,w3⟩:=hN σ3 H3 n3
   exact ⟨m',hm,σ3,H3,I3,w3⟩
  | cont=>
   obtain ⟨σ3,H3,I3,n3⟩:=q3
   obtain ⟨m',hm,w3⟩:=hN σ3 H3 n3
   exact ⟨m',hm,σ3,H3,I3,w3⟩
  | brk=>exact q3
  | ret v=>exact q3
 | false=>
  rw [if_neg bK]
  exact fc ⟨σ1,H2,I2,q2⟩
end
structure It where
 go:Nat->Hp->Prop
 yld:Nat->Hp->V->Hp->Prop
 stop:Nat->Hp->Prop
def yu (X:Cx)(pins:List (aE × Obj))(H:Hp)(b:aE):Prop:=
 H b=none/\b ≠ X.env.locals/\b ∉ X.fs/\(b ∈ X.ex \/ X.s₀.heap.objs.size<=b)/\(∀ x c,X.env.cells.lookup x=some c->c ≠ b)/\∀ p ∈ X.pn ++ pins,p.1 ≠ b
variable {pins:List (aE × Obj)} {σ:St}
theorem Inv.fpOk {H H':Hp} (I:Inv X pins σ H s)(hb:s.heap.objs.size<=b)(hn:H' b=none):yu X pins H' b:=by
 refine ⟨hn,dF (bt I.lt hb),I.nofs hb,.inr (bu I.sz hb),fun x c e z=>?_,fun p hp z=>?_⟩
 ·obtain ⟨v,q⟩:=I.cell x c e
  exact absurd (bt q.lt (by rw [z];exact hb)) (cY _)
 ·exact absurd (bt (aM (I.pin p hp).1) (by rw [z];exact hb)) (cY _)
structure ZK (P:bf)(w:bC)(K:au)(tg:Expr)(J:It)(fp:List aE)(it:aE)(tn:Nat->Heap->Prop):Prop where
 mem:it ∈ fp
 obj:∀ i h,tn i h->∀ b ∈ fp,∃ o,h.get? b=some o/\∀ v,o.data ≠ .cell v
 keep:∀ i h h',tn i h->(∀ b ∈ fp,∀ o,h.get? b=some o->h'.get? b=some o)->tn i h'
 item:∀ (X:Cx),X.prog=P->X.w=w->X.K=K->X.calm=true->∀ (i:Nat) (pins:List (aE × Obj)) (s:ax) (σ:St) (H:Hp) (E:am->ax->Prop),Inv X pins σ H s->(∀ b ∈ fp,yu X pins H b)->tn i s.heap->J.go i H ->
  bg (bc P w) X.A (iU (.ref it)) (fun r s1=>∃ u,r=some u /\
   bg (bc P w) X.A (gv tg (.ref it) u) (fun _ s2=>∃ x H',Inv X pins σ H' s2/\zC x u/\J.yld i H x H'/\tn (i+1) s2.heap/\∀ b ∈ fp,H' b=none) E s1) E s
 done:∀ (X:Cx),X.prog=P->X.w=w->X.K=K->X.calm=true->∀ (i:Nat) (pins:List (aE × Obj)) (s:ax) (σ:St) (H:Hp) (E:am->ax->Prop),Inv X pins σ H s->(∀ b ∈ fp,yu X pins H b)->tn i s.heap->J.stop i H ->
  bg (bc P w) X.A (iU (.ref it)) (fun r s1=>r=none/\Inv X pins σ H s1) E s
 self:∀ (A:bo) (i:Nat) (s:ax) (Q:am->ax->Prop) (E:am->ax->Prop),tn i s.heap->Q (.ref it) s->bg (bc P w) A (pyIter (.ref it)) Q E s
abbrev TI:=St->Hp->(It->Hp->Prop)->Prop
def PIE (X:Cx)(pins:List (aE × Obj))(σ:St)(tg:Expr)(R:It->Hp->Prop)(itv:am)(s2:ax):Prop:=
 ∃ (it:aE) (fp:List aE) (tn:Nat->Heap->Prop) (J:It) (H':Hp),itv=.ref it/\Inv X pins σ H' s2/\ZK X.prog X.w X.K tg J fp it tn/\tn 0 s2.heap/\(∀ b ∈ fp,yu X pins H' b)/\R J H'
def PI (X:Cx)(tg iter:Expr)(wi:TI):Prop:=
 ∀ (pins:List (aE × Obj)) (s:ax) (σ:St) (H:Hp) (R:It->Hp->Prop),Inv X pins σ H s->wi σ H R ->
  bg (bc X.prog X.w) X.A (eval iter X.env) (fun v s1=>bg (bc X.prog X.w) X.A (pyIter v) (PIE X pins σ tg R) X.xe s1) X.xe s
theorem Xl {M : mM}{A : bo}{E : am -> ax -> Prop}{s : ax}{tg : Expr}{it : aE}{u : am}{o : Obj}{n : String}{vs : Array am}{Q : Unit -> ax -> Prop}(ho : s.heap.get? it = some o)(hc : o.cls = .type n)(hd : o.data = .fields vs)
    (hn:["enumerate","zip","dict_itemiterator","dict_reverseitemiterator","odict_iterator","itertools.zip_longest","itertools.pairwise"].contains n=false) (hQ:Q () s):bg M A (gv tg (.ref it) u) Q E s:=by
  unfold gv
  cases tg <;> first
    | exact bh hQ
    | (cases u <;> first
        | exact bh hQ
        | (refine aF (wpAny_load ho ?_)
           rw [hc,hd]
           show bg M A (if (["enumerate","zip","dict_itemiterator","dict_reverseitemiterator","odict_iterator","itertools.zip_longest","itertools.pairwise"].contains n && vs[0]? == some (hX _))=true then _ else _) Q E s
           rw [if_neg (by intro h;rw [hn,Bool.false_and] at h;cases h)]
           exact bh hQ))
noncomputable def Itl (K:au)(a:aE):It:=
 ⟨fun i H=>∃ xs x,SqL K H a xs/\xs[i]?=some x,fun i H x H'=>H'=H/\∀ xs,SqL K H a xs->xs[i]?=some x,fun i H=>∃ xs,SqL K H a xs/\xs.length<=i⟩
noncomputable def Itt (K:au)(a:aE):It:=
 ⟨fun i H=>∃ xs x,SqT K H a xs/\xs[i]?=some x,fun i H x H'=>H'=H/\∀ xs,SqT K H a xs->xs[i]?=some x,fun i H=>∃ xs,SqT K H a xs/\xs.length<=i⟩
noncomputable def Itr (lo:Int)(n:Nat):It:=⟨fun i _=>i<n,fun i H x H'=>H'=H/\x=.int (lo+i),fun i _=>n<=i⟩
variable {K:au} {tg:Expr}
theorem wj (a it:aE):ZK P w K tg (Itl K a) [it] it (fun i h=>h.IsListIter it a i) where
 mem:=by simp
 obj:=fun i h st b hb=>by
  have e:b=it:=by simpa using hb
  subst e
  obtain ⟨o,e,c,d⟩:=st
  exact ⟨o,e,fun v z=>by rw [d] at z;cases z⟩
 keep:=fun i h h' st k=>st.at fun o e=>k it (by simp) o e
 item:=by
  intro X hP hw hK hc i pins s σ H E I hf st hg
  subst hP hw hK
  obtain ⟨xs,x,hq,hx⟩:=hg
  obtain ⟨its,rv,p,hz⟩:=I.list hq
  obtain ⟨u,hu,ru⟩:=rv.get hx
  obtain ⟨f0,f1,f2,f3,f4,f5⟩:=hf it (by simp)
  refine wpAny_pyNext_list_item st p.isList (x:=u) (by simpa using hu) fun h' st' sb=>?_
  have I1:Inv X pins σ H { s with heap:=h' }:=I.turned (t':=s.toks) (fun b o hb e=>(sb.2 b hb).trans e) f0 f1 f3 f4 f5
  obtain ⟨o,e,c,d⟩:=id st'
  exact ⟨u,rfl,Xl (s:={ s with heap:=h' }) e c d (by decide) ⟨x,H,I1,ru,⟨rfl,fun ys hy=>by rw [I.list_inj hy hq];exact hx⟩,st',fun b hb=>(hf b hb).1⟩⟩
 done:=by
  intro X hP hw hK hc i pins s σ H E I hf st hg
  subst hP hw hK
  obtain ⟨xs,hq,hx⟩:=hg
  obtain ⟨its,rv,p,hz⟩:=I.list hq
  obtain ⟨f0,f1,f2,f3,f4,f5⟩:=hf it (by simp)
  have hl:=rv.length
  exact wpAny_pyNext_list_end (I.ok.hd hc) st p.isList (by simp;omega) fun h' eb=>⟨rfl,I.turned (t':=s.toks) (fun b o hb e=>eb b o hb e) f0 f1 f3 f4 f5⟩
 self:=fun _ _ _ _ _ st h=>wpAny_pyIter_listiter st h
theorem JC (a it:aE):ZK P w K tg (Itt K a) [it] it (fun i h=>h.IsTupleIter it a i) where
 mem:=by simp
 obj:=fun i h st b hb=>by
  have e:b=it:=by simpa using hb
  subst e
  obtain ⟨o,e,c,d⟩:=st
  exact ⟨o,e,fun v z=>by rw [d] at z;cases z⟩
 keep:=fun i h h' st k=>st.at fun o e=>k it (by simp) o e
 item:=by
  intro X hP hw hK hc i pins s σ H E I hf st hg
  subst hP hw hK
  obtain ⟨xs,x,hq,hx⟩:=hg
  obtain ⟨its,rv,p,hz⟩:=I.tuple hq
  obtain ⟨u,hu,ru⟩:=rv.get hx
  obtain ⟨f0,f1,f2,f3,f4,f5⟩:=hf it (by simp)
  refine wpAny_pyNext_tuple_item st (show s.heap.IsTuple a its.toArray from p) (x:=u) (by simpa using hu) fun h' st' sb=>?_
  have I1:Inv X pins σ H { s with heap:=h' }:=I.turned (t':=s.toks) (fun b o hb e=>(sb.2 b hb).trans e) f0 f1 f3 f4 f5
  obtain ⟨o,e,c,d⟩:=id st'
  exact ⟨u,rfl,Xl (s:={ s with heap:=h' }) e c d (by decide) ⟨x,H,I1,ru,⟨rfl,fun ys hy=>by rw [I.tuple_inj hy hq];exact hx⟩,st',fun b hb=>(hf b hb).1⟩⟩
 done:=by
  intro X hP hw hK hc i pins s σ H E I hf st hg
  subst hP hw hK
  obtain ⟨xs,hq,hx⟩:=hg
  obtain ⟨its,rv,p,hz⟩:=I.tuple hq
  obtain ⟨f0,f1,f2,f3,f4,f5⟩:=hf it (by simp)
  have hl:=rv.length
  exact wpAny_pyNext_tuple_end (I.ok.hd hc) st (show s.heap.IsTuple a its.toArray from p) (by simp;omega) fun h' eb=>⟨rfl,I.turned (t':=s.toks) (fun b o hb e=>eb b o hb e) f0 f1 f3 f4 f5⟩
 self:=fun _ _ _ _ _ st h=>wpAny_pyIter_tupleiter st h
theorem Ka (it:aE)(lo:Int)(n:Nat):ZK P w K tg (Itr lo n) [it] it (fun i h=>IsRangeIter h it (lo+(i:Nat) * 1) ((n:Int) - (i:Nat)) 1) where
 mem:=by simp
 obj:=fun i h st b hb=>by
  have e:b=it:=by simpa using hb
  subst e
  exact ⟨_,st,fun v z=>by
   have z':dr _=ft v:=z
   cases z'⟩
 keep:=fun i h h' st k=>k it (by simp) _ st
 item:=by
  intro X hP hw hK hc i pins s σ H E I hf st hg
  subst hP hw hK
  obtain ⟨f0,f1,f2,f3,f4,f5⟩:=hf it (by simp)
  have W:=Walks.range (prog:=X.prog) (w:=X.w) (I.ok.hd hc) it lo 1 n
  refine W.item i s _ _ hg st fun v h' tk hv st' kk=>?_
  obtain ⟨t,rfl⟩:=hv
  have I1:Inv X pins σ H { s with heap:=h',toks:=tk }:=I.turned (fun b o hb e=>kk b o (by simpa using hb) e) f0 f1 f3 f4 f5
  refine ⟨_,rfl,Xl (s:={ s with heap:=h',toks:=tk }) (n:="range_iterator") st' rfl rfl (by decide) ⟨.int (lo+i),H,I1,⟨t,?_⟩,⟨rfl,rfl⟩,st',fun b hb=>(hf b hb).1⟩⟩
  rw [iV]
 done:=by
  intro X hP hw hK hc i pins s σ H E I hf st hg
  subst hP hw hK
  obtain ⟨f0,f1,f2,f3,f4,f5⟩:=hf it (by simp)
  exact wpAny_pyNext_range_end (I.ok.hd hc) st (by have:n<=i:=hg;omega) fun h' eb=>⟨rfl,I.turned (t':=s.toks) (fun b o hb e=>eb b o hb e) f0 f1 f3 f4 f5⟩
 self:=fun _ _ _ _ _ st h=>wpAny_pyIter_rangeiter st h
section
variable {X:Cx}{tg:Expr}
noncomputable def Ft (K:au)(tl:TE):TI:=fun σ H R=>tl σ H fun x H1=>∃ a,x=.ref a/\(∃ xs,SqL K H1 a xs)/\R (Itl K a) H1
theorem EU {l:Expr}{tl:TE}(hl:PE X l tl):PI X tg l (Ft X.K tl):=by
 intro pins s σ H R I h
 refine thn (hl pins s σ H _ I h) fun v s1 ⟨x,H1,I1,r1,q1⟩=>?_
 obtain ⟨a,e,⟨xs,hq⟩,q⟩:=q1
 subst e
 cases r1
 obtain ⟨its,rv,p,hz⟩:=I1.list hq
 refine gZ p.isList ?_
 refine ⟨s1.heap.objs.size,[s1.heap.objs.size],_,_,H1,rfl,I1.kept (t':=s1.toks) fun b o e=>aG _ e,wj a _,⟨_,aY _ rfl,rfl,rfl⟩,fun b hb=>?_,q⟩
 have e:b=s1.heap.objs.size:=by simpa using hb
 subst e
 exact I1.fpOk (aL _) (I1.hok.fresh (aL _))
theorem WP {R:It->Hp->Prop} {lo hi:Int}{t u v:Tok}{tk:Nat}(I:Inv X pins σ H s)(h1:-(2 ^ 62)<=lo)(h2:lo<2 ^ 62)(h3:-(2 ^ 62)<=hi)(h4:hi<2 ^ 62)
  (q:R (Itr lo (hi - lo).toNat) H):bg (bc X.prog X.w) X.A (pyIter (.ref s.heap.objs.size)) (PIE X pins σ tg R) E { s with heap:=s.heap.push { cls:=.type "range",data:=.fields #[.int lo t,.int hi u,.int 1 v] },toks:=tk }:=by
 refine wpAny_pyIter_range (IsRange.new ..) (small_one h1 h2 h3 h4) ?_
 have I1:Inv X pins σ H { s with heap:=s.heap.push { cls:=.type "range",data:=.fields #[.int lo t,.int hi u,.int 1 v] },toks:=tk }:=I.kept fun b o e=>aG _ e
 refine ⟨(s.heap.push { cls:=.type "range",data:=.fields #[.int lo t,.int hi u,.int 1 v] }).objs.size,[(s.heap.push { cls:=.type "range",data:=.fields #[.int lo t,.int hi u,.int 1 v] }).objs.size],_,_,H,rfl,
  I1.kept (t':=tk) fun b o e=>aG _ e,Ka _ lo (hi - lo).toNat,?_,fun b hb=>?_,q⟩
 ·have e1:lo+((0:Nat):Int) * 1=lo:=by simp
  have e2:(((hi - lo).toNat:Nat):Int) - ((0:Nat):Int)=dh lo hi 1:=by rw [rangeSize_one];split <;> omega
  show IsRangeIter _ _ (lo+((0:Nat):Int) * 1) ((((hi - lo).toNat:Nat):Int) - ((0:Nat):Int)) 1
  rw [e1,e2]
  exact aY _ rfl
 ·have e:b=(s.heap.push { cls:=.type "range",data:=.fields #[.int lo t,.int hi u,.int 1 v] }).objs.size:=by simpa using hb
  subst e
  exact I1.fpOk (aL _) (I1.hok.fresh (aL _))
noncomputable def BO (ta:TA):TI:=fun σ H R=>ta σ H fun vs H1=>∃ j:Int,vs=[.int j]/\-(2 ^ 62)<=j/\j<2 ^ 62/\R (Itr 0 j.toNat) H1
theorem xV {a:Expr}{ta:TA}{p pos:Pos}(hg:Gl X "range")(hm:X.mg "range"=none)(ha:PA X [a] ta)(hs:bi [a] X.env=[(false,eval a X.env)]:=by rfl):PI X tg (.Call (.Name "range" p) [a] [] pos) (BO ta):=by
 intro pins s σ H R I h
 refine Call_ (kX I hg hm boot_range (cM (thn (ha pos pins s σ H _ I h) fun us s1 ⟨vs,H1,I1,r1,q1⟩=>?_) hs rfl))
 obtain ⟨j,e,q1,q2,q⟩:=q1
 subst e
 cases r1 with
 | cons r rr=>
  cases rr
  obtain ⟨t,rfl⟩:=r
  exact call_range_1 (WP I1 (by omega) (by omega) q1 q2 (by simpa using q))
noncomputable def Ea (wi:TI)(g:TG)(tb:TS):TS:=fun D σ H=>wi σ H fun J H1=>∃ W:Nat->Nat->St->Hp->Prop,(∃ m,W 0 m σ H1)/\∀ i m σ H,W i m σ H ->
 (J.stop i H/\D.nx σ H) \/ (J.go i H/\∃ N:St->Hp->Prop,(∀ σ' H',N σ' H'->∃ m',m'<m/\W (i+1) m' σ' H')/\∀ x H',J.yld i H x H'->g x σ H' fun σ2 H2=>tb { D with nx:=N,ct:=N,bk:=D.nx } σ2 H2)
noncomputable def yU (fp:List aE)(h:Heap):List (aE × Obj):=fp.filterMap fun b=>(h.get? b).map fun o=>(b,o)
variable {fp:List aE}
theorem jO {o:Obj}(hb:b ∈ fp)(e:h.get? b=some o):(b,o) ∈ yU fp h:=gI.mpr ⟨b,hb,by rw [e];rfl⟩
theorem YF {fp:List aE}{h:Heap}{p:aE × Obj}(hp:p ∈ yU fp h):p.1 ∈ fp/\h.get? p.1=some p.2:=by
 obtain ⟨b,hb,e⟩:=gI.mp hp
 cases q:h.get? b with
 | none=>rw [q] at e;cases e
 | some o=>
  rw [q] at e
  have e':(b,o)=p:=bO e
  subst e'
  exact ⟨hb,q⟩
theorem Inv.pinned (I:Inv X pins σ H s)(hf:∀ b ∈ fp,yu X pins H b)(ho:∀ b ∈ fp,∃ o,s.heap.get? b=some o/\∀ v,o.data ≠ .cell v):Inv X (pins ++ yU fp s.heap) σ H s:=
 I.pins_of fun p hp=>(cq.mp hp).elim (fun z=>I.pin p (bS _ z)) fun z=>by
  obtain ⟨hb,e⟩:=YF z
  obtain ⟨f0,f1,f2,_⟩:=hf p.1 hb
  obtain ⟨o,e',d⟩:=ho p.1 hb
  rw [e] at e';cases e'
  exact ⟨e,f0,f1,f2,d⟩
theorem Inv.unpinned {pins pl:List (aE × Obj)} (I:Inv X (pins ++ pl) σ H s):Inv X pins σ H s:=I.pins_of fun p hp=>I.pin p (bS _ (dE _ hp))
theorem jW {iter:Expr}{body:List cn}{wi:TI}{g:TG}{tb:TS}{pos:Pos}(hp:du (bc X.prog X.w) X.A X.env X.xe)(hc:X.calm=true)(hi:PI X tg iter wi)(hg:PG X tg g)(hb:PSs X body tb)
  (hs:∀ x,fw iter X.env x=pure x:=by intro _;rfl):PS X (.For tg iter body [] pos) (Ea wi g tb):=by
 intro pins s σ H D I h
 refine wpAny_For (thn (hi pins s σ H _ I h) fun v s1 h1=>thn h1 fun itv s2 h2=>?_) hs
 obtain ⟨it,fp,tn,J,H2,e,I2,T,st2,f2,W,⟨m0,w0⟩,turn⟩:=h2
 subst e
 have stat:∀ {H':Hp},(∀ b ∈ fp,H' b=none)->∀ b ∈ fp,yu X pins H' b:=fun hn b hb=>⟨hn b hb,(f2 b hb).2⟩
 refine codeAny_forLoop_any (fun n s'=>∃ i σ' H',Inv X pins σ' H' s'/\tn i s'.heap/\(∀ b ∈ fp,H' b=none)/\W i n σ' H') ?_ m0 ⟨0,σ,H2,I2,st2,fun b hb=>(f2 b hb).1,w0⟩
 rintro n s3 ⟨i,σ3,H3,I3,st3,fr3,w3⟩
 rcases turn i n σ3 H3 w3 with ⟨stop,qn⟩ | ⟨go,N,hN,step⟩
 ·refine dC hp (thn (T.done X rfl rfl rfl hc i pins s3 σ3 H3 X.xe I3 (stat fr3) st3 stop) fun r s4 ⟨hr,I4⟩=>?_)
  subst hr
  exact fc ⟨σ3,H3,I4,qn⟩
 ·refine dC hp (thn (T.item X rfl rfl rfl hc i pins s3 σ3 H3 X.xe I3 (stat fr3) st3 go) fun r s4 ⟨u,hr,h4⟩=>?_)
  subst hr
  refine dC hp (thn h4 fun _ s5 ⟨x,H5,I5,r5,y5,st5,fr5⟩=>?_)
  have I5':=I5.pinned (stat fr5) (T.obj _ _ st5)
  refine dC hp (thn (hg _ s5 σ3 H5 x u _ I5' r5 (step x H5 y5)) fun _ s6 ⟨σ6,H6,I6,q6⟩=>?_)
  refine dC hp (thn (hb _ s6 σ6 H6 _ I6 q6) fun f s7 q7=>?_)
  have again:∀ {σ7:St} {H7:Hp},Inv X (pins ++ yU fp s5.heap) σ7 H7 s7->N σ7 H7->∃ m,m<n/\∃ i σ' H',Inv X pins σ' H' s7/\tn i s7.heap/\(∀ b ∈ fp,H' b=none)/\W i m σ' H':=fun {σ7 H7} I7 n7=>by
   obtain ⟨m',hm,w7⟩:=hN σ7 H7 n7
   refine ⟨m',hm,i+1,σ7,H7,I7.unpinned,T.keep _ _ _ st5 fun b hb o e=>(I7.pin (b,o) (bS _ (bS _ (jO hb e)))).1,fun b hb=>?_,w7⟩
   obtain ⟨o,e,d⟩:=T.obj _ _ st5 b hb
   exact (I7.pin (b,o) (bS _ (bS _ (jO hb e)))).2.1
  cases f with
  | next=>obtain ⟨σ7,H7,I7,n7⟩:=q7;exact again I7 n7
  | cont=>obtain ⟨σ7,H7,I7,n7⟩:=q7;exact again I7 n7
  | brk=>obtain ⟨σ7,H7,I7,q7⟩:=q7;exact ⟨σ7,H7,I7.unpinned,q7⟩
  | ret v=>obtain ⟨x7,σ7,H7,I7,r7,q7⟩:=q7;exact ⟨x7,σ7,H7,I7.unpinned,r7,q7⟩
end
variable {g:TG} {tb:TS} {D:jr}
theorem BQ (Pv:Nat->St->Hp->Prop)(h0:Pv 0 σ H)(hl:∀ i σ H,i<=xs.length->Pv i σ H->SqL K H a xs)
  (hs:∀ i x σ H,xs[i]?=some x->Pv i σ H->g x σ H fun σ2 H2=>tb { D with nx:=Pv (i+1),ct:=Pv (i+1),bk:=D.nx } σ2 H2) (hd:∀ σ H,Pv xs.length σ H->D.nx σ H) :
  ∃ W:Nat->Nat->St->Hp->Prop,(∃ m,W 0 m σ H)/\∀ i m σ H,W i m σ H ->
   ((Itl K a).stop i H/\D.nx σ H) \/ ((Itl K a).go i H/\∃ N:St->Hp->Prop,(∀ σ' H',N σ' H'->∃ m',m'<m/\W (i+1) m' σ' H')/\∀ x H',(Itl K a).yld i H x H'->g x σ H' fun σ2 H2=>tb { D with nx:=N,ct:=N,bk:=D.nx } σ2 H2):=by
 refine ⟨fun i m σ H=>m=xs.length - i/\i<=xs.length/\Pv i σ H,⟨xs.length,by simp,cb _,h0⟩,?_⟩
 rintro i m σ H ⟨rfl,hi,p⟩
 have q:=hl i σ H hi p
 by_cases hlt:i<xs.length
 ·refine .inr ⟨⟨xs,xs[i],q,by simp [hlt]⟩,Pv (i+1),fun σ' H' p'=>⟨xs.length - (i+1),by omega,rfl,hlt,p'⟩,fun x H' y=>?_⟩
  obtain ⟨e,y⟩:=y
  subst e
  exact hs i x σ _ (y xs q) p
 ·have e:i=xs.length:=by omega
  subst e
  exact .inl ⟨⟨xs,q,aL _⟩,hd σ H p⟩
variable {n:Nat}
theorem Yi {lo:Int} (Pv:Nat->St->Hp->Prop)(h0:Pv 0 σ H)
  (hs:∀ i σ H,i<n->Pv i σ H->g (.int (lo+i)) σ H fun σ2 H2=>tb { D with nx:=Pv (i+1),ct:=Pv (i+1),bk:=D.nx } σ2 H2) (hd:∀ σ H,Pv n σ H->D.nx σ H) :
  ∃ W:Nat->Nat->St->Hp->Prop,(∃ m,W 0 m σ H)/\∀ i m σ H,W i m σ H ->
   ((Itr lo n).stop i H/\D.nx σ H) \/ ((Itr lo n).go i H/\∃ N:St->Hp->Prop,(∀ σ' H',N σ' H'->∃ m',m'<m/\W (i+1) m' σ' H')/\∀ x H',(Itr lo n).yld i H x H'->g x σ H' fun σ2 H2=>tb { D with nx:=N,ct:=N,bk:=D.nx } σ2 H2):=by
 refine ⟨fun i m σ H=>m=n - i/\i<=n/\Pv i σ H,⟨n,by simp,cb _,h0⟩,?_⟩
 rintro i m σ H ⟨rfl,hi,p⟩
 by_cases hlt:i<n
 ·refine .inr ⟨hlt,Pv (i+1),fun σ' H' p'=>⟨n - (i+1),by omega,rfl,hlt,p'⟩,fun x H' y=>?_⟩
  obtain ⟨e,y⟩:=y
  subst e y
  exact hs i σ _ hlt p
 ·have e:i=n:=by omega
  subst e
  exact .inl ⟨aL _,hd σ H p⟩
theorem Wa {c:TT}{tb:TS}{D:jr}{σ:St}{H:Hp}(Pv:St->Hp->Prop)(μ:St->Hp->Nat)(h0:Pv σ H)
  (hs:∀ σ H,Pv σ H->c σ H fun b H1=>if b=true then tb { D with nx:=fun σ' H'=>Pv σ' H'/\μ σ' H'<μ σ H,ct:=fun σ' H'=>Pv σ' H'/\μ σ' H'<μ σ H,bk:=D.nx } σ H1 else D.nx σ H1)
  (mono:∀ σ H Q Q',(∀ b H1,Q b H1->Q' b H1)->c σ H Q->c σ H Q'):JP c tb D σ H:=by
 refine ⟨fun m σ H=>m=μ σ H/\Pv σ H,⟨_,rfl,h0⟩,?_⟩
 rintro m σ H ⟨rfl,p⟩
 refine mono σ H _ _ (fun b H1 q=>?_) (hs σ H p)
 cases b with
 | true=>exact ⟨_,fun σ' H' ⟨p',l⟩=>⟨_,l,rfl,p'⟩,q⟩
 | false=>exact q
abbrev R2:=V->V->Hp->VK->Prop
def OpR (X:Cx)(f:am->am->Sem am)(r:R2):Prop:=
 ∀ (pins:List (aE × Obj)) (s:ax) (σ:St) (H:Hp) (x y:V) (v u:am) (Q:VK),Inv X pins σ H s->zC x v->zC y u->r x y H Q ->
  bg (bc X.prog X.w) X.A (f v u) (EP X pins σ Q) X.xe s
def UnR (X:Cx)(f:am->Sem am)(r:V->Hp->VK->Prop):Prop:=
 ∀ (pins:List (aE × Obj)) (s:ax) (σ:St) (H:Hp) (x:V) (v:am) (Q:VK),Inv X pins σ H s->zC x v->r x H Q ->
  bg (bc X.prog X.w) X.A (f v) (EP X pins σ Q) X.xe s
def qB (X:Cx)(f:am)(r:List V->Hp->VK->Prop):Prop:=
 ∀ (pins:List (aE × Obj)) (s:ax) (σ:St) (H:Hp) (xs:List V) (us:List am) (Q:VK),Inv X pins σ H s->zx xs us->r xs H Q ->
  bg (bc X.prog X.w) X.A (call f us) (EP X pins σ Q) X.xe s
noncomputable def tOp (r:R2)(ta tb:TE):TE:=fun σ H Q=>ta σ H fun x H1=>tb σ H1 fun y H2=>r x y H2 Q
noncomputable def tUn (r:V->Hp->VK->Prop)(ta:TE):TE:=fun σ H Q=>ta σ H fun x H1=>r x H1 Q
noncomputable def rI (C:Int->Int->Prop)(g:Int->Int->V):R2:=fun x y H Q=>∃ i j,x=.int i/\y=.int j/\C i j/\Q (g i j) H
noncomputable def rI0 (g:Int->Int->V):R2:=fun x y H Q=>∃ i j,x=.int i/\y=.int j/\Q (g i j) H
noncomputable def rU (g:Int->V):V->Hp->VK->Prop:=fun x H Q=>∃ i,x=.int i/\Q (g i) H
section
variable {X:Cx}{a b c:Expr}{ta tb tc:TE}{pos:Pos}
variable {f:am->am->Sem am}
theorem Ie (ha:PE X a ta)(hb:PE X b tb) {R:V->V->Hp->Prop}(I:Inv X pins σ H s)
  (h:ta σ H fun x H1=>tb σ H1 fun y H2=>R x y H2) {Q:am->ax->Prop}
  (hf:∀ v u s2 x y H2,Inv X pins σ H2 s2->zC x v->zC y u->R x y H2->bg (bc X.prog X.w) X.A (f v u) Q X.xe s2) :
  bg (bc X.prog X.w) X.A (eval a X.env) (fun v s₁=>bg (bc X.prog X.w) X.A (eval b X.env) (fun u s₂=>bg (bc X.prog X.w) X.A (f v u) Q X.xe s₂) X.xe s₁) X.xe s:=by
 refine thn (ha pins s σ H _ I h) fun v s1 ⟨x,H1,I1,r1,q1⟩=>?_
 refine thn (hb pins s1 σ H1 _ I1 q1) fun u s2 ⟨y,H2,I2,r2,q2⟩=>?_
 exact hf v u s2 x y H2 I2 r1 r2 q2
theorem zu {op:Operator}{r:R2}(ho:OpR X (e9 op) r)(ha:PE X a ta)(hb:PE X b tb):PE X (.BinOp a op b pos) (tOp r ta tb):=by
 intro pins s σ H Q I h
 exact wpAny_BinOp (Ie ha hb I h fun v u s2 x y H2 I2 rx ry q=>ho pins s2 σ H2 x y v u Q I2 rx ry q)
theorem Mv {op:UnaryOp}{r:V->Hp->VK->Prop}(ho:UnR X (unaryOp op) r)(ha:PE X a ta):PE X (.UnaryOp op a pos) (tUn r ta):=by
 intro pins s σ H Q I h
 exact UnaryOp_ (thn (ha pins s σ H _ I h) fun v s1 ⟨x,H1,I1,r1,q1⟩=>ho pins s1 σ H1 x v Q I1 r1 q1)
theorem opI {C:Int->Int->Prop}{g:Int->Int->Int}
  (rule:∀ (i j:Int) (t u:Tok) (s:ax) (Q:am->ax->Prop) (E:am->ax->Prop),C i j->Q (.int (g i j) s.toks) { s with toks:=s.toks+1 }->bg (bc X.prog X.w) X.A (f (.int i t) (.int j u)) Q E s) :
  OpR X f (rI C fun i j=>.int (g i j)):=by
 intro pins s σ H x y v u Q I rx ry h
 obtain ⟨i,j,rfl,rfl,hc,q⟩:=h
 obtain ⟨t,rfl⟩:=rx
 obtain ⟨t',rfl⟩:=ry
 exact rule i j t t' s _ _ hc ⟨.int (g i j),H,I.tok _,⟨_,rfl⟩,q⟩
theorem Lh {g:Int->Int->Int}
  (rule:∀ (i j:Int) (t u:Tok) (s:ax) (Q:am->ax->Prop) (E:am->ax->Prop),Q (.int (g i j) s.toks) { s with toks:=s.toks+1 }->bg (bc X.prog X.w) X.A (f (.int i t) (.int j u)) Q E s) :
  OpR X f (rI0 fun i j=>.int (g i j)):=by
 intro pins s σ H x y v u Q I rx ry h
 obtain ⟨i,j,rfl,rfl,q⟩:=h
 obtain ⟨t,rfl⟩:=rx
 obtain ⟨t',rfl⟩:=ry
 exact rule i j t t' s _ _ ⟨.int (g i j),H,I.tok _,⟨_,rfl⟩,q⟩
theorem DQ {g:Int->Int->Bool}
  (rule:∀ (i j:Int) (t u:Tok) (s:ax) (Q:am->ax->Prop) (E:am->ax->Prop),Q (.bool (g i j)) s->bg (bc X.prog X.w) X.A (f (.int i t) (.int j u)) Q E s) :
  OpR X f (rI0 fun i j=>.bl (g i j)):=by
 intro pins s σ H x y v u Q I rx ry h
 obtain ⟨i,j,rfl,rfl,q⟩:=h
 obtain ⟨t,rfl⟩:=rx
 obtain ⟨t',rfl⟩:=ry
 exact rule i j t t' s _ _ ⟨.bl (g i j),H,I,rfl,q⟩
def HU (i j:Int):Prop:=0<j/\j<1073741824
def MQ (i j:Int):Prop:=0<=j/\j<=1000000/\i.natAbs<2 ^ 64
def Wj (i j:Int):Prop:=(-(2 ^ 64)<i/\i<2 ^ 64) \/ (-(2 ^ 64)<j/\j<2 ^ 64)
theorem Wj.ok {i j:Int}(h:Wj i j):IntMulOk i j:=by
 rcases h with ⟨h1,h2⟩ | ⟨h1,h2⟩
 ·exact .of_left (intBits_le_64 h1 h2)
 ·exact .of_right (intBits_le_64 h1 h2)
theorem qf:OpR X (e9 .Add) (rI0 fun i j=>.int (i+j)):=Lh fun _ _ _ _ _ _ _ q=>add_int q
theorem J9:OpR X (e9 .Sub) (rI0 fun i j=>.int (i - j)):=Lh fun _ _ _ _ _ _ _ q=>sub_int q
theorem ky:OpR X (e9 .Mult) (rI Wj fun i j=>.int (i * j)):=opI fun _ _ _ _ _ _ _ hc q=>mul_int q hc.ok
theorem B9:OpR X (e9 .FloorDiv) (rI HU fun i j=>.int (i / j)):=opI fun i j _ _ _ _ _ hc q=>by
 have h1:(0:Int)<j:=hc.1
 have h2:j<1073741824:=hc.2
 exact floordiv_int (by omega) (by rw [gJ i (by omega)];exact q) (.inl (iu (by omega)))
theorem jj:OpR X (e9 .Mod) (rI (fun _ j=>0<j) fun i j=>.int (i % j)):=opI fun i j _ _ _ _ _ hc q=>by
 have h1:(0:Int)<j:=hc
 exact mod_int' (by omega) (by rw [gL i (by omega)];exact q)
theorem GE:OpR X (e9 .Pow) (rI MQ fun i j=>.int (i ^ j.toNat)):=opI fun _ _ _ _ _ _ _ hc q=>pow_int_small hc.1 hc.2.1 hc.2.2 q
theorem unI {f:am->Sem am}{g:Int->Int}
  (rule:∀ (i:Int) (t:Tok) (s:ax) (Q:am->ax->Prop) (E:am->ax->Prop),Q (.int (g i) s.toks) { s with toks:=s.toks+1 }->bg (bc X.prog X.w) X.A (f (.int i t)) Q E s) :
  UnR X f (rU fun i=>.int (g i)):=by
 intro pins s σ H x v Q I rx h
 obtain ⟨i,rfl,q⟩:=h
 obtain ⟨t,rfl⟩:=rx
 exact rule i t s _ _ ⟨.int (g i),H,I.tok _,⟨_,rfl⟩,q⟩
theorem IZ:UnR X (unaryOp .USub) (rU fun i=>.int (-i)):=unI fun _ _ _ _ _ q=>neg_int q
end
noncomputable def MU:V->V->Bool
 | .non,.non=>true | .non,.int _=>true | .int _,.non=>true | .non,.bl _=>true | .bl _,.non=>true | .non,.str _=>true | .str _,.non=>true
 | .int _,.int _=>true | .bl _,.bl _=>true | .str _,.str _=>true | .byt _,.byt _=>true
 | .int _,.str _=>true | .str _,.int _=>true | .bl _,.str _=>true | .str _,.bl _=>true
 | _,_=>false
noncomputable def rNe:R2:=fun x y H Q=>MU x y=true/\Q (.bl (!decide (x=y))) H
theorem ES {i j:Int}:decide (V.int i=V.int j)=(i == j):=by
 rw [ff]
 simp
theorem Hq {i j:Bool}:decide (V.bl i=V.bl j)=(i == j):=by
 rw [ff]
 simp
theorem Eo {i j:Str}:decide (V.str i=V.str j)=(i == j):=by
 rw [ff]
 simp
theorem B8 {i j:Array UInt8}:decide (V.byt i=V.byt j)=(i.toList == j.toList):=by
 rw [ff]
 cases i
 cases j
 simp
section
variable {X:Cx}{a b c:Expr}{ta tb tc:TE}{pos:Pos}
theorem qp {Q:VK}{k k':Bool}(I:Inv X pins σ H s)(q:Q (.bl k) H)(e:k=k'):EP X pins σ Q (.bool k') s:=by
 subst e
 exact ⟨.bl k,H,I,rfl,q⟩
theorem L5:OpR X (cP .NotEq) rNe:=by
 intro pins s σ H x y v u Q I rx ry h
 obtain ⟨hs,q⟩:=h
 cases x with
 | non=>
  cases rx
  cases y with
  | non=>cases ry;exact PySem.EqNone.ne_none_none (qp I q (by simp))
  | bl j=>cases ry;exact PySem.EqNone.ne_none_bool (qp I q (by simp))
  | int j=>obtain ⟨t',rfl⟩:=ry;exact PySem.EqNone.ne_none_int (qp I q (by simp))
  | str j=>obtain ⟨t',rfl⟩:=ry;exact PySem.EqNone.ne_none_str (qp I q (by simp))
  | _=>exact absurd (show false=true from hs) bK
 | bl i=>
  cases rx
  cases y with
  | non=>cases ry;exact PySem.EqNone.ne_bool_none (qp I q (by simp))
  | bl j=>cases ry;exact ne_bool (qp I q (congrArg not Hq))
  | str j=>obtain ⟨t',rfl⟩:=ry;exact PySem.EqMixed.ne_bool_str (qp I q (by simp))
  | _=>exact absurd (show false=true from hs) bK
 | int i=>
  obtain ⟨t,rfl⟩:=rx
  cases y with
  | non=>cases ry;exact PySem.EqNone.ne_int_none (qp I q (by simp))
  | int j=>obtain ⟨t',rfl⟩:=ry;exact ne_int (qp I q (congrArg not ES))
  | str j=>obtain ⟨t',rfl⟩:=ry;exact PySem.EqMixed.ne_int_str (qp I q (by simp))
  | _=>exact absurd (show false=true from hs) bK
 | str i=>
  obtain ⟨t,rfl⟩:=rx
  cases y with
  | non=>cases ry;exact PySem.EqNone.ne_str_none (qp I q (by simp))
  | bl j=>cases ry;exact PySem.EqMixed.ne_str_bool (qp I q (by simp))
  | int j=>obtain ⟨t',rfl⟩:=ry;exact PySem.EqMixed.ne_str_int (qp I q (by simp))
  | str j=>obtain ⟨t',rfl⟩:=ry;exact ne_str (qp I q (congrArg not Eo))
  | _=>exact absurd (show false=true from hs) bK
 | byt i=>
  obtain ⟨t,rfl⟩:=rx
  cases y with
  | byt j=>obtain ⟨t',rfl⟩:=ry;exact PySem.W.ne_bytes (qp I q (congrArg not B8))
  | _=>exact absurd (show false=true from hs) bK
 | _=>cases y <;> exact absurd (show false=true from hs) bK
theorem Fm:OpR X (cP .Lt) (rI0 fun i j=>.bl (decide (i<j))):=DQ fun _ _ _ _ _ _ _ q=>lt_int q
theorem wO:OpR X (cP .LtE) (rI0 fun i j=>.bl (decide (i<=j))):=DQ fun _ _ _ _ _ _ _ q=>le_int q
theorem kh:OpR X (cP .Gt) (rI0 fun i j=>.bl (decide (j<i))):=DQ fun _ _ _ _ _ _ _ q=>gt_int q
theorem WJ:OpR X (cP .GtE) (rI0 fun i j=>.bl (decide (j<=i))):=DQ fun _ _ _ _ _ _ _ q=>ge_int q
theorem XJ:OpR X (cP .In) (fun x y H Q=>∃ i j,x=.str i/\y=.str j/\Q (.bl (!(Builtin.Str.occurrences j i 0 j.length 1).isEmpty)) H):=by
 intro pins s σ H x y v u Q I rx ry h
 obtain ⟨i,j,rfl,rfl,q⟩:=h
 obtain ⟨t,rfl⟩:=rx
 obtain ⟨t',rfl⟩:=ry
 exact in_str (qp I q rfl)
theorem G3:OpR X (cP .Is) (fun x y H Q=>y=.non/\Q (.bl (decide (x=.non))) H):=by
 intro pins s σ H x y v u Q I rx ry h
 obtain ⟨rfl,q⟩:=h
 cases ry
 refine is_none_gen (qp I q ?_)
 cases x <;> first
  | (cases rx;rfl)
  | (obtain ⟨t,rfl⟩:=rx;rfl)
variable {op:mO}
theorem zy (b:Expr) (h:op ≠ .In:=by decide)(h2:op ≠ .NotIn:=by decide):eg op b=false:=by
 have e1:(op == mO.In)=false:=by cases op <;> first | rfl | exact absurd rfl h
 have e2:(op == mO.NotIn)=false:=by cases op <;> first | rfl | exact absurd rfl h2
 cases b <;> simp [eg,e1,e2]
variable {r:R2}
theorem zX (ho:OpR X (cP op) r)(ha:PE X a ta)(hb:PE X b tb)(hm:eg op b=false):PE X (.Compare a [op] [b] pos) (tOp r ta tb):=by
 intro pins s σ H Q I h
 exact wpAny_Compare1 (Ie ha hb I h fun v u s2 x y H2 I2 rx ry q=>ho pins s2 σ H2 x y v u Q I2 rx ry q) hm
noncomputable def Qp (t:TE):TT:=fun σ H Q=>t σ H fun x H'=>∃ k,x=.bl k/\Q k H'
theorem zJ (ho:OpR X (cP op) r)(ha:PE X a ta)(hb:PE X b tb)(hm:eg op b=false):PT X (.Compare a [op] [b] pos) (Qp (tOp r ta tb)):=by
 intro pins s σ H Q I h
 refine wpAny_isTrue_Compare1 (thn (ha pins s σ H _ I h) fun v s1 ⟨x,H1,I1,r1,q1⟩=>thn (hb pins s1 σ H1 _ I1 q1) fun u s2 ⟨y,H2,I2,r2,q2⟩=>
  thn (ho pins s2 σ H2 x y v u _ I2 r1 r2 q2) fun c s3 ⟨z,H3,I3,r3,k,e,q3⟩=>?_) hm
 subst e
 cases r3
 exact cz ⟨H3,I3,q3⟩
noncomputable def J1 (r r':R2)(ta tb tc:TE):TE:=fun σ H Q=>ta σ H fun x H1=>tb σ H1 fun y H2=>r x y H2 fun z H3=>∃ k,z=.bl k /\
 (if k=true then tc σ H3 fun w' H4=>r' y w' H4 Q else Q (.bl false) H3)
theorem Z3 {op op':mO}{r r':R2}(ho:OpR X (cP op) r)(ho':OpR X (cP op') r')(ha:PE X a ta)(hb:PE X b tb)(hc:PE X c tc)
  (hm:lastMarks [op,op'] [b,c]=false:=by with_unfolding_all rfl):PE X (.Compare a [op,op'] [b,c] pos) (J1 r r' ta tb tc):=by
 intro pins s σ H Q I h
 refine Compare_chain (thn (ha pins s σ H _ I h) fun v s1 ⟨x,H1,I1,r1,q1⟩=>chain_link (thn (hb pins s1 σ H1 _ I1 q1) fun u s2 ⟨y,H2,I2,r2,q2⟩=>
  thn (ho pins s2 σ H2 x y v u _ I2 r1 r2 q2) fun d s3 ⟨z,H3,I3,r3,k,e,q3⟩=>?_)) hm
 subst e
 cases r3
 refine cz ?_
 cases k with
 | false=>exact ite_ff ⟨.bl false,H3,I3,rfl,q3⟩
 | true=>exact ite_tt (chain_last (thn (hc pins s3 σ H3 _ I3 q3) fun w' s4 ⟨z',H4,I4,r4,q4⟩=>ho' pins s4 σ H4 y z' u w' Q I4 r2 r4 q4))
theorem Av {op op':mO}{r r':R2}(ho:OpR X (cP op) r)(ho':OpR X (cP op') r')(ha:PE X a ta)(hb:PE X b tb)(hc:PE X c tc)
  (hm:lastMarks [op,op'] [b,c]=false:=by with_unfolding_all rfl):PT X (.Compare a [op,op'] [b,c] pos) (Qp (J1 r r' ta tb tc)):=by
 intro pins s σ H Q I h
 refine isTrue_chain (thn (ha pins s σ H _ I h) fun v s1 ⟨x,H1,I1,r1,q1⟩=>test_link (thn (hb pins s1 σ H1 _ I1 q1) fun u s2 ⟨y,H2,I2,r2,q2⟩=>
  thn (ho pins s2 σ H2 x y v u _ I2 r1 r2 q2) fun d s3 ⟨z,H3,I3,r3,k,e,q3⟩=>?_)) hm
 subst e
 cases r3
 refine cz ?_
 cases k with
 | false=>
  obtain ⟨k',e',q'⟩:=q3
  cases e'
  exact ite_ff ⟨H3,I3,q'⟩
 | true=>
  refine ite_tt (test_last (thn (hc pins s3 σ H3 _ I3 q3) fun w' s4 ⟨z',H4,I4,r4,q4⟩=>thn (ho' pins s4 σ H4 y z' u w' _ I4 r2 r4 q4) fun d' s5 ⟨z2,H5,I5,r5,k2,e2,q5⟩=>?_))
  subst e2
  cases r5
  exact cz ⟨H5,I5,q5⟩
theorem yg:(aT:Nat)<2 ^ 63:=by rw [bY];decide
theorem zV:OpR X (e9 .Add) (fun x y H Q=>∃ i j,x=.str i/\y=.str j/\i.length+j.length<=aT/\Q (.str (i ++ j)) H):=by
 intro pins s σ H x y v u Q I rx ry h
 obtain ⟨i,j,rfl,rfl,hz,q⟩:=h
 obtain ⟨t,rfl⟩:=rx
 obtain ⟨t',rfl⟩:=ry
 exact add_str (fun t' tk=>⟨.str (i ++ j),H,I.tok _,⟨_,rfl⟩,q⟩) hz
theorem qT {x:V}{us:List am}(r:zx [x] us):∃ u,us=[u]/\zC x u:=by
 cases r with
 | cons r1 r2=>cases r2;exact ⟨_,rfl,r1⟩
theorem QB {x y:V}{us:List am}(r:zx [x,y] us):∃ u w',us=[u,w']/\zC x u/\zC y w':=by
 cases r with
 | cons r1 r2=>
  cases r2 with
  | cons r3 r4=>cases r4;exact ⟨_,_,rfl,r1,r3⟩
theorem Jh:qB X (.builtin "abs") (fun xs H Q=>∃ i,xs=[.int i]/\Q (.int (if i<0 then -i else i)) H):=by
 intro pins s σ H xs us Q I r h
 obtain ⟨i,rfl,q⟩:=h
 obtain ⟨u,rfl,t,rfl⟩:=qT r
 exact call_abs_int fun u tk=>⟨.int (if i<0 then -i else i),H,I.tok _,⟨_,rfl⟩,q⟩
theorem wR (hc:X.calm=true):qB X (.builtin "min") (fun xs H Q=>∃ i j,xs=[.int i,.int j]/\Q (.int (if j<i then j else i)) H):=by
 intro pins s σ H xs us Q I r h
 obtain ⟨i,j,rfl,q⟩:=h
 obtain ⟨u,w',rfl,⟨t,rfl⟩,⟨t',rfl⟩⟩:=QB r
 refine min_two_ints (I.ok.hd hc) fun h' tk k=>⟨_,H,I.kept k,?_,q⟩
 by_cases hj:j<i
 ·rw [if_pos hj,if_pos hj];exact ⟨_,rfl⟩
 ·rw [if_neg hj,if_neg hj];exact ⟨_,rfl⟩
theorem XW:qB X (.type "int") (fun xs H Q=>(∃ i,xs=[.int i]/\Q (.int i) H) \/ ∃ k,xs=[.bl k]/\Q (.int (if k then 1 else 0)) H):=by
 intro pins s σ H xs us Q I r h
 rcases h with ⟨i,rfl,q⟩ | ⟨k,rfl,q⟩
 ·obtain ⟨u,rfl,t,rfl⟩:=qT r
  exact call_int_int ⟨.int i,H,I,⟨_,rfl⟩,q⟩
 ·obtain ⟨u,rfl,r1⟩:=qT r
  cases r1
  exact call_int_bool ⟨.int (if k then 1 else 0),H,I.tok _,⟨_,rfl⟩,q⟩
theorem j5:qB X (.type "str") (fun xs H Q=>∃ i,xs=[.int i]/\i.natAbs.log2<1920/\Q (.str (toString i)) H):=by
 intro pins s σ H xs us Q I r h
 obtain ⟨i,rfl,hz,q⟩:=h
 obtain ⟨u,rfl,t,rfl⟩:=qT r
 exact PySem.P.str_of_int hz ⟨.str _,H,I.tok _,⟨_,rfl⟩,q⟩
theorem Qo:qB X (.builtin "divmod") (fun xs H Q=>∃ i j,xs=[.int i,.int j]/\HU i j/\∀ p,H p=none->Q (.ref p) (upd H p (.tup [.int (i / j),.int (i % j)]))):=by
 intro pins s σ H xs us Q I r h
 obtain ⟨i,j,rfl,⟨h1,h2⟩,q⟩:=h
 obtain ⟨u,w',rfl,⟨t,rfl⟩,⟨t',rfl⟩⟩:=QB r
 refine divmod_int (by omega) ?_ (.inl (iu (by omega)))
 rw [gJ i (by omega),gL i (by omega)]
 have hn:H s.heap.objs.size=none:=I.hok.fresh (aL _)
 refine ⟨.ref s.heap.objs.size,_,?_,rfl,q _ hn⟩
 refine I.laid (fun b o e=>aG _ e) (aL _) ⟨by simp only [aV,d9];rw [bY];decide,[.int (i / j) s.toks,.int (i % j) (s.toks+1)],.cons ⟨_,rfl⟩ (.cons ⟨_,rfl⟩ .nil),?_⟩
 exact ⟨_,aY s.heap rfl,rfl,⟨0,rfl⟩,rfl⟩
end
structure Kq (h:Heap)(x dx C:aE)(mA:Str->Option am):Prop where
 obj:h.get? x=some (dk C dx)
 ns:h.Ns1 dx mA
 ne:dx ≠ x
variable {mA:Str->Option am}
theorem ww {dx:aE} (n:h.Ns1 dx mA):∃ od,h.get? dx=some od/\∀ name,fz name od=some (mA name):=by
 obtain ⟨o,es,ep,ho,hd,hk,_,hm⟩:=n
 refine ⟨o,ho,fun name=>?_⟩
 have e:=hm name
 unfold nsFind findBy at e
 rw [<- lJ] at e
 unfold fz
 rw [hd]
 dsimp only
 split
 ·rename_i y q
  rw [q] at e
  exact congrArg some e
 ·rename_i q
  rw [q] at e
  have a:es.toList.any (·.refKey)=false:=by
   rw [List.any_eq_false]
   intro y hy
   obtain ⟨z,t,hkey⟩:=hk y (eI.mp hy)
   simp [DictEntry.refKey,hkey]
  have a':¬ es.toList.any (·.refKey)=true:=by rw [a];exact bK
  rw [if_neg a']
  exact congrArg some e
theorem Kq.look {x dx C:aE} (I:Kq h x dx C mA):∃ od,PySem.W.InstAt h x (dk C dx) C (some od)/\∀ name,fz name od=some (mA name):=
 let ⟨od,ho,hl⟩:=ww I.ns
 ⟨od,⟨I.obj,rfl,rfl,ho⟩,hl⟩
section
variable {prog:bf}{w:bC}{A:bo}{E:am->ax->Prop}{s:ax}{K:au}{x dx C f:aE}{mA:Str->Option am}{name:Str}{v:am}
theorem EQ {expr:Bool}{Q:am->ax->Prop}(X:K.In s.heap)(I:Kq s.heap x dx C mA)(hg:eO K C name=true)(hh:dG K C=true)
  (ha:bz K (.ref C) name=some none) (hv:mA name=some v) (hv':ia v=true) (h:Q v { s with toks:=s.toks+1 }) :
  bg (bc prog w) A (mR (.ref x) name expr) Q E s:=by
 obtain ⟨od,J,hl⟩:=I.look
 exact PySem.W.get_value X J (gB hg).1 (lv hh ha rfl (by rw [hl,hv])) hv' h
theorem Au {pl:Sem Bool}{Q:am × List am->ax->Prop}(X:K.In s.heap)(I:Kq s.heap x dx C mA)(hg:eO K C name=true)
  (hf:bz K (.ref C) name=some (some (.ref f))) (ht:eP K (.ref f)=true) (hv:mA name=none) (h:Q (.ref f,[.ref x]) s) :
  bg (bc prog w) A (getMethod (.ref x) name pl) Q E s:=by
 obtain ⟨od,J,hl⟩:=I.look
 exact PySem.W.method_fn X J (gB hg).1 (gB hg).2 hf (beq_iff_eq.mp ht) (by show (fz name od).map (·.isSome)=some false;rw [hl,hv];rfl) h
theorem ZW {ns:List Str}{Q:Unit->ax->Prop}(X:K.In s.heap)(I:Kq s.heap x dx C mA)
  (hs:bz K (.ref C) "__setattr__"=some (some (.builtin "object.__setattr__"))) (hp:g9 K C=true) (ht:iH K C name=some none) (hh:dG K C=true)
  (hw:gC mA ns) (hsz:ns.length<=aT)
  (h:∀ h',Kq h' x dx C (fun y=>if y=name then some v else mA y)->b8 dx s.heap h'->Q () { s with heap:=h',toks:=s.toks+2 }) :
  bg (bc prog w) A (setAttr (.ref x) name v) Q E s:=by
 obtain ⟨od,J,hl⟩:=I.look
 refine hJ X J hs (PySem.W.osa_open (s:={ s with toks:=s.toks+1 }) (r:=none) X J hp ht fun b=>?_)
 obtain ⟨cd,hc,hd'⟩:=fU hh
 have hx:s.heap.get? x=some ⟨.ref C,some dx,.plain,#[]⟩:=I.obj
 refine aF (bh (aF (aF (iW hx (aF (f9.here (s:={ s with toks:=s.toks+1 }) (eV X hc) ?_))))))
 rw [hd']
 refine bh (a:=some dx) (aF (bh (aF ?_)))
 refine lZ (s:={ s with toks:=s.toks+1 }) I.ns fun h' hn2 hs2=>?_
 obtain ⟨oD,esD,epD,hoD,hdD,hcD⟩:=hn2.count (gC.cons name v hw)
 refine aF (ib hoD (by rw [hdD];exact ic (bu hcD (by rw [aV];omega))) ?_)
 exact bh (h _ ⟨(hs2.2 _ (Ne.symm I.ne)).trans I.obj,hn2,I.ne⟩ hs2)
theorem V2 {R:ms->ax->Prop}{vs:List am}{kw:List (Str × am)}(X:K.In s.heap)(hm:iI K C=true)
  (hi:bz K (.ref C) "__init__"=some (some (.ref f))) (hf:PySem.W.typeIn K (.ref f)=some (.type "function"))
  (h:fA (bc prog w) (A.under (.builtin "type.__call__" ⟨.ref C :: vs,kw⟩)) (.call (.ref f) ⟨.ref (s.heap.objs.size+1) :: vs,kw⟩) (PySem.W.InitBack (s.heap.objs.size+1) R)
   { s with heap:=(s.heap.push cA).push (dk C s.heap.objs.size) }) :
  fA (bc prog w) A (.call (.ref C) ⟨vs,kw⟩) R s:=by
 obtain ⟨hh,g,d,t,os⟩:=s
 exact PySem.W.make_core (PySem.W.makes_of X hm) (eJ X hi) (fun self=>PySem.W.bind_fn X self hf) (.inl rfl) h
end
noncomputable def jq (f:Str)(v:V):List (Str × V)->List (Str × V)
 | []=>[(f,v)]
 | (g,x) :: r=>if g=f then (g,v) :: r else (g,x) :: jq f v r
theorem ju (f g:Str)(v:V):∀ fs:List (Str × V),(jq f v fs).lookup g=if g=f then some v else fs.lookup g
 | []=>by
  show bD g [(f,v)]=_
  by_cases h:g=f
  ·have hb:(g == f)=true:=beq_iff_eq.mpr h
   simp only [bD,hb,if_pos h]
  ·have hb:(g == f)=false:=beq_eq_false_iff_ne.mpr h
   simp only [bD,hb,if_neg h]
 | (k,x) :: r=>by
  have ih:=ju f g v r
  rw [show jq f v ((k,x) :: r)=(if k=f then (k,v) :: r else (k,x) :: jq f v r) from rfl]
  by_cases hk:k=f
  ·rw [if_pos hk]
   by_cases h:g=k
   ·have hb:(g == k)=true:=beq_iff_eq.mpr h
    simp only [bD,hb,if_pos (h.trans hk)]
   ·have hb:(g == k)=false:=beq_eq_false_iff_ne.mpr h
    simp only [bD,hb,if_neg (fun e:g=f=>h (e.trans hk.symm))]
  ·rw [if_neg hk]
   by_cases h:g=k
   ·have hb:(g == k)=true:=beq_iff_eq.mpr h
    simp only [bD,hb,if_neg (fun e:g=f=>hk (h.symm.trans e))]
   ·have hb:(g == k)=false:=beq_eq_false_iff_ne.mpr h
    simp only [bD,hb]
    exact ih
theorem jF (f:Str)(v:V):∀ fs:List (Str × V),f ∈ (jq f v fs).map (·.1)/\∀ g,g ∈ fs.map (·.1)->g ∈ (jq f v fs).map (·.1)
 | []=>⟨by simp [jq],fun g h=>by simp at h⟩
 | (k,x) :: r=>by
  obtain ⟨i1,i2⟩:=jF f v r
  rw [show jq f v ((k,x) :: r)=(if k=f then (k,v) :: r else (k,x) :: jq f v r) from rfl]
  by_cases hk:k=f
  ·rw [if_pos hk]
   subst hk
   exact ⟨by simp,fun g h=>by simpa using h⟩
  ·rw [if_neg hk]
   refine ⟨?_,fun g h=>?_⟩
   ·rw [bp]
    exact ba _ i1
   ·rw [bp] at h ⊢
    rcases aJ.mp h with e | e
    ·exact aJ.mpr (.inl e)
    ·exact ba _ (i2 g e)
theorem yo (f:Str)(v:V):∀ fs:List (Str × V),(jq f v fs).length<=fs.length+1
 | []=>by simp [jq]
 | (k,x) :: r=>by
  have ih:=yo f v r
  rw [show jq f v ((k,x) :: r)=(if k=f then (k,v) :: r else (k,x) :: jq f v r) from rfl]
  by_cases hk:k=f
  ·rw [if_pos hk,aV,aV];omega
  ·rw [if_neg hk,aV,aV];omega
theorem ka.some_of {v:V}{o:Option am}(r:ka (some v) o):∃ u,o=some u/\zC v u:=by
 cases o with
 | none=>exact (show False from r).elim
 | some u=>exact ⟨u,rfl,r⟩
theorem ka.none_of {o:Option am}(r:ka none o):o=none:=by
 cases o with
 | none=>rfl
 | some u=>exact (show False from r).elim
theorem wX {v:V}{u:am}(r:zC v u):ia u=true:=by
 cases v with
 | non=>cases (show u=am.none from r);rfl
 | bl b=>cases (show u=am.bool b from r);rfl
 | int i=>obtain ⟨t,e⟩:=(show ∃ t,u=am.int i t from r);cases e;rfl
 | str x=>obtain ⟨t,e⟩:=(show ∃ t,u=am.str x t from r);cases e;rfl
 | byt b=>obtain ⟨t,e⟩:=(show ∃ t,u=am.bytes b t from r);cases e;rfl
 | flt b=>obtain ⟨t,e⟩:=(show ∃ t,u=am.float b t from r);cases e;rfl
 | ref a=>cases (show u=am.ref a from r);rfl
 | ty n=>cases (show u=am.type n from r);rfl
section
variable {P:bf}{w:bC}{H H':Hp}{h h':Heap}{a C dx:aE}{fs fs':List (Str × V)}
theorem yH (hok:HOk P w H h)(e:H a=some (.ins C dx fs)):∃ mA,Kq h a dx C mA/\(∀ f,ka (fs.lookup f) (mA f))/\gC mA (fs.map (·.1))/\fs.length<=1000/\H dx=some (.own a):=by
 obtain ⟨d,z,ne,ob,mA,n,r,q⟩:=(show zS P w H h a (.ins C dx fs) from hok a _ e)
 exact ⟨mA,⟨ob,n,ne⟩,r,q,z,d⟩
end
structure Cls (K:au)(C:aE):Prop where
 pg:eO K C mw=true
 hd:dG K C=true
 po:g9 K C=true
 sa:bz K (.ref C) "__setattr__"=some (some (.builtin "object.__setattr__"))
variable {C:aE}
theorem Cls.get (c:Cls K C)(f:Str):eO K C f=true:=c.pg
def qE (K:au)(C:aE)(f:Str):Prop:=bz K (.ref C) f=some none
variable {f:Str}
theorem qE.taker (n:qE K C f):iH K C f=some none:=by
 unfold iH
 rw [show bz K (.ref C) f=some none from n]
 rfl
structure Con (K:au)(C:aE)(f:Str)(v:V)(u:am):Prop where
 at_:bz K (.ref C) f=some (some u)
 rel:zC v u
 get:fB K u "__get__"=some none
 cp:PySem.W.copiedNames.contains f=false
structure XS (K:au)(C:aE)(m:Str)(f:aE):Prop where
 at_:bz K (.ref C) m=some (some (.ref f))
 fn:eP K (.ref f)=true
 kp:cF K (.ref f)=true
section
variable {X:Cx}{pins:List (aE × Obj)}{σ:St}{H:Hp}{s:ax}{a C dx:aE}{fs:List (Str × V)}{f:Str}{v:V}{A:bo}{E:am->ax->Prop}
variable {Q:am->ax->Prop}
theorem y4 {b:Bool} (I:Inv X pins σ H s)(e:H a=some (.ins C dx fs))(c:Cls X.K C)(n:qE X.K C f)(l:fs.lookup f=some v)
  (h:∀ u s',Inv X pins σ H s'->zC v u->Q u s'):bg (bc X.prog X.w) A (mR (.ref a) f b) Q E s:=by
 obtain ⟨mA,O,r,_,_,_⟩:=yH I.hok e
 obtain ⟨u,hu,ru⟩:=ka.some_of (v:=v) (o:=mA f) (by rw [<- l];exact r f)
 exact EQ I.kIn O (c.get f) c.hd n hu (wX ru) (h u _ (I.tok _) ru)
theorem kY {m:Str}{g:aE}{pl:Sem Bool}{Q:am × List am->ax->Prop}(I:Inv X pins σ H s)(e:H a=some (.ins C dx fs))(c:Cls X.K C)(k:XS X.K C m g)(l:fs.lookup m=none)
  (h:Q (.ref g,[.ref a]) s):bg (bc X.prog X.w) A (getMethod (.ref a) m pl) Q E s:=by
 obtain ⟨mA,O,r,_,_,_⟩:=yH I.hok e
 have hn:mA m=none:=ka.none_of (by rw [<- l];exact r m)
 exact Au I.kIn O (c.get m) k.at_ k.fn hn h
theorem vc {y:V}{u:am}{Q:Unit->ax->Prop}(I:Inv X pins σ H s)(e:H a=some (.ins C dx fs))(c:Cls X.K C)(n:qE X.K C f)(hl:fs.length<1000)(ry:zC y u)
  (h:∀ s',Inv X pins σ (upd H a (.ins C dx (jq f y fs))) s'->Q () s'):bg (bc X.prog X.w) A (setAttr (.ref a) f u) Q E s:=by
 obtain ⟨mA,O,r,wi,_,ho⟩:=yH I.hok e
 have hz:(fs.map (·.1)).length<=aT:=by rw [ap,bY];omega
 refine ZW I.kIn O c.sa c.po n.taker c.hd wi hz fun h' O' sb=>h _ ?_
 have hd:∃ o,h'.get? dx=some o:=let ⟨o,_,_,e',_⟩:=O'.ns;⟨o,e'⟩
 refine I.write (x:=a) (e:=dx) (by rw [e];exact True.intro) (.inr ho) (fun b q hb z=>(sb.2 b hb).trans z) hd ?_
 refine ⟨by rw [zg O.ne];exact ho,?_,O.ne,O'.obj,_,O'.ns,fun g=>?_,fun g hg=>?_⟩
 ·have:=yo f y fs;omega
 ·show ka ((jq f y fs).lookup g) (if g=f then some u else mA g)
  rw [ju]
  by_cases q:g=f
  ·rw [if_pos q,if_pos q];exact ry
  ·rw [if_neg q,if_neg q];exact r g
 ·by_cases q:g=f
  ·rw [q];exact (jF f y fs).1
  ·refine (jF f y fs).2 g (wi g fun z=>hg ?_)
   show (if g=f then some u else mA g)=none
   rw [if_neg q];exact z
theorem Inv.made (I:Inv X pins σ H s):Inv X pins σ (upd (upd H s.heap.objs.size (.own (s.heap.objs.size+1))) (s.heap.objs.size+1) (.ins C s.heap.objs.size []))
  { s with heap:=(s.heap.push cA).push (dk C s.heap.objs.size) }:=by
 have e1:(s.heap.push cA).get? s.heap.objs.size=some cA:=aY s.heap rfl
 have e2:((s.heap.push cA).push (dk C s.heap.objs.size)).get? (s.heap.objs.size+1)=some (dk C s.heap.objs.size):=by
  have:=aY (s.heap.push cA) (o:=dk C s.heap.objs.size) rfl
  rwa [de] at this
 have e3:(s.heap.push cA).Ns s.heap.objs.size (fun _=>none):=⟨cA,#[],_,e1,rfl,(fun e he=>absurd he (by simp)),fun _=>rfl⟩
 have I1:=I.laid (a:=s.heap.objs.size) (o:=.own (s.heap.objs.size+1)) (h':=s.heap.push cA) (t':=s.toks) (fun b u q=>aG _ q) (aL _) ⟨_,e1⟩
 refine I1.laid (a:=s.heap.objs.size+1) (o:=.ins C s.heap.objs.size []) (t':=s.toks) (fun b u q=>aG _ q) (ma (de _ _)) ?_
 have ne:s.heap.objs.size ≠ s.heap.objs.size+1:=bE (my _)
 refine ⟨by rw [zg ne,zi],cb _,ne,e2,fun _=>none,(Heap.Ns1.of_empty e3).at fun o q=>aG _ q,fun _=>True.intro,fun y hy=>absurd rfl hy⟩
theorem Xj {prog:bf} {env:Env} {pos:Pos} (hb:dL e f env (eval e env)=eval e env)
  (h:bg (bc prog w) A (eval e env) (fun o s₁=>bg (bc prog w) A (mR o f true) Q E s₁) E s):bg (bc prog w) A (eval (.Attribute e f pos) env) Q E s:=
 Attribute_any_ h (by rw [arm_eval_Attribute,hb])
end
noncomputable def Hm (K:au)(ta:TE)(f:Str):TE:=fun σ H Q=>ta σ H fun x H1=>∃ a C dx fs v,x=.ref a/\H1 a=some (.ins C dx fs)/\Cls K C/\qE K C f/\fs.lookup f=some v/\Q v H1
noncomputable def IB (K:au)(ta tv:TE)(f:Str):TS:=fun D σ H=>tv σ H fun y H1=>ta σ H1 fun x H2=>∃ a C dx fs,x=.ref a/\H2 a=some (.ins C dx fs)/\Cls K C/\qE K C f/\fs.length<1000 /\
 D.nx σ (upd H2 a (.ins C dx (jq f y fs)))
def MD (X:Cx)(op:Operator)(rd:V->V->Hp->VK->Prop):Prop:=
 ∀ (pins:List (aE × Obj)) (s:ax) (σ:St) (H:Hp) (x y:V) (u v:am) (Q:VK),Inv X pins σ H s->zC x u->zC y v->rd x y H Q->bg (bc X.prog X.w) X.A (inplaceOp op u v) (EP X pins σ Q) X.xe s
noncomputable def XB (K:au)(ta tv:TE)(rd:V->V->Hp->VK->Prop)(f:Str):TS:=fun D σ H=>ta σ H fun x H1=>∃ a C dx fs v,x=.ref a/\H1 a=some (.ins C dx fs)/\Cls K C/\qE K C f/\fs.lookup f=some v /\
 tv σ H1 fun y H2=>rd v y H2 fun z H3=>∃ dx' fs',H3 a=some (.ins C dx' fs')/\fs'.length<1000/\D.nx σ (upd H3 a (.ins C dx' (jq f z fs')))
section
variable {X:Cx}{o e value:Expr}{f:Str}{pos pos' tpos:Pos}{ta tv:TE}
theorem ji (he:PE X e ta)(hb:dL e f X.env (eval e X.env)=eval e X.env):PE X (.Attribute e f pos) (Hm X.K ta f):=by
 intro pins s σ H Q I h
 refine Xj hb (thn (he pins s σ H _ I h) fun u s1 ⟨x,H1,I1,rx,a,C,dx,fs,v,ex,ea,c,n,l,q⟩=>?_)
 subst ex
 obtain rfl:u=am.ref a:=rx
 exact y4 I1 ea c n l fun u' s2 I2 ru=>⟨v,H1,I2,ru,q⟩
theorem vy (ha:PE X o ta)(hv:PE X value tv)(hs:li value (some (.Attribute o f pos')) pos.line X.env=pure false):PS X (.Assign [.Attribute o f pos'] value pos) (IB X.K ta tv f):=by
 intro pins s σ H D I h
 refine fQ (thn (hv pins s σ H _ I h) fun u s1 ⟨y,H1,I1,ry,q⟩=>thn (ha pins s1 σ H1 _ I1 q) fun ov s2 ⟨x,H2,I2,rx,a,C,dx,fs,ex,ea,c,n,l,q2⟩=>?_) hs
 subst ex
 obtain rfl:ov=am.ref a:=rx
 exact vc I2 ea c n l ry fun s3 I3=>⟨σ,_,I3,q2⟩
theorem YA {op:Operator}{rd:V->V->Hp->VK->Prop}(ha:PE X o ta)(hv:PE X value tv)(hop:MD X op rd):PS X (.AugAssign (.Attribute o f tpos) op value pos) (XB X.K ta tv rd f):=by
 intro pins s σ H D I h
 refine wpAny_AugAssign_AttributeAny (thn (ha pins s σ H _ I h) fun ov s1 ⟨x,H1,I1,rx,a,C,dx,fs,v,ex,ea,c,n,l,q⟩=>?_)
 subst ex
 obtain rfl:ov=am.ref a:=rx
 refine y4 I1 ea c n l fun u s2 I2 ru=>thn (hv pins s2 σ H1 _ I2 q) fun w3 s3 ⟨y,H2,I3,ry,q3⟩=>thn (hop pins s3 σ H2 v y u w3 _ I3 ru ry q3) fun w4 s4 ⟨z,H3,I4,rz,dx',fs',ea',l',q4⟩=>?_
 exact vc I4 ea' c n l' rz fun s5 I5=>⟨σ,_,I5,q4⟩
noncomputable def MJ:V->V->Hp->VK->Prop:=fun x y H Q=>∃ i j,x=.int i/\y=.int j/\Q (.int (i+j)) H
theorem GJ:MD X .Add MJ:=by
 rintro pins s σ H x y u v Q I rx ry ⟨i,j,rfl,rfl,q⟩
 obtain ⟨t,rfl⟩:=(show ∃ t,u=am.int i t from rx)
 obtain ⟨t',rfl⟩:=(show ∃ t',v=am.int j t' from ry)
 exact PyProof.Rows.iadd_int ⟨.int (i+j),H,I.tok _,⟨_,rfl⟩,q⟩
theorem Fo {pl:Sem Bool}{m:Str}{apos:Pos}{args:List Expr} {Q:am->ax->Prop}{te:TE}(he:PE X e te)(I:Inv X pins σ H s)
  (h:te σ H fun x H1=>∃ a C dx fs g,x=.ref a/\H1 a=some (.ins C dx fs)/\Cls X.K C/\XS X.K C m g/\fs.lookup m=none /\
   ∀ s1,Inv X pins σ H1 s1->bg (bc X.prog X.w) X.A (ie pos (.ref g) [.ref a] (cT pos (bi args X.env)) (gh pos (dX [] X.env))) Q X.xe s1)
  (ht:eval (.Call (.Attribute e m apos) args [] pos) X.env=(do
   let ov <- eval e X.env
   lh apos.atName
   let (f,first) <- holding [ov] (getMethod ov m pl)
   ie pos f first (cT pos (bi args X.env)) (gh pos (dX [] X.env)))) :
  bg (bc X.prog X.w) X.A (eval (.Call (.Attribute e m apos) args [] pos) X.env) Q X.xe s:=by
 refine fR (pl:=pl) (thn (he pins s σ H _ I h) fun u s1 ⟨x,H1,I1,rx,a,C,dx,fs,g,ex,ea,c,k,l,q⟩=>?_) ht
 subst ex
 obtain rfl:u=am.ref a:=rx
 exact kY I1 ea c k l (q s1 I1)
end
section
variable {X:Cx}{pins:List (aE × Obj)}{σ:St}{H:Hp}{s:ax}{A:bo}{E:am->ax->Prop}{Q:am->ax->Prop}{c:am}{b:Bool}
inductive kf (K:au) (H:Hp):V->am->Prop where
  | non:kf K H .non (.type "NoneType")
  | bl (x:Bool):kf K H (.bl x) (.type "bool")
  | int (i:Int):kf K H (.int i) (.type "int")
  | str (x:Str):kf K H (.str x) (.type "str")
  | flt (x:UInt64):kf K H (.flt x) (.type "float")
  | lst {a:aE} {xs:List V} (e:H a=some (.lst xs)):kf K H (.ref a) (.type "list")
  | frz {a:aE} {o:Obj} {xs:List V} (e:H a=some (.frz o (.lst xs))):kf K H (.ref a) (.type "list")
  | tup {a:aE} {xs:List V} (e:H a=some (.tup xs)):kf K H (.ref a) (.type "tuple")
  | dK {a:aE} {kvs:List (Key × V)} (e:H a=some (.dK kvs)):kf K H (.ref a) (.type "dict")
  | dT {a:aE} {kvs:List (List Key × V)} (e:H a=some (.dT kvs)):kf K H (.ref a) (.type "dict")
  | ins {a C dx : aE} {fs : List (Str × V)} (e : H a = some (.ins C dx fs)) (cl : Cls K C) (ha : bz K (.ref C) "__class__" = some (some (.builtin "object.__class__")))
      (hn:fB K (.builtin "object.__class__") "__get__"=some (some (.builtin "getset_descriptor.__get__"))) (htk:iJ K (.builtin "object.__class__")=some true)
      (hm:PySem.W.mroIn K C (.type "object")=some true):kf K H (.ref a) (.ref C)
theorem Yk {x:V}{u t:am}(I:Inv X pins σ H s)(rx:zC x u)(ty:kf X.K H x t)(e:iX X.K t c=some b)(h:∀ tk,Q (.bool b) { s with toks:=tk }) :
  bg (bc X.prog X.w) A (call (.builtin "isinstance") [u,c]) Q E s:=by
 cases ty with
 | non=>cases (show u=am.none from rx);exact cr md I.kIn True.intro e (fun z=>nomatch z) h
 | bl y=>cases (show u=am.bool y from rx);exact cr me I.kIn True.intro e (fun z=>nomatch z) h
 | int i=>obtain ⟨t,q⟩:=(show ∃ t,u=am.int i t from rx);cases q;exact cr mz I.kIn True.intro e (fun z=>nomatch z) h
 | str y=>obtain ⟨t,q⟩:=(show ∃ t,u=am.str y t from rx);cases q;exact cr mB I.kIn True.intro e (fun z=>nomatch z) h
 | flt y=>obtain ⟨t,q⟩:=(show ∃ t,u=am.float y t from rx);cases q;exact cr lK I.kIn True.intro e (fun z=>nomatch z) h
 | @lst a xs ea=>
  cases (show u=am.ref a from rx)
  obtain ⟨_,_,n,_,h1⟩:=(show zS X.prog X.w H s.heap a (.lst xs) from I.hok a _ ea)
  exact cr fC I.kIn ⟨_,h1,rfl⟩ e (fun z=>nomatch z) h
 | @frz a ob xs ea=>
  cases (show u=am.ref a from rx)
  obtain ⟨_,_,_,n,_,h1⟩:=(show zS X.prog X.w H s.heap a (.frz ob (.lst xs)) from I.hok a _ ea)
  exact cr fC I.kIn ⟨_,h1,rfl⟩ e (fun z=>nomatch z) h
 | @tup a xs ea=>
  cases (show u=am.ref a from rx)
  obtain ⟨_,_,_,p⟩:=(show zS X.prog X.w H s.heap a (.tup xs) from I.hok a _ ea)
  obtain ⟨o,h1,h2,_⟩:=p
  exact cr lL I.kIn ⟨o,h1,h2⟩ e (fun z=>nomatch z) h
 | @dK a kvs ea=>
  cases (show u=am.ref a from rx)
  obtain ⟨_,_,vs,_,p⟩:=(show zS X.prog X.w H s.heap a (.dK kvs) from I.hok a _ ea)
  obtain ⟨o,es,ep,h1,h2,_⟩:=p
  exact cr fD I.kIn ⟨o,h1,h2.1⟩ e (fun z=>nomatch z) h
 | @dT a kvs ea=>
  cases (show u=am.ref a from rx)
  obtain ⟨_,_,xs,_,o,es,ep,h1,h2,_⟩:=(show zS X.prog X.w H s.heap a (.dT kvs) from I.hok a _ ea)
  exact cr fD I.kIn ⟨o,h1,h2.1⟩ e (fun z=>nomatch z) h
 | @ins a C dx fs ea cl ha hn htk hm=>
  cases (show u=am.ref a from rx)
  obtain ⟨mA,O,_⟩:=yH I.hok ea
  obtain ⟨od,J,_⟩:=O.look
  exact cr (PySem.W.kitx_own (cl.get _) cl.hd ha hn htk hm) I.kIn J e (fun z=>nomatch z) h
end
structure qj (k:Nat)(A:bo):Prop where
 hd:A.handled=none
 gd:A.guards=some []
 dp:A.depth+3 * k+5<iY
 un:A.units+16 * k+200<iK
variable {j k:Nat}
theorem qj.mono (r:qj k A)(h:j<=k):qj j A:=⟨r.hd,r.gd,by have:=r.dp;omega,by have:=r.un;omega⟩
theorem qj.deeper (r:qj (k+1) A)(env:Env):qj k (A.deeper env):=
 ⟨r.hd,r.gd,by have:=r.dp;show A.depth+1+3 * k+5<_;omega,by have:=r.un;show A.units+3+16 * k+200<_;omega⟩
variable {kw:List (Str × am)}
theorem Jz:(A.under (.builtin "type.__call__" ⟨.ref C :: us,kw⟩)).depth=A.depth+1:=by
 first | rfl | simp [bo.under,mf.weight,mf.isCreation,mf.isGuard,mf.isCaller,mf.frames,mf.isFrame,guardIds]
theorem J4:(A.under (.builtin "type.__call__" ⟨.ref C :: us,kw⟩)).units=A.units+1:=by
 first | rfl | simp [bo.under,mf.cUnits,mf.frames,mf.isFrame]
theorem QZ:(A.under (.builtin "type.__call__" ⟨.ref C :: us,kw⟩)).guards=A.guards:=by
 first | rfl | (simp [bo.under,mf.guards,pushGuards,mf.isGuard,guardIds])
theorem qj.make (r:qj (k+1) A)(C:aE)(us:List am)(kw:List (Str × am)):qj k (A.under (.builtin "type.__call__" ⟨.ref C :: us,kw⟩)):=
 ⟨r.hd,(QZ).trans r.gd,by have:=r.dp;rw [Jz];omega,by have:=r.un;rw [J4];omega⟩
theorem qj.depth (r:qj k A):A.depth<iY:=by have:=r.dp;omega
theorem qj.units (r:qj k A):A.units+64<iK:=by have:=r.un;omega
noncomputable def Qv:TA:=fun _ H Q=>Q [] H
noncomputable def vA (ta:TE)(tr:TA):TA:=fun σ H Q=>ta σ H fun x H1=>tr σ H1 fun xs H2=>Q (x :: xs) H2
section
variable {X:Cx}{e:Expr}{es:List Expr}{te:TE}{t:TA}{pos:Pos}
theorem zb:PA X [] Qv:=fun _ _ _ _ H Q I h=>Calls.spliced_nil ⟨[],H,I,.nil,h⟩
theorem za (ha:PE X e te)(hr:PA X es t)(hs:bi (e :: es) X.env=(false,eval e X.env) :: bi es X.env:=by rfl):PA X (e :: es) (vA te t):=by
 intro pos pins s σ H Q I h
 rw [hs]
 show bg _ _ (spliced ((false,eval e X.env) :: cT pos (bi es X.env))) _ _ s
 refine Calls.spliced_cons (thn (ha pins s σ H _ I h) fun u s1 ⟨x,H1,I1,r1,q1⟩=>?_)
 exact thn (hr pos pins s1 σ H1 _ I1 q1) fun us s2 ⟨xs,H2,I2,r2,q2⟩=>⟨x :: xs,H2,I2,.cons r1 r2,q2⟩
noncomputable def Wt (t:TA):TE:=fun σ H Q=>t σ H fun xs H1=>xs.length<=aT/\∀ p,H1 p=none->Q (.ref p) (upd H1 p (.tup xs))
noncomputable def Hn (t:TA):TE:=fun σ H Q=>t σ H fun xs H1=>xs.length<=aT/\∀ p,H1 p=none->Q (.ref p) (upd H1 p (.lst xs))
theorem zU {x1}(h:PA X es t):PE X (.Tuple es x1 pos) (Wt t):=by
 intro pins s σ H Q I hq
 refine wpAny_Tuple_spliced (thn (h pos pins s σ H _ I hq) fun us s1 ⟨xs,H1,I1,r,z,q⟩=>⟨by rw [<- r.length];exact z,?_⟩)
 have hf:H1 s1.heap.objs.size=none:=I1.hok.fresh (aL _)
 refine ⟨.ref s1.heap.objs.size,upd H1 s1.heap.objs.size (.tup xs),I1.laid (t':=s1.toks) (fun b u e=>aG _ e) (aL _) ?_,rfl,q _ hf⟩
 exact ⟨z,us,r,⟨_,aY _ rfl,rfl,⟨_,rfl⟩,rfl⟩⟩
theorem zK (h:PA X es t):PE X (.List es pos) (Hn t):=by
 intro pins s σ H Q I hq
 refine wpAny_List_spliced (thn (h pos pins s σ H _ I hq) fun us s1 ⟨xs,H1,I1,r,z,q⟩=>⟨by rw [<- r.length];exact z,?_⟩)
 have hf:H1 s1.heap.objs.size=none:=I1.hok.fresh (aL _)
 refine ⟨.ref s1.heap.objs.size,upd H1 s1.heap.objs.size (.lst xs),I1.laid (t':=s1.toks) (fun b u e=>aG _ e) (aL _) ?_,rfl,q _ hf⟩
 exact ⟨z,us,0,r,aY _ rfl⟩
end
abbrev Sp:=List V->Hp->VK->XK->Prop
abbrev CXT:=List Env->Hp->ax->XK->am->ax->Prop
structure JX (P:bf)(w:bC)(K:au)(mg:Str->Option am)(base:Heap)(A:bo)(outer:List Env)(s:ax)(H:Hp):Prop where
 frames:A.frames=some outer
 mod:Mod K mg base
 bs:∀ b o,base.get? b=some o->s.heap.get? b=some o/\H b=none
 bsz:base.objs.size<=s.heap.objs.size
 funs:s.heap.FunFrames base outer
 frf:∀ b ∈ frs outer,H b=none
 hok:HOk P w H s.heap
 bare:gD s.gens
def CE (outer:List Env)(P:bf)(w:bC)(H:Hp)(s:ax)(Q:VK)(u:am)(s':ax):Prop:=
 ∃ v H',s'.os=s.os/\gD s'.gens/\Un (frs outer) [] H H' s.heap s'.heap/\HOk P w H' s'.heap/\zC v u/\Q v H'
def CR (CX:CXT)(outer:List Env)(P:bf)(w:bC)(H:Hp)(s:ax)(Q:VK)(E:XK)(r:ms)(s':ax):Prop:=
 match r with
 | .ok (.ret u)=>CE outer P w H s Q u s'
 | .ok _=>False
 | .error e=>CX outer H s E e s'
structure qS (P:bf)(w:bC)(K:au)(mg:Str->Option am)(base:Heap)(CX:CXT)(k:Nat)(f:aE)(fd:dv)(ps:List Str)(sp:Sp):Prop where
 len:∀ vs H Q E,sp vs H Q E->vs.length=ps.length
 run:∀ (A:bo) (outer:List Env) (s:ax) (H:Hp) (args:Args) (us:List am) (vs:List V) (Q:VK) (E:XK),qj k A->JX P w K mg base A outer s H->lj s fd args (ps.zip us)->zx vs us->sp vs H Q E ->
  fA (bc P w) A (.call (.ref f) args) (CR CX outer P w H s Q E) s
variable {mg:Str->Option am} {base:Heap} {CX:CXT} {fd:dv} {ps:List Str} {sp:Sp}
theorem qS.mono {f:aE} (F:qS P w K mg base CX j f fd ps sp)(h:j<=k) :
  qS P w K mg base CX k f fd ps sp:=⟨F.len,fun A outer s H args us vs Q E hr=>F.run A outer s H args us vs Q E (hr.mono h)⟩
theorem qS.imp {f:aE} {sp sp':Sp}(F:qS P w K mg base CX k f fd ps sp)
  (h:∀ vs H Q E,sp' vs H Q E->sp vs H Q E):qS P w K mg base CX k f fd ps sp':=
 ⟨fun vs H Q E q=>F.len vs H Q E (h _ _ _ _ q),fun A outer s H args us vs Q E hr he hb hv hs=>F.run A outer s H args us vs Q E hr he hb hv (h _ _ _ _ hs)⟩
theorem JX.make {outer:List Env} (e:JX P w K mg base A outer s H)(C:aE)(us:List am)(kw:List (Str × am)) :
  JX P w K mg base (A.under (.builtin "type.__call__" ⟨.ref C :: us,kw⟩)) outer s H:=⟨by first | exact e.frames | (simpa [bo.under,mf.envs,mf.isFrame,pushEnvs] using e.frames),e.mod,e.bs,e.bsz,e.funs,e.frf,e.hok,e.bare⟩
section
variable {X:Cx}{pins:List (aE × Obj)}{σ:St}{H:Hp}{s s':ax}
theorem Inv.env0 (I:Inv X pins σ H s):JX X.prog X.w X.K X.mg X.base X.A X.stack s H:=
 ⟨I.ok.frames,I.ok.mod,I.bs,bu I.ok.bsz I.sz,I.stack,I.stkFree,I.hok,I.bare⟩
theorem Inv.after {Q:VK}{u:am}(I:Inv X pins σ H s)(h:CE X.stack X.prog X.w H s Q u s'):EP X pins σ Q u s':=by
 obtain ⟨v,H',os,bare,un,hok,r,q⟩:=h
 obtain ⟨hh,g,d,t,os'⟩:=s'
 obtain rfl:os'=s.os:=os
 exact ⟨v,H',I.call (h':=hh) (g':=g) (d':=d) (t':=t) (ch:=[]) un hok bare (fun b z=>absurd z (by simp)),r,q⟩
end
noncomputable def Xm (sp:Sp)(dvs:List V)(E:XK)(t:TA):TE:=fun σ H Q=>t σ H fun vs H1=>sp (vs ++ dvs) H1 Q E
noncomputable def wZ (C:aE)(m:Str)(sp:Sp)(dvs:List V)(E:XK)(ta:TE)(t:TA):TE:=fun σ H Q=>ta σ H fun x H1=>∃ a dx fs,x=.ref a/\H1 a=some (.ins C dx fs)/\fs.lookup m=none /\
 t σ H1 fun vs H2=>sp (x :: (vs ++ dvs)) H2 Q E
noncomputable def Xe (C:aE)(sp:Sp)(dvs:List V)(E:XK)(t:TA):TE:=fun σ H Q=>t σ H fun vs H1=>∀ x dx,H1 x=none->H1 dx=none->dx ≠ x ->
 sp (.ref x :: (vs ++ dvs)) (upd (upd H1 dx (.own x)) x (.ins C dx [])) (fun v H2=>v=.non/\Q (.ref x) H2) E
def ja (K:au)(fd:dv)(ps:List Str)(ds:List am):Prop:=
 ∀ (s:ax) (us:List am),K.In s.heap->(us ++ ds).length=ps.length->lj s fd ⟨us,[]⟩ (ps.zip (us ++ ds))
theorem ja.all (h:∀ us:List am,us.length=ps.length->gi fd ⟨us,[]⟩=pure (ps.zip us)):ja K fd ps []:=fun s us _ hl=>by
 rw [b9] at hl ⊢
 exact .of_eq (h us hl)
def ki (CX:CXT)(X:Cx)(E:XK):Prop:=∀ (pins:List (aE × Obj)) (σ:St) (H:Hp) (s:ax) (e:am) (s':ax),Inv X pins σ H s->CX X.stack H s E e s'->X.xe e s'
section
variable {X:Cx}{CX:CXT}{k:Nat}{f C:aE}{fd:dv}{ps:List Str}{sp:Sp}{dvs:List V}{ds:List am}{E:XK}{x m:Str}{p pos apos:Pos}{e o:Expr}{es:List Expr}{ta:TE}{t:TA}
theorem ZR {pins:List (aE × Obj)}{σ:St}{H:Hp}{s:ax}{Q:VK}{us:List am}{vs:List V}(F:qS X.prog X.w X.K X.mg X.base CX k f fd ps sp)(hr:qj k X.A)(hb:ja X.K fd ps ds)(hd:zx dvs ds)(hx:ki CX X E)
  (I:Inv X pins σ H s) (r:zx vs us) (h:sp (vs ++ dvs) H Q E):bg (bc X.prog X.w) X.A (call (.ref f) us) (EP X pins σ Q) X.xe s:=by
 have r2:zx (vs ++ dvs) (us ++ ds):=r.append hd
 have hl:(us ++ ds).length=ps.length:=by rw [<- r2.length];exact F.len _ _ _ _ h
 refine iw (fE (F.run X.A X.stack s H ⟨us,[]⟩ (us ++ ds) (vs ++ dvs) Q E hr I.env0 (hb s us I.kIn hl) r2 h) fun r s' hq=>?_)
 cases r with
 | error e=>exact hx pins σ H s e s' I hq
 | ok fl=>
  cases fl with
  | ret u=>exact I.after hq
  | next=>exact cg hq
  | brk=>exact cg hq
  | cont=>exact cg hq
theorem Dx (F:qS X.prog X.w X.K X.mg X.base CX k f fd ps sp)(hr:qj k X.A)(hg:Gl X x)(hm:X.mg x=some (.ref f))(hk:cF X.K (.ref f)=true)(hb:ja X.K fd ps ds)(hd:zx dvs ds)(hx:ki CX X E)
  (ha:PA X (e :: es) t) (hdb:(x == ("__debug__":Str))=false:=by decide) (he:bi (e :: es) X.env=(false,eval e X.env) :: bi es X.env:=by rfl) (hpl:(cT pos (bi es X.env)).any (·.1)=false:=by rfl) :
  PE X (.Call (.Name x p) (e :: es) [] pos) (Xm sp dvs E t):=by
 intro pins s σ H Q I h
 refine dw (jd I hg hm ?_ hdb)
 refine d8 (h₀:=X.base) I.ok.mod.kin hk (thn (ha pos pins s σ H _ I h) fun us s1 ⟨vs,H1,I1,r,q⟩=>⟨I1.kIn,?_⟩) he hpl
 exact ZR F hr hb hd hx I1 r q
variable {pl:Sem Bool}
theorem Dp (he:PE X o ta)(c:Cls X.K C)(hm:XS X.K C m f)(F:qS X.prog X.w X.K X.mg X.base CX k f fd ps sp)(hr:qj k X.A)(hb:ja X.K fd ps ds)(hd:zx dvs ds)(hx:ki CX X E)(ha:PA X (e :: es) t)
  (hst:bi (e :: es) X.env=(false,eval e X.env) :: bi es X.env:=by rfl) (hpl:(cT pos (bi es X.env)).any (·.1)=false:=by rfl)
  (ht:eval (.Call (.Attribute o m apos) (e :: es) [] pos) X.env=(do
   let ov <- eval o X.env
   lh apos.atName
   let (f,first) <- holding [ov] (getMethod ov m pl)
   ie pos f first (cT pos (bi (e :: es) X.env)) (gh pos (dX [] X.env))):=by rfl) :
  PE X (.Call (.Attribute o m apos) (e :: es) [] pos) (wZ C m sp dvs E ta t):=by
 intro pins s σ H Q I h
 refine fR (pl:=pl) (thn (he pins s σ H _ I h) fun u s1 ⟨x,H1,I1,rx,a,dx,fs,ex,ea,l,q⟩=>?_) ht
 subst ex
 obtain rfl:u=am.ref a:=rx
 refine kY I1 ea c hm l ?_
 refine d8 (first:=[.ref a]) (h₀:=X.base) I.ok.mod.kin hm.kp (thn (ha pos pins s1 σ H1 _ I1 q) fun us s2 ⟨vs,H2,I2,r,q2⟩=>⟨I2.kIn,?_⟩) hst hpl
 exact ZR (us:=.ref a :: us) (vs:=.ref a :: vs) F hr hb hd hx I2 (.cons rfl r) q2
theorem VU (he:PE X o ta)(c:Cls X.K C)(hm:XS X.K C m f)(F:qS X.prog X.w X.K X.mg X.base CX k f fd ps sp)(hr:qj k X.A)(hb:ja X.K fd ps ds)(hd:zx dvs ds)(hx:ki CX X E)
  (ht:eval (.Call (.Attribute o m apos) [] [] pos) X.env=(do
   let ov <- eval o X.env
   lh apos.atName
   let (f,first) <- holding [ov] (getMethod ov m pl)
   ie pos f first (cT pos (bi [] X.env)) (gh pos (dX [] X.env))):=by rfl) :
  PE X (.Call (.Attribute o m apos) [] [] pos) (wZ C m sp dvs E ta Qv):=by
 intro pins s σ H Q I h
 refine fR (pl:=pl) (thn (he pins s σ H _ I h) fun u s1 ⟨x,H1,I1,rx,a,dx,fs,ex,ea,l,q⟩=>?_) ht
 subst ex
 obtain rfl:u=am.ref a:=rx
 refine kY I1 ea c hm l ?_
 exact PySem.W.callWith_K0 (first:=[.ref a]) I1.kIn hm.kp (ZR (us:=[.ref a]) (vs:=[.ref a]) F hr hb hd hx I1 (.cons rfl .nil) q)
structure Mk (K:au)(C f:aE):Prop where
 makes:iI K C=true
 init:bz K (.ref C) "__init__"=some (some (.ref f))
 fn:eP K (.ref f)=true
 kp:cF K (.ref C)=true
theorem Vr {pins:List (aE × Obj)}{σ:St}{H:Hp}{s:ax}{Q:VK}{us:List am}{vs:List V}(M:Mk X.K C f)(F:qS X.prog X.w X.K X.mg X.base CX k f fd ps sp)(hr:qj (k+1) X.A)(hb:ja X.K fd ps ds)(hd:zx dvs ds)
  (hx:ki CX X E) (I:Inv X pins σ H s) (r:zx vs us)
  (h:∀ x dx,H x=none->H dx=none->dx ≠ x->sp (.ref x :: (vs ++ dvs)) (upd (upd H dx (.own x)) x (.ins C dx [])) (fun v H2=>v=.non/\Q (.ref x) H2) E) :
  bg (bc X.prog X.w) X.A (call (.ref C) us) (EP X pins σ Q) X.xe s:=by
 have hq:=h (s.heap.objs.size+1) s.heap.objs.size (I.hok.fresh (mP _)) (I.hok.fresh (aL _)) (bE (my _))
 have I2:=Inv.made (C:=C) I
 have r2:zx (V.ref (s.heap.objs.size+1) :: (vs ++ dvs)) (am.ref (s.heap.objs.size+1) :: (us ++ ds)):=.cons rfl (r.append hd)
 have hl:(am.ref (s.heap.objs.size+1) :: us ++ ds).length=ps.length:=by
  have e:=r2.length
  rw [F.len _ _ _ _ hq] at e
  exact e.symm
 refine iw (V2 (f:=f) I.kIn M.makes M.init (beq_iff_eq.mp M.fn) (fE (F.run _ X.stack _ _ ⟨am.ref (s.heap.objs.size+1) :: us,[]⟩ (am.ref (s.heap.objs.size+1) :: (us ++ ds)) _ _ E (hr.make C us [])
  (I2.env0.make C us []) (hb _ (am.ref (s.heap.objs.size+1) :: us) I2.kIn hl) r2 hq) fun r s' hq'=>?_))
 cases r with
 | error e=>exact hx pins σ _ _ e s' I2 hq'
 | ok fl=>
  cases fl with
  | ret u=>
   obtain ⟨v,H',I3,rv,ev,q3⟩:=I2.after hq'
   subst ev
   exact ⟨rv,⟨V.ref (s.heap.objs.size+1),H',I3,rfl,q3⟩⟩
  | next=>exact cg hq'
  | brk=>exact cg hq'
  | cont=>exact cg hq'
theorem EO (M:Mk X.K C f)(F:qS X.prog X.w X.K X.mg X.base CX k f fd ps sp)(hr:qj (k+1) X.A)(hg:Gl X x)(hm:X.mg x=some (.ref C))(hb:ja X.K fd ps ds)(hd:zx dvs ds)(hx:ki CX X E)
  (ha:PA X (e :: es) t) (hdb:(x == ("__debug__":Str))=false:=by decide) (he:bi (e :: es) X.env=(false,eval e X.env) :: bi es X.env:=by rfl) (hpl:(cT pos (bi es X.env)).any (·.1)=false:=by rfl) :
  PE X (.Call (.Name x p) (e :: es) [] pos) (Xe C sp dvs E t):=by
 intro pins s σ H Q I h
 refine dw (jd I hg hm ?_ hdb)
 refine d8 (h₀:=X.base) I.ok.mod.kin M.kp (thn (ha pos pins s σ H _ I h) fun us s1 ⟨vs,H1,I1,r,q⟩=>⟨I1.kIn,?_⟩) he hpl
 exact Vr M F hr hb hd hx I1 r q
end
section
variable {X:Cx}{CX:CXT}{k:Nat}{f C:aE}{fd:dv}{ps ks:List Str}{sp:Sp}{E:XK}{x m:Str}{p pos apos kpos:Pos}{e o:Expr}{es:List Expr}{kws:List lm}{te ta:TE}{t tk:TA}{nm:Option Str}
structure Nd (K:au)(fd:dv)(ps ks:List Str)(g:List am->List am->List am)(gV:List V->List V->List V):Prop where
 to:∀ (s:ax) (us ws:List am),K.In s.heap->(g us ws).length=ps.length->lj s fd ⟨us,ks.zip ws⟩ (ps.zip (g us ws))
 rel:∀ {vs:List V} {us:List am} {zs:List V} {ws:List am},zx vs us->zx zs ws->zx (gV vs zs) (g us ws)
variable {g:List am->List am->List am}{gV:List V->List V->List V}
end
structure zp (N P:List Str)(sc:Scope):Prop where
 kind:sc.kind=.function
 co:sc.isCoroutine=false
 gen:sc.isGenerator=false
 nd:N.Nodup
 pre:N.take P.length=P
 par:∀ x ∈ P,sc.names.lookup x=some .local \/ sc.names.lookup x=some .cell
 nofree:∀ y ∈ sc.names,y.2 ≠ .free
theorem wD {kindOf:Str->Option bW}{x:Str}:∀ {binds:List (Str × am)} {m:Str->Option am},(∀ v,(x,v) ∉ binds)->mT kindOf binds m x=m x
 | [],_,_=>rfl
 | (n,v) :: r,m,h=>by
  unfold mT
  rw [wD fun w hw=>h w (ba _ hw)]
  split
  ·have:x ≠ n:=by rintro rfl;exact h v cK
   simp [this]
  ·rfl
theorem wg {kindOf:Str->Option bW}{x:Str}:∀ {binds:List (Str × am)} {m:Str->Option am},(∀ v,(x,v) ∉ binds)->mU kindOf binds m x=m x
 | [],_,_=>rfl
 | (n,v) :: r,m,h=>by
  unfold mU
  rw [wg fun w hw=>h w (ba _ hw)]
  split
  ·rfl
  ·have:x ≠ n:=by rintro rfl;exact h v cK
   simp [this]
theorem wW {kindOf:Str->Option bW}{x:Str}{v:am}:∀ {P:List Str} {vs:List am} {i:Nat} {m:Str->Option am},P.Nodup->P[i]?=some x->vs[i]?=some v->kindOf x=some .local ->
  mT kindOf (P.zip vs) m x=some v
 | [],_,_,_,_,h,_,_=>by simp at h
 | _ :: _,[],_,_,_,_,h,_=>by simp at h
 | p :: P,w :: vs,0,m,nd,h1,h2,hk=>by
  simp at h1 h2;subst h1;subst h2
  show mT kindOf ((p,w) :: P.zip vs) m p=_
  unfold mT
  rw [wD fun v hv=>(fg.mp nd).1 (iL hv).1,if_pos hk]
  simp
 | p :: P,w :: vs,i+1,m,nd,h1,h2,hk=>by
  show mT kindOf ((p,w) :: P.zip vs) m x=_
  unfold mT
  exact wW (i:=i) (fg.mp nd).2 (by simpa using h1) (by simpa using h2) hk
theorem wf {kindOf:Str->Option bW}{x:Str}{v:am}:∀ {P:List Str} {vs:List am} {i:Nat} {m:Str->Option am},P.Nodup->P[i]?=some x->vs[i]?=some v->kindOf x ≠ some .local ->
  mU kindOf (P.zip vs) m x=some v
 | [],_,_,_,_,h,_,_=>by simp at h
 | _ :: _,[],_,_,_,_,h,_=>by simp at h
 | p :: P,w :: vs,0,m,nd,h1,h2,hk=>by
  simp at h1 h2;subst h1;subst h2
  show mU kindOf ((p,w) :: P.zip vs) m p=_
  unfold mU
  rw [wg fun v hv=>(fg.mp nd).1 (iL hv).1,if_neg hk]
  simp
 | p :: P,w :: vs,i+1,m,nd,h1,h2,hk=>by
  show mU kindOf ((p,w) :: P.zip vs) m x=_
  unfold mU
  exact wf (i:=i) (fg.mp nd).2 (by simpa using h1) (by simpa using h2) hk
noncomputable def qF (N:List Str)(vs:List V):St:=vs.map some ++ aH (N.length - vs.length) none
noncomputable def kJ (CX:CXT)(P:bf)(w:bC)(K:au)(mg:Str->Option am)(base:Heap)(N:List Str)(qual:Str)(scope:Scope)(f:aE)(cd:am)(A:bo)(outer:List Env)(s:ax)(H:Hp)(E:XK):Cx where
 prog:=P
 w:=w
 K:=K
 mg:=mg
 base:=base
 A:=A.deeper (fF qual scope s.heap.objs.size f cd)
 N:=N
 s₀:=s
 H₀:=H
 env:=fF qual scope s.heap.objs.size f cd
 outer:=outer
 stack:=fF qual scope s.heap.objs.size f cd :: outer
 ex:=[]
 calm:=true
 fn:=fun _=>true
 pn:=[]
 xe:=fun e s'=>bg (bc P w) (A.deeper (fF qual scope s.heap.objs.size f cd)) (leaving (fF qual scope s.heap.objs.size f cd) e) (fun _ s''=>CX outer H s E e s'') (fun e' s''=>CX outer H s E e' s'') s'
theorem QM {sc:Scope} {x:Str}(h:sc.names.lookup x=some .cell):∃ c,(cellsFrom n sc.names []).lookup x=some c:=by
 have q:=iz sc.names n [] (.inl h)
 exact hZ.mp q
theorem YU {CX : CXT}{P : bf}{w : bC}{K : au}{mg : Str -> Option am}{base : Heap}{N ps : List Str}{qual : Str}{scope : Scope}{f : aE}{cd : am}{A : bo}{outer : List Env}{s s1 : ax}{H : Hp}{E : XK}{us : List am}{vs : List V}
    (S:zp N ps scope) (hd:A.handled=none) (e0:JX P w K mg base A outer s H) (hl:vs.length=ps.length) (r:zx vs us)
    (x:InCallC s s.heap.objs.size (mT (fF qual scope s.heap.objs.size f cd).kindOf (ps.zip us) fun _=>none) (cellsFrom (s.heap.objs.size+1) scope.names []) (mU (fF qual scope s.heap.objs.size f cd).kindOf (ps.zip us) fun _=>none) s1) :
    Inv (kJ CX P w K mg base N qual scope f cd A outer s H E) [] (qF N vs) H s1:=by
  have hpl:ps.length<=N.length:=by have:=congrArg gk S.pre;rw [ca] at this;omega
  obtain ⟨h1,tk,rfl,hk⟩:=x.done
  have noA:∀ b:aE,b ∉ (kJ CX P w K mg base N qual scope f cd A outer s H E).ex:=fun b z=>absurd (show b ∈ ([]:List aE) from z) (by simp)
  refine ⟨⟨e0.mod,S.kind,rfl,rfl,aL _,fun y z c h1 h2=>?_,fun y hy=>?_,fun y c _ h=>?_,fun _=>hd,bo.frames_deeper e0.frames,.inr ⟨rfl,rfl⟩,fun b z=>absurd z (noA b),e0.bs,e0.bsz,fun b _ _=>noA b,fun b z=>absurd z (noA b),e0.funs,e0.frf⟩,
    rfl,e0.bare,Un.kept hk,⟨_,x.toInCall.ns,fun i y v h1 h2 h3=>?_⟩,fun y c h=>⟨_,x.cell y c h⟩,e0.hok.fresh (aL _),fun y c h=>?_,fun p hp=>absurd (show p ∈ ([]:List (aE × Obj)) from hp) (by simp),e0.hok.kept hk,?_⟩
  · exact name_of_addr x.apart (dO h1) (dO h2)
  · have hy:scope.names.lookup y=some .cell \/ scope.names.lookup y=some .free:=hy
    rcases hy with hy | hy
    · exact QM hy
    · exact absurd rfl (S.nofree _ (dO hy))
  · exact lX (x.above y c (dO h))
  · have hi : i < vs.length := by
      unfold qF at h2
      by_cases hi:i<vs.length
      · exact hi
      · rw [cO (by simpa using hi)] at h2
        rw [dQ] at h2
        split at h2 <;> cases h2
    have ha:vs[i]?=some v:=by
      unfold qF at h2
      rw [cy (by simpa using hi),aK] at h2
      cases e:vs[i]? with
      | none=>rw [e] at h2;cases h2
      | some a=>rw [e] at h2;cases h2;rfl
    obtain ⟨u,hu,rv⟩:=r.get ha
    have hp:ps[i]?=some y:=by
      rw [<- S.pre,List.getElem?_take_of_lt (by omega)];exact h1
    have ndP:ps.Nodup:=by rw [<- S.pre];exact S.nd.sublist (List.take_sublist _ _)
    refine ⟨u,rv,?_⟩
    rcases S.par y (br hp) with k | k
    · exact .inl ⟨k,wW ndP hp hu k⟩
    · obtain ⟨c,e⟩:=QM (n:=s.heap.objs.size+1) k
      refine .inr ⟨.inl k,c,e,?_⟩
      have q:=x.cell y c e
      rw [wf ndP hp hu (by show scope.names.lookup y ≠ _;rw [k];decide)] at q
      exact q
  · exact e0.hok.fresh (lX (x.above y c (dO h)))
  · unfold qF
    show _=N.length
    rw [aQ,ap,cD]
    omega
theorem FJ {CX:CXT}{P:bf}{w:bC}{K:au}{mg:Str->Option am}{base:Heap}{k:Nat}{f:aE}{name qual:Str}{params:Arguments}{body:List cn}{scope:Scope}{dV kV doc pm cdv ct oc:am}{an od:Option aE}
  {osl:Array (Option am)} {N ps:List Str} {sp:Sp} (lk:K.lookup f=some ⟨oc,od,.func (ck name qual params body scope dV kV doc pm an cdv ct),osl⟩) (hcd:fG K cdv qual=true) (S:zp N ps scope)
  (len:∀ vs H Q E,sp vs H Q E->vs.length=ps.length)
  (hbody:∀ (A:bo) (outer:List Env) (s:ax) (H:Hp) (vs:List V) (Q:VK) (E:XK),qj k (A.deeper (fF qual scope s.heap.objs.size f cdv))->sp vs H Q E ->
   ∃ t,PSs (kJ CX P w K mg base N qual scope f cdv A outer s H E) body t/\t { nx:=fun _ H'=>Q .non H',rt:=Q } (qF N vs) H) :
  qS P w K mg base CX (k+1) f (ck name qual params body scope dV kV doc pm an cdv ct) ps sp:=by
 refine ⟨len,fun A outer s H args us vs Q E hr e0 hb r hsp=>?_⟩
 have hl:=len _ _ _ _ hsp
 have KX:K.In s.heap:=e0.mod.kin.keeps fun b o e=>(e0.bs b o e).1
 have lim:s.heap.NoLimit:=e0.mod.nolimit.keeps fun b o e=>(e0.bs b o e).1
 have hkind:∀ y ∈ ps.zip us,scope.names.lookup y.1=some .local \/ (scope.names.lookup y.1=some .cell/\((cellsFrom (s.heap.objs.size+1) scope.names []).lookup y.1).isSome=true):=fun ⟨n,v⟩ hy=>by
  rcases S.par n (iL hy).1 with q | q
  ·exact .inl q
  ·exact .inr ⟨q,iz _ _ _ (.inl q)⟩
 refine codeAny_call_function hr.depth (KX _ _ lk) rfl S.co S.gen rfl (PySem.W.codeRec_of KX hcd) (hb _ _ _ _ ?_)
 refine wpAny_newFunctionEnv_cells S.kind hkind fun env he s1 x=>?_
 subst he
 refine ⟨lim.keeps x.toInCall.keep,codeAny_func ?_⟩
 obtain ⟨t,ht,hq⟩:=hbody A outer s H vs Q E (hr.deeper _) hsp
 have I:Inv (kJ CX P w K mg base N qual scope f cdv A outer s H E) [] (qF N vs) H s1:=YU S hr.hd e0 hl r x
 refine bF (ht [] s1 (qF N vs) H _ I hq) (fun fl s' hs=>?_) fun e s' hs=>hs
 have fin:∀ {σ':St} {H':Hp} {v:V} {u:am},Inv (kJ CX P w K mg base N qual scope f cdv A outer s H E) [] σ' H' s'->zC v u->Q v H'->CE outer P w H s Q u s':=
  fun {σ' H' v u} J rv q=>⟨v,H',J.os,J.bare,J.base,J.hok,rv,q⟩
 cases fl with
 | ret u=>
  obtain ⟨v,σ',H',J,rv,q⟩:=hs
  exact fin J rv q
 | next=>
  obtain ⟨σ',H',J,q⟩:=hs
  exact fin (v:=V.non) (u:=am.none) J rfl q
 | brk=>
  obtain ⟨_,_,_,q⟩:=hs
  exact cg q
 | cont=>
  obtain ⟨_,_,_,q⟩:=hs
  exact cg q
section
variable {X:Cx}{x:Str}{p pos:Pos}{e:Expr}{es:List Expr}{t:TA}{id T:String}{r:List V->Hp->VK->Prop}
noncomputable def tCB (r:List V->Hp->VK->Prop)(t:TA):TE:=fun σ H Q=>t σ H fun vs H1=>r vs H1 Q
theorem zn (hc:qB X (.builtin id) r)(hg:Gl X x)(hm:X.mg x=none)(hv:bR x=some (.builtin id))(ha:PA X (e :: es) t)(hn:x ≠ "__name__":=by decide)(hdb:(x == ("__debug__":Str))=false:=by decide)
  (he:bi (e :: es) X.env=(false,eval e X.env) :: bi es X.env:=by rfl) (hpl:(cT pos (bi es X.env)).any (·.1)=false:=by rfl):PE X (.Call (.Name x p) (e :: es) [] pos) (tCB r t):=by
 intro pins s σ H Q I h
 refine dw (kX I hg hm hv ?_ hn hdb)
 exact PyProof.Rows.callWith_builtin1 (thn (ha pos pins s σ H _ I h) fun us s1 ⟨vs,H1,I1,r1,q1⟩=>hc pins s1 σ H1 vs us Q I1 r1 q1) he hpl
theorem zL (hc:qB X (.type T) r)(hg:Gl X x)(hm:X.mg x=none)(hv:bR x=some (.type T))(ha:PA X (e :: es) t)(hn:x ≠ "__name__":=by decide)(hdb:(x == ("__debug__":Str))=false:=by decide)
  (he:bi (e :: es) X.env=(false,eval e X.env) :: bi es X.env:=by rfl) (hpl:(cT pos (bi es X.env)).any (·.1)=false:=by rfl):PE X (.Call (.Name x p) (e :: es) [] pos) (tCB r t):=by
 intro pins s σ H Q I h
 refine dw (kX I hg hm hv ?_ hn hdb)
 exact cM (thn (ha pos pins s σ H _ I h) fun us s1 ⟨vs,H1,I1,r1,q1⟩=>hc pins s1 σ H1 vs us Q I1 r1 q1) he hpl
end
end L2
namespace HT
open PySem PyProof.Rows
section
open PySem.SeqAt
open PySem.AutoSeq1 (wpAny_loadPart')
open PySem.MeetsSeq PySem.MeetsSeq2 PySem.MeetsSeq3
end
section
variable {prog:bf}{w:bC}{A:bo}{E:am->ax->Prop}{s:ax}
noncomputable def sIx (n d:Nat):Option Int->Nat
 | none=>d
 | some v=>if v<0 then (v+(n:Int)).toNat else min v.toNat n
theorem sIx_none (n d:Nat):sIx n d none=d:=rfl
theorem sIx_nat (n d k:Nat):sIx n d (some (k:Int))=min k n:=by
 show (if (k:Int)<0 then ((k:Int)+(n:Int)).toNat else min (k:Int).toNat n)=min k n
 rw [if_neg (by omega),bB]
theorem sIx_le (n d:Nat)(hd:d<=n)(o:Option Int):sIx n d o<=n:=by
 cases o with
 | none=>exact hd
 | some v=>
  show (if v<0 then (v+(n:Int)).toNat else min v.toNat n)<=n
  by_cases hv:v<0
  ·rw [if_pos hv];omega
  ·rw [if_neg hv];exact Nat.min_le_right _ _
end
end HT
namespace L2
open PySem PySem.Spec PyProof.Rows
abbrev TO:=St->Hp->(Option Int->Hp->Prop)->Prop
def PO (X:Cx)(e:Option Expr)(t:TO):Prop:=
 ∀ (pins:List (aE × Obj)) (s:ax) (σ:St) (H:Hp) (Q:Option Int->Hp->Prop),Inv X pins σ H s->t σ H Q ->
  bg (bc X.prog X.w) X.A (evalPart e X.env) (fun u s'=>∃ o H',Inv X pins σ H' s'/\IsPart u o/\Q o H') X.xe s
noncomputable def Z1:TO:=fun _ H Q=>Q none H
noncomputable def Vd (t:TE):TO:=fun σ H Q=>t σ H fun x H1=>∃ i,x=.int i/\Q (some i) H1
section
variable {X:Cx}{e:Expr}{te:TE}{lo hi:Option Expr}{tl th:TO}{pos p2:Pos}
theorem jz:PO X none Z1:=by
 intro pins s σ H Q I h
 rw [evalPart_none]
 exact bh ⟨none,H,I,.none,h⟩
theorem qP (h:PE X e te):PO X (some e) (Vd te):=by
 intro pins s σ H Q I hw
 rw [evalPart_some]
 refine thn (h pins s σ H _ I hw) fun u s1 ⟨x,H1,I1,r1,q1⟩=>?_
 obtain ⟨i,rfl,q⟩:=q1
 obtain ⟨t,rfl⟩:=r1
 exact ⟨some i,H1,I1,.int i t,q⟩
def SlR (X:Cx)(r:V->Option Int->Option Int->Hp->VK->Prop):Prop:=
 ∀ (pins:List (aE × Obj)) (s:ax) (σ:St) (H:Hp) (x:V) (v vl vu:am) (lo hi:Option Int) (sl:aE) (Q:VK),Inv X pins σ H s->zC x v->s.heap.IsSliceOf sl vl vu .none->IsPart vl lo->IsPart vu hi->r x lo hi H Q ->
  ∃ T id,typeLookup (.type T) "__getitem__"=pure (some (.builtin id))/\s.TypeIs v T/\bg (bc X.prog X.w) X.A (mS v (.ref sl)) (EP X pins σ Q) X.xe s
noncomputable def tSl (r:V->Option Int->Option Int->Hp->VK->Prop)(te:TE)(tl th:TO):TE:=fun σ H Q=>te σ H fun x H1=>tl σ H1 fun l H2=>th σ H2 fun u H3=>r x l u H3 Q
theorem qG {r:V->Option Int->Option Int->Hp->VK->Prop}(hr:SlR X r)(he:PE X e te)(hl:PO X lo tl)(hu:PO X hi th):PE X (.Subscript e (.Slice lo hi none p2) pos) (tSl r te tl th):=by
 intro pins s σ H Q I h
 refine Subscript_ (thn (he pins s σ H _ I h) fun v s1 ⟨x,H1,I1,r1,q1⟩=>?_)
 refine wpAny_Slice (thn (hl pins s1 σ H1 _ I1 q1) fun vl s2 ⟨l,H2,I2,pl,q2⟩=>thn (hu pins s2 σ H2 _ I2 q2) fun vu s3 ⟨u,H3,I3,pu,q3⟩=>?_)
 rw [evalPart_none]
 refine bh ?_
 have I4:Inv X pins σ H3 { s3 with heap:=s3.heap.push { cls:=.type "slice",data:=.fields #[vl,vu,.none] } }:=I3.kept (t':=s3.toks) fun b ob q=>aG _ q
 obtain ⟨T,id,hT,ht,hg⟩:=hr pins { s3 with heap:=s3.heap.push { cls:=.type "slice",data:=.fields #[vl,vu,.none] } } σ H3 x v vl vu l u s3.heap.objs.size Q I4 r1 (Heap.IsSliceOf.new ..) pl pu q3
 show bg (bc X.prog X.w) X.A (subscriptTail e (.Slice lo hi none p2) v (.ref s3.heap.objs.size)) (EP X pins σ Q) X.xe { s3 with heap:=s3.heap.push { cls:=.type "slice",data:=.fields #[vl,vu,.none] } }
 exact tail_any (ops:=[.ref s3.heap.objs.size,v]) ht hT hg (by with_unfolding_all rfl)
noncomputable def Q6 (xs:List V)(lo hi:Option Int):List V:=(xs.drop (HT.sIx xs.length 0 lo)).take (HT.sIx xs.length xs.length hi - HT.sIx xs.length 0 lo)
theorem QT (xs:List V)(lo hi:Option Int):(Q6 xs lo hi).length<=xs.length:=by
 unfold Q6
 rw [ca,cW]
 omega
end
noncomputable def ixN (n:Nat)(i:Int):Option Nat:=if 0<=i then (if i<n then some i.toNat else none) else if -(n:Int)<=i then some (i+n).toNat else none
noncomputable def atI {α:Type}(xs:List α)(i:Int):Option α:=(ixN xs.length i).bind fun j=>xs[j]?
variable {n j:Nat}
theorem KJ {i:Int} (h:ixN n i=some j):seqIndex? i n=some j/\j<n/\-(n:Int)<=i/\i<n:=by
 unfold ixN at h
 by_cases h0:0<=i
 ·rw [if_pos h0] at h
  by_cases h1:i<n
  ·rw [if_pos h1] at h
   have e:i.toNat=j:=bO h
   exact ⟨by rw [seqIndex_of h0 h1,e],by omega,by omega,h1⟩
  ·rw [if_neg h1] at h;cases h
 ·rw [if_neg h0] at h
  by_cases h1:-(n:Int)<=i
  ·rw [if_pos h1] at h
   have e:(i+n).toNat=j:=bO h
   exact ⟨by rw [mh (by omega) h1,e],by omega,h1,by omega⟩
  ·rw [if_neg h1] at h;cases h
theorem Zy {α:Type}{xs:List α}{i:Int}{v:α}(h:atI xs i=some v):∃ j,seqIndex? i xs.length=some j/\xs[j]?=some v/\j<xs.length/\-(xs.length:Int)<=i/\i<xs.length:=by
 unfold atI at h
 cases e:ixN xs.length i with
 | none=>rw [e] at h;cases h
 | some j=>
  rw [e] at h
  obtain ⟨h1,h2,h3,h4⟩:=KJ e
  exact ⟨j,h1,h,h2,h3,h4⟩
theorem BV {α:Type}{xs:List α} {v:α}(h:xs[j]?=some v):atI xs (j:Int)=some v:=by
 have hj:j<xs.length:=(aP.mp h).1
 have e:ixN xs.length (j:Int)=some j:=by
  unfold ixN
  rw [if_pos (by omega),if_pos (by omega)];simp
 unfold atI;rw [e];exact h
def BX (b:Expr):Prop:=∀ o i,iZ b false o i=operate [o,i] (mS o i)
def IxR (X:Cx)(r:R2):Prop:=
 ∀ (value slice:Expr) (pins:List (aE × Obj)) (s:ax) (σ:St) (H:Hp) (x y:V) (v u:am) (Q:VK),Inv X pins σ H s->zC x v->zC y u->r x y H Q ->
  iZ slice false v u=operate [v,u] (mS v u)->bg (bc X.prog X.w) X.A (subscriptTail value slice v u) (EP X pins σ Q) X.xe s
def MtR (X:Cx)(id:String)(r:V->List V->Hp->VK->Prop):Prop:=
 ∀ (pins:List (aE × Obj)) (s:ax) (σ:St) (H:Hp) (x:V) (xs:List V) (v:am) (us:List am) (Q:VK),Inv X pins σ H s->zC x v->zx xs us->r x xs H Q ->
  bg (bc X.prog X.w) X.A (call (.builtin id) (v :: us)) (EP X pins σ Q) X.xe s
section
variable {X:Cx}{a b:Expr}{ta tb:TE}{pos:Pos}
theorem zM {r:R2}(hr:IxR X r)(ha:PE X a ta)(hb:PE X b tb)(hs:BX b):PE X (.Subscript a b pos) (tOp r ta tb):=by
 intro pins s σ H Q I h
 exact Subscript_ (Ie ha hb I h fun v u s2 x y H2 I2 rx ry q=>hr a b pins s2 σ H2 x y v u Q I2 rx ry q (hs _ _))
noncomputable def Ll (K:au):R2:=fun x y H Q=>∃ p xs i v,x=.ref p/\y=.int i/\SqL K H p xs/\atI xs i=some v/\Q v H
noncomputable def Mq (K:au):R2:=fun x y H Q=>∃ p xs i v,x=.ref p/\y=.int i/\SqT K H p xs/\atI xs i=some v/\Q v H
noncomputable def F9:R2:=fun x y H Q=>∃ z i c,x=.str z/\y=.int i/\z.length<=aT/\atI z.cps.toList i=some c/\Q (.str ⟨#[c]⟩) H
theorem qt:IxR X (Ll X.K):=by
  intro value slice pins s σ H x y v u Q I rx ry h hs
  obtain ⟨p,xs,i,z,rfl,rfl,hq,he,q⟩:=h
  cases rx
  obtain ⟨t,rfl⟩:=ry
  obtain ⟨its,r,pl,hz⟩:=I.list hq
  obtain ⟨j,h1,h2,h3,h4,h5⟩:=Zy he
  obtain ⟨w,ew,rw'⟩:=r.get h2
  have hl:=r.length
  have hn:=yg
  have fin:EP X pins σ Q w s:=⟨z,H,I,rw',q⟩
  by_cases h0:0<=i
  · have hj : i.toNat = j := by
      rw [seqIndex_of h0 h5] at h1
      exact bO h1
    exact item_listR pl.isList h0 (by omega) (by rw [hj];simpa using ew) fin hs
  · have hj : (i + (its.toArray.size : Int)).toNat = j := by
      rw [mh (by omega) h4] at h1
      rw [aR,<- hl]
      exact bO h1
    exact subscriptTail_builtinR (x:=w) pl.isList.typeIs slot_list_getitem.lookup
      (wpAny_getItem_list_neg (Q:=fun r s'=>r=w/\EP X pins σ Q r s') pl.isList (by omega) (by rw [aR] <;> omega) (by omega) (by rw [hj];simpa using ew) ⟨rfl,fin⟩) hs
theorem Ip:IxR X (Mq X.K):=by
 intro value slice pins s σ H x y v u Q I rx ry h hs
 obtain ⟨p,xs,i,z,rfl,rfl,hq,he,q⟩:=h
 cases rx
 obtain ⟨t,rfl⟩:=ry
 obtain ⟨its,r,pl,hz⟩:=I.tuple hq
 obtain ⟨j,h1,h2,h3,h4,h5⟩:=Zy he
 obtain ⟨w,ew,rw'⟩:=r.get h2
 have hl:=r.length
 have hn:=yg
 have fin:EP X pins σ Q w s:=⟨z,H,I,rw',q⟩
 exact subscriptTail_builtinR (x:=w) pl.typeIs slot_tuple_getitem.lookup
  (getItem_tuple (j:=j) (Q:=fun r s'=>r=w/\EP X pins σ Q r s') pl (by omega) (by omega) (by rw [aR,<- hl];exact h1) (by simpa using ew) ⟨rfl,fin⟩) hs
theorem IG:IxR X F9:=by
 intro value slice pins s σ H x y v u Q I rx ry h hs
 obtain ⟨z,i,c,rfl,rfl,hz,he,q⟩:=h
 obtain ⟨t,rfl⟩:=rx
 obtain ⟨t',rfl⟩:=ry
 obtain ⟨j,h1,h2,h3,h4,h5⟩:=Zy he
 have hl:z.cps.toList.length=z.length:=by simp [dm]
 rw [hl] at h1 h4 h5
 have hn:=yg
 exact tail_any (fV s z t) slot_str_getitem.lookup (getItem_str (c:=c) (by
  have e1:decide (i< -(2 ^ 63:Int))=false:=decide_eq_false (by omega)
  have e2:decide (i ≥ 2 ^ 63)=false:=decide_eq_false (by omega)
  rw [e1,e2,Bool.or_false]) (by rw [h1];simpa using h2) ⟨.str ⟨#[c]⟩,H,I.tok _,⟨_,rfl⟩,q⟩) hs
theorem Kb (its:List am)(n j:Nat)(u:am):iA (·.setIfInBounds j u) { cls:=.type "list",data:=.seq its.toArray n }={ cls:=.type "list",data:=.seq (its.set j u).toArray n }:=by
 simp [iA]
variable {pins:List (aE × Obj)} {σ:St} {H:Hp} {s:ax} {p:aE} {xs:List V}
theorem Inv.lst (I:Inv X pins σ H s)(h:H p=some (.lst xs)) :
  ∃ (its:List am) (n:Nat),zx xs its/\s.heap.get? p=some { cls:=.type "list",data:=.seq its.toArray n }/\xs.length<=aT:=by
 obtain ⟨z,its,n,r,e⟩:=I.hok p _ h
 exact ⟨its,n,r,e,z⟩
theorem Inv.lstUpd {xs ys:List V}{its its':List am}{n n':Nat}{f:Obj->Obj}(I:Inv X pins σ H s)(h:H p=some (.lst xs))
  (ho:s.heap.get? p=some { cls:=.type "list",data:=.seq its.toArray n }) (hf:f { cls:=.type "list",data:=.seq its.toArray n }={ cls:=.type "list",data:=.seq its'.toArray n' }) (r:zx ys its') (hz:ys.length<=aT) (t:Nat) :
  Inv X pins σ (upd H p (.lst ys)) { s with heap:=s.heap.update p f,toks:=t }:=by
 have e:(s.heap.update p f).get? p=some { cls:=.type "list",data:=.seq its'.toArray n' }:=by
  rw [bZ f ho (by rw [hf] <;> rfl),hf]
 refine I.write (x:=p) (e:=p) (by rw [h];trivial) (.inl rfl) (fun b u hb q=>(fH _ _ (Ne.symm hb)).trans q) ⟨_,e⟩ ?_
 exact ⟨hz,its',n',r,e⟩
noncomputable def FF:V->V->V->Hp->(Hp->Prop)->Prop:=fun o i v H Q=>∃ p xs k j,o=.ref p/\i=.int k/\H p=some (.lst xs)/\ixN xs.length k=some j/\Q (upd H p (.lst (xs.set j v)))
theorem Bw:IP X FF:=by
  intro pins s σ H o i v ov iv u Q I ro ri rv h
  obtain ⟨p,xs,k,j,rfl,rfl,hp,hj,q⟩:=h
  cases ro
  obtain ⟨t,rfl⟩:=ri
  obtain ⟨its,n,r,ho,hz⟩:=I.lst hp
  obtain ⟨h1,h2,h3,h4⟩:=KJ hj
  have hl:=r.length
  have hn:=yg
  have I':Inv X pins σ (upd H p (.lst (xs.set j v))) { s with heap:=s.heap.update p (iA (·.setIfInBounds j u)) }:=
    I.lstUpd hp ho (Kb its n j u) (r.set rv j) (by rw [bT];exact hz) s.toks
  by_cases h0:0<=k
  · have hk : k.toNat = j := by
      rw [seqIndex_of h0 h4] at h1
      exact bO h1
    exact PySem.W.ki_setAt ho h0 (by omega) (by rw [aR,<- hl];exact h4) (by rw [hk];exact ⟨_,I',q⟩)
  · have hk : (k + (its.toArray.size : Int)).toNat = j := by
      rw [mh (by omega) h3] at h1
      rw [aR,<- hl]
      exact bO h1
    exact PySem.W.ki_setBack ho (by omega) (by rw [aR,<- hl];exact h3) (by omega) (by rw [hk];exact ⟨_,I',q⟩)
theorem Zf (lo hi:Option Int)(n:Nat):(fu lo hi none n).1=((HT.sIx n 0 lo:Nat):Int)/\(fu lo hi none n).2.1=((HT.sIx n n hi:Nat):Int)/\(fu lo hi none n).2.2=1:=by
 refine ⟨?_,?_,rfl⟩
 ·cases lo with
  | none=>simp [fu,HT.sIx]
  | some i=>
   simp only [fu,HT.sIx,mC,show (1:Int) > 0 by decide,if_true]
   by_cases h:i<0
   ·simp only [h,if_true] <;> omega
   ·simp only [h,if_false] <;> omega
 ·cases hi with
  | none=>simp [fu,HT.sIx]
  | some i=>
   simp only [fu,HT.sIx,mC,show (1:Int) > 0 by decide,if_true]
   by_cases h:i<0
   ·simp only [h,if_true] <;> omega
   ·simp only [h,if_false] <;> omega
theorem wa (its:List am)(lo hi:Option Int):slicePick its.toArray lo hi none=((its.drop (HT.sIx its.length 0 lo)).take (HT.sIx its.length its.length hi - HT.sIx its.length 0 lo)).toArray:=by
 obtain ⟨h1,h2,h3⟩:=Zf lo hi its.toArray.size
 unfold slicePick
 rw [h1,h2,h3]
 simp only [sliceRange_one,pick_run,aR] <;> rfl
noncomputable def HY (K:au):V->Option Int->Option Int->Hp->VK->Prop:=fun x lo hi H Q=>∃ a xs,x=.ref a/\SqL K H a xs/\∀ p,H p=none->Q (.ref p) (upd H p (.lst (Q6 xs lo hi)))
theorem jZ:SlR X (HY X.K):=by
 intro pins s σ H x v vl vu lo hi sl Q I rx hs pl pu h
 obtain ⟨a,xs,rfl,hx,q⟩:=h
 cases rx
 obtain ⟨its,r,ht,hz⟩:=I.list hx
 have hlen:=r.length
 refine ⟨"list",_,slot_list_getitem.lookup,ht.isList.typeIs,?_⟩
 refine wpAny_getItem_list_slice ht.isList hs pl pu .none (by simp) ?_ (by rw [aR] <;> omega)
 rw [wa,<- hlen]
 refine ⟨.ref s.heap.objs.size,_,I.laid (t':=s.toks) (o:=.lst (Q6 xs lo hi)) (fun b ob q=>aG _ q) (aL _) ?_,rfl,q _ (I.hok.fresh (aL _))⟩
 exact ⟨bu (QT xs lo hi) hz,_,0,(r.drop (HT.sIx xs.length 0 lo)).take (HT.sIx xs.length xs.length hi - HT.sIx xs.length 0 lo),aY _ rfl⟩
theorem zm:qB X (.builtin "len") (fun xs H Q=>∃ p ys,xs=[.ref p]/\(SqL X.K H p ys \/ SqT X.K H p ys)/\Q (.int ys.length) H):=by
 intro pins s σ H xs us Q I r h
 obtain ⟨p,ys,rfl,hq,q⟩:=h
 obtain ⟨u,rfl,rx⟩:=qT r
 cases rx
 have hn:=yg
 rcases hq with hq | hq
 ·obtain ⟨its,r',pl,hz⟩:=I.list hq
  have hlen:=r'.length
  exact Calls.call_len_list pl.isList (by simp only [aR] <;> omega) ⟨.int ys.length,H,I.tok _,⟨s.toks+1,by rw [aR,hlen]⟩,q⟩
 ·obtain ⟨its,r',pl,hz⟩:=I.tuple hq
  have hlen:=r'.length
  exact len_tuple pl (by simp only [aR] <;> omega) ⟨.int ys.length,H,I.tok _,⟨s.toks+1,by rw [aR,hlen]⟩,q⟩
theorem ZG:qB X (.builtin "len") (fun xs H Q=>∃ z,xs=[.str z]/\z.length<=aT/\Q (.int z.length) H):=by
 intro pins s σ H xs us Q I r h
 obtain ⟨z,rfl,hz,q⟩:=h
 obtain ⟨u,rfl,t,rfl⟩:=qT r
 have hn:=yg
 exact len_str (by omega) ⟨.int z.length,H,I.tok _,⟨_,rfl⟩,q⟩
theorem Zq:qB X (.type "list") (fun xs H Q=>∃ p ys,xs=[.ref p]/\(SqL X.K H p ys \/ SqT X.K H p ys)/\∀ l,H l=none->Q (.ref l) (upd H l (.lst ys))):=by
 intro pins s σ H xs us Q I r h
 obtain ⟨p,ys,rfl,hq,q⟩:=h
 obtain ⟨u,rfl,rx⟩:=qT r
 cases rx
 have fin:∀ (its:List am),zx ys its->ys.length<=aT->∀ (h':Heap) (c':Nat),(∀ b o',s.heap.get? b=some o'->h'.get? b=some o') ->
   h'.get? s.heap.objs.size=some { cls:=.type "list",dict:=none,data:=.seq its.toArray c',slots:=#[] }->EP X pins σ Q (.ref s.heap.objs.size) { s with heap:=h' }:=fun its r' hz h' c' kp e=>
  ⟨.ref s.heap.objs.size,_,I.laid (t':=s.toks) kp (aL _) (show zS X.prog X.w _ h' _ (.lst ys) from ⟨hz,its,c',r',e⟩),rfl,q _ (I.hok.fresh (aL _))⟩
 rcases hq with hq | hq
 ·obtain ⟨its,r',pl,hz⟩:=I.list hq
  have hlen:=r'.length
  obtain ⟨o,ho,hc,n,hd⟩:=pl.isList
  exact call_list_seq p (.inl rfl) ho hc hd (fun h' c' kp e=>fin its r' hz h' c' kp e) (by simp only [aR] <;> omega)
 ·obtain ⟨its,r',pl,hz⟩:=I.tuple hq
  have hlen:=r'.length
  obtain ⟨o,ho,hc,n,hd⟩:=pl
  exact call_list_seq p (.inr rfl) ho hc hd (fun h' c' kp e=>fin its r' hz h' c' kp e) (by simp only [aR] <;> omega)
theorem vY:qB X (.type "tuple") (fun xs H Q=>∃ p ys,xs=[.ref p]/\((SqL X.K H p ys/\∀ l,H l=none->Q (.ref l) (upd H l (.tup ys))) \/ (SqT X.K H p ys/\Q (.ref p) H))):=by
 intro pins s σ H xs us Q I r h
 obtain ⟨p,ys,rfl,h⟩:=h
 obtain ⟨u,rfl,rx⟩:=qT r
 cases rx
 rcases h with ⟨hq,q⟩ | ⟨hq,q⟩
 ·obtain ⟨its,r',pl,hz⟩:=I.list hq
  have hlen:=r'.length
  refine call_tuple_list pl.isList (fun h' kp=>?_) (by simp only [aR] <;> omega)
  have I1:Inv X pins σ H { s with heap:=h' }:=I.kept (t':=s.toks) kp
  have I2:Inv X pins σ (upd H h'.objs.size (.tup ys)) { s with heap:=h'.push { cls:=.type "tuple",data:=.seq its.toArray } }:=
   I1.laid (t':=s.toks) (fun b o e=>aG _ e) (aL _) (show zS X.prog X.w _ _ _ (.tup ys) from ⟨hz,its,r',Ja.new _ _⟩)
  exact ⟨.ref h'.objs.size,_,I2,rfl,q _ (I1.hok.fresh (aL _))⟩
 ·obtain ⟨its,r',pl,hz⟩:=I.tuple hq
  exact call_tuple_same pl ⟨.ref p,H,I,rfl,q⟩
def tyV (K:au)(T:String)(x:V)(H:Hp):Prop:=match x with
  | .str _=>T="str"
  | .int _=>T="int"
  | .ref p => (T = "list" /\ ∃ xs, SqL K H p xs) \/ (T = "tuple" /\ ((∃ xs, Rd H p (.tup xs)) \/ ∃ o, K.lookup p = some o /\ o.cls = .type "tuple" /\ o.dict = none)) \/
      (T="dict"/\((∃ kvs,H p=some (.dK kvs)) \/ ∃ kvs,H p=some (.dT kvs))) \/ (T="set"/\∃ S n,H p=some (.set S n))
  | _=>False
theorem VD {pins : List (aE × Obj)}{σ : St}{H : Hp}{s : ax}{T : String}{x : V}{v : am}(I : Inv X pins σ H s)(r : zC x v)(ty : tyV X.K T x H) :
    s.TypeIs v T/\∀ a,v=.ref a->∃ ob,s.heap.get? a=some ob/\ob.dict=none:=by
  cases x with
  | str z=>
    obtain ⟨t,rfl⟩:=r
    cases (show T="str" from ty)
    exact ⟨fV s z t,fun _ e=>nomatch e⟩
  | int i=>
    obtain ⟨t,rfl⟩:=r
    cases (show T="int" from ty)
    exact ⟨typeIs_int s i t,fun _ e=>nomatch e⟩
  | ref p=>
    cases r
    rcases ty with ⟨rfl,xs,hq⟩ | ⟨rfl,⟨xs,hx⟩ | ⟨o,hk,hc,hd⟩⟩ | ⟨rfl,hk⟩ | ⟨rfl,S,n,hk⟩
    · obtain ⟨its,_,pl,_⟩:=I.list hq
      refine ⟨pl.isList.typeIs,fun a e=>?_⟩
      cases e
      obtain ⟨o,n,e,c,hd,_⟩:=pl
      exact ⟨o,e,hd⟩
    · obtain ⟨_,its,_,o,e,c,_,hd⟩:=hx.ok I.hok
      refine ⟨⟨o,e,c⟩,fun a e2=>?_⟩
      cases e2
      exact ⟨o,e,hd⟩
    · refine ⟨⟨o,I.kIn p o hk,hc⟩,fun a e=>?_⟩
      cases e
      exact ⟨o,I.kIn _ o hk,hd⟩
    · have z : ∃ o, s.heap.get? p = some o /\ o.ExactDict := by
        rcases hk with ⟨kvs,hk⟩ | ⟨kvs,hk⟩
        · obtain ⟨_,_,_,_,o,_,_,e,ex,_⟩:=I.hok p _ hk
          exact ⟨o,e,ex⟩
        · obtain ⟨_,_,_,_,o,_,_,e,ex,_⟩:=I.hok p _ hk
          exact ⟨o,e,ex⟩
      obtain ⟨o,e,ex⟩:=z
      refine ⟨⟨o,e,ex.1⟩,fun a e2=>?_⟩
      cases e2
      exact ⟨o,e,ex.2.1⟩
    · obtain ⟨o,_,_,_,e,ex,_⟩:=I.hok p _ hk
      refine ⟨⟨o,e,ex.1⟩,fun a e2=>?_⟩
      cases e2
      exact ⟨o,e,ex.2.1⟩
  | _=>exact cg ty
noncomputable def HS (K:au)(T:String)(r:V->List V->Hp->VK->Prop)(to:TE):TE:=fun σ H Q=>to σ H fun x H1=>tyV K T x H1/\r x [] H1 Q
noncomputable def tBM (K:au)(T:String)(r:V->List V->Hp->VK->Prop)(to:TE)(t:TA):TE:=fun σ H Q=>to σ H fun x H1=>tyV K T x H1/\t σ H1 fun xs H2=>r x xs H2 Q
variable {o e:Expr}{es:List Expr}{to:TE}{t:TA}{name:Str}{apos cpos:Pos}{T id:String}{r:V->List V->Hp->VK->Prop}
theorem Gs (pa:PlainAttrs T)(slot:Slot T name id)(hty:typeOf (.builtin id)=pure (.type "method_descriptor"))(hm:MtR X id r)(ho:PE X o to)
  (hbase:dL o name X.env (eval o X.env)=eval o X.env:=by rfl) (hline:(apos.endLine == cpos.line)=true:=by rfl):PE X (.Call (.Attribute o name apos) [] [] cpos) (HS X.K T r to):=by
 intro pins s σ H Q I h
 refine wpAny_Call_method0_late hbase hline (thn (ho pins s σ H _ I h) fun v s1 ⟨x,H1,I1,r1,ty,q1⟩=>?_)
 obtain ⟨h1,h2⟩:=VD I1 r1 ty
 exact ⟨T,id,pa,slot,hty,h1,h2,fJ rfl (PySem.evalArgs_none (hm pins s1 σ H1 x [] v [] Q I1 r1 .nil q1))⟩
theorem jH (pa:PlainAttrs T)(slot:Slot T name id)(hty:typeOf (.builtin id)=pure (.type "method_descriptor"))(hm:MtR X id r)(ho:PE X o to)(ha:PA X (e :: es) t)
  (hbase:dL o name X.env (eval o X.env)=eval o X.env:=by rfl)
  (hfew:((cT cpos (bi (e :: es) X.env)).all (fun x=>!x.1) && (gh cpos (dX [] X.env)).all (fun x=>x.1.isSome)
   && decide ((e :: es).length+([]:List lm).length+(if ([]:List lm).isEmpty then 0 else 1)<30))=true:=by rfl)
  (hline:(apos.endLine == cpos.line)=true:=by rfl) (hs:bi (e :: es) X.env=(false,eval e X.env) :: bi es X.env:=by rfl) (hplain:(cT cpos (bi es X.env)).any (·.1)=false:=by rfl) :
  PE X (.Call (.Attribute o name apos) (e :: es) [] cpos) (tBM X.K T r to t):=by
 intro pins s σ H Q I h
 refine wpAny_Call_method_late hbase hfew hline rfl (thn (ho pins s σ H _ I h) fun v s1 ⟨x,H1,I1,r1,ty,q1⟩=>?_)
 obtain ⟨h1,h2⟩:=VD I1 r1 ty
 refine ⟨T,id,pa,slot,hty,h1,h2,?_⟩
 have hA:=ha cpos pins s1 σ H1 _ I1 q1
 rw [hs] at hA ⊢
 refine fJ (by show (false || (cT cpos (bi es X.env)).any (·.1))=false;rw [hplain] <;> rfl) (gl ?_)
 exact thn hA fun us s2 ⟨vs,H2,I2,r2,q2⟩=>hm pins s2 σ H2 x vs v us Q I2 r1 r2 q2
end
def MtM (X:Cx)(id:String)(r:V->List V->Hp->VK->Prop):Prop:=
 ∀ (pins:List (aE × Obj)) (s:ax) (σ:St) (H:Hp) (x:V) (xs:List V) (v:am) (us:List am) (Q:VK),Inv X pins σ H s->zC x v->zx xs us->r x xs H Q ->
  bg (bc X.prog X.w) X.A (call (.builtin id) (v :: us)) (EP X pins σ Q) X.xe s
theorem zx.one:∀ {x:V} {us:List am},zx [x] us->∃ u,us=[u]/\zC x u
 | _,_,.cons r .nil=>⟨_,rfl,r⟩
theorem zx.zero:∀ {us:List am},zx [] us->us=[]
 | _,.nil=>rfl
theorem zx.dropLast {xs:List V}{us:List am}(h:zx xs us):zx xs.dropLast us.dropLast:=by
 induction h with
 | nil=>exact .nil
 | cons r t ih=>
  cases t with
  | nil=>exact .nil
  | cons q t'=>exact .cons r ih
theorem zx.rep {xs:List V}{us:List am}(h:zx xs us):∀ k:Nat,zx (aH k xs).flatten (aH k us).flatten
 | 0=>.nil
 | k+1=>by
  rw [cQ,cQ,dH,dH]
  exact zx.append h (zx.rep h k)
theorem JE {α:Type}(l:List α):l.eraseIdx (l.length - 1)=l.dropLast:=by
 induction l with
 | nil=>rfl
 | cons a r ih=>
  cases r with
  | nil=>rfl
  | cons b r=>
   have e:(a :: b :: r).length - 1=((b :: r).length - 1)+1:=by
    have h1:(a :: b :: r).length=r.length+2:=rfl
    have h2:(b :: r).length=r.length+1:=rfl
    omega
   rw [e,List.eraseIdx_cons_succ,ih]
   all_goals rfl
theorem Za (its:List am):∀ (k:Nat) (acc:List am),
  lM (fun x1 x2=>x1 ++ x2) acc.toArray (aH k its.toArray)=(acc ++ (aH k its).flatten).toArray
 | 0,acc=>by simp
 | k+1,acc=>by
  have e:acc.toArray ++ its.toArray=(acc ++ its).toArray:=by simp
  have e2:(acc ++ its) ++ (aH k its).flatten=acc ++ (aH (k+1) its).flatten:=by
   rw [cQ,dH,dI]
  rw [<- e2,<- Za its k (acc ++ its),<- e,cQ,List.foldl_cons]
section
variable {X:Cx}{pins:List (aE × Obj)}{σ:St}{H:Hp}{s:ax}{l b:aE}{xs ys zs:List V}
variable {t':Nat}
theorem Inv.lset {its its':List am} {f:Array am->Array am} (I:Inv X pins σ H s)(hH:H l=some (.lst xs))
  (e:s.heap.get? l=some { cls:=.type "list",data:=.seq its.toArray n }) (hf:f its.toArray=its'.toArray) (hv:zx ys its') (hz:ys.length<=aT) :
  Inv X pins σ (upd H l (.lst ys)) { s with heap:=s.heap.update l (iA f),toks:=t' }:=by
 have q:=PySem.IsL.update e f
 rw [hf] at q
 refine I.write (x:=l) (e:=l) (by rw [hH];exact trivial) (.inl rfl) (fun b' u hb hu=>(fH s.heap (iA f) (Ne.symm hb)).trans hu) ⟨_,q⟩ ?_
 exact ⟨hz,its',_,hv,q⟩
theorem Inv.lnew {its:List am} (I:Inv X pins σ H s)(hv:zx ys its)(hz:ys.length<=aT) :
  Inv X pins σ (upd H s.heap.objs.size (.lst ys)) { s with heap:=s.heap.push { cls:=.type "list",data:=.seq its.toArray },toks:=t' }:=
 I.laid (fun _ _ q=>aG _ q) (aL _) ⟨hz,its,0,hv,aY _ rfl⟩
theorem Inv.fresh (I:Inv X pins σ H s):H s.heap.objs.size=none:=I.hok.fresh (aL _)
theorem Inv.lstM (I:Inv X pins σ H s)(hH:H l=some (.lst xs)):xs.length<=aT/\∃ (its:List am) (n:Nat),zx xs its/\xs.length=its.length/\s.heap.get? l=some { cls:=.type "list",data:=.seq its.toArray n }:=by
 obtain ⟨z,its,n,r,e⟩:=I.hok l _ hH
 exact ⟨z,its,n,r,r.length,e⟩
theorem Q1 (h:n<=aT):dM n=false:=by
 unfold dM
 exact decide_eq_false (by omega)
end
section
variable {X:Cx}
noncomputable def yK:V->List V->Hp->VK->Prop:=fun x vs H Q=>∃ l xs y,x=.ref l/\vs=[y]/\H l=some (.lst xs)/\xs.length<aT/\Q .non (upd H l (.lst (xs ++ [y])))
theorem wk:MtM X "list.append" yK:=by
 intro pins s σ H x vs v us Q I rx rv h
 obtain ⟨l,xs,y,rfl,rfl,hH,hz,q⟩:=h
 cases rx
 obtain ⟨u,rfl,ru⟩:=rv.one
 obtain ⟨z,its,n,r,hl,e⟩:=I.lstM hH
 refine eK F.slot_list_append ⟨_,e,rfl⟩ F.entry_list_append (F.args_list_append_2 _ _) (PySem.list_append l its.toArray n u (by rw [aR];omega)) ⟨e,?_⟩
 refine ⟨.non,_,I.lset (its':=its ++ [u]) hH e (by simp) (r.append (.cons ru .nil)) ?_,rfl,q⟩
 rw [aQ,b7]
 omega
noncomputable def K6:V->List V->Hp->VK->Prop:=fun x vs H Q=>∃ l b xs zs,x=.ref l/\vs=[.ref b]/\H l=some (.lst xs)/\H b=some (.lst zs)/\xs.length+zs.length<=aT/\Q .non (upd H l (.lst (xs ++ zs)))
theorem Ld:MtM X "list.extend" K6:=by
 intro pins s σ H x vs v us Q I rx rv h
 obtain ⟨l,b,xs,zs,rfl,rfl,hH,hB,hz,q⟩:=h
 cases rx
 obtain ⟨u,rfl,ru⟩:=rv.one
 cases ru
 obtain ⟨z,its,n,r,hl,e⟩:=I.lstM hH
 obtain ⟨z2,its2,n2,r2,hl2,e2⟩:=I.lstM hB
 have hsz:its.toArray.size+its2.toArray.size<=aT:=by rw [aR,aR];omega
 have hlong:¬ (!its.toArray.isEmpty && dM (its.toArray.size+its2.toArray.size))=true:=by
  rw [Q1 hsz,gM]
  exact bK
 refine eK F.slot_list_extend ⟨_,e,rfl⟩ F.entry_list_extend (F.args_list_extend_2 _ _)
  (AutoSeq1.list_extend_list_list_0 l its.toArray n b its2.toArray n2 hlong (by rw [aR];omega) (by omega)) ⟨e,e2,?_⟩
 refine ⟨.non,_,I.lset (its':=its ++ its2) hH e (by simp) (r.append r2) ?_,rfl,q⟩
 rw [aQ]
 omega
noncomputable def GT:V->List V->Hp->VK->Prop:=fun x vs H Q=>∃ l xs y,x=.ref l/\vs=[]/\H l=some (.lst xs)/\xs[xs.length - 1]?=some y/\Q y (upd H l (.lst xs.dropLast))
theorem GY:MtM X "list.pop" GT:=by
 intro pins s σ H x vs v us Q I rx rv h
 obtain ⟨l,xs,y,rfl,rfl,hH,hy,q⟩:=h
 cases rx
 have hus:=rv.zero
 subst hus
 obtain ⟨z,its,n,r,hl,e⟩:=I.lstM hH
 obtain ⟨u,hu,ru⟩:=r.get hy
 have hy':its.toArray[its.toArray.size - 1]?=some u:=by
  show its.toArray[its.length - 1]?=some u
  rw [<- fS,<- hl]
  exact hu
 refine eK F.slot_list_pop ⟨_,e,rfl⟩ F.entry_list_pop (F.args_list_pop_1 _) (MeetsSeq.list_pop_last l its.toArray n u hy' (by rw [aR];omega)) ⟨e,?_⟩
 refine ⟨y,_,I.lset (its':=its.dropLast) hH e ?_ r.dropLast ?_,ru,q⟩
 ·show its.toArray.eraseIdxIfInBounds (its.toArray.size - 1)=its.dropLast.toArray
  rw [aR,List.eraseIdxIfInBounds_toArray,JE]
 ·rw [gm]
  omega
noncomputable def DP:R2:=fun x y H Q=>∃ l b xs zs,x=.ref l/\y=.ref b/\H l=some (.lst xs)/\H b=some (.lst zs)/\xs.length+zs.length<=aT/\∀ p,H p=none->Q (.ref p) (upd H p (.lst (xs ++ zs)))
theorem ZZ:OpR X (e9 .Add) DP:=by
 intro pins s σ H x y v u Q I rx ry h
 obtain ⟨l,b,xs,zs,rfl,rfl,hH,hB,hz,q⟩:=h
 cases rx
 cases ry
 obtain ⟨z,its,n,r,hl,e⟩:=I.lstM hH
 obtain ⟨z2,its2,n2,r2,hl2,e2⟩:=I.lstM hB
 refine PySem.P.add_list e e2 ?_ (by rw [aR,aR];omega)
 have ea:its.toArray ++ its2.toArray=(its ++ its2).toArray:=by simp
 rw [ea]
 exact ⟨.ref _,_,I.lnew (t':=s.toks) (r.append r2) (by rw [aQ];omega),rfl,q _ I.fresh⟩
noncomputable def E2:R2:=fun x y H Q=>∃ l k xs,x=.ref l/\y=.int k/\H l=some (.lst xs)/\-(2 ^ 63)<=k/\k<2 ^ 63/\xs.length * k.toNat<=aT /\
 ∀ p,H p=none->Q (.ref p) (upd H p (.lst (aH k.toNat xs).flatten))
theorem DO {α:Type}(xs:List α)(k:Nat):(aH k xs).flatten.length=k * xs.length:=by
 induction k with
 | zero=>simp
 | succ k ih=>rw [cQ,dH,aQ,ih,Nat.succ_mul,Nat.add_comm]
theorem xc:OpR X (e9 .Mult) E2:=by
 intro pins s σ H x y v u Q I rx ry h
 obtain ⟨l,k,xs,rfl,rfl,hH,h1,h2,hz,q⟩:=h
 cases rx
 obtain ⟨t,rfl⟩:=ry
 obtain ⟨z,its,n,r,hl,e⟩:=I.lstM hH
 have hlen:its.toArray.size * k.toNat<=aT:=by rw [aR,<- hl];exact hz
 have hcap:¬ its.toArray.size * k.toNat > (2 ^ 63 - 1) / 8:=by
  have:(aT:Nat)<=(2 ^ 63 - 1) / 8:=by decide
  omega
 have hfit:¬ (!Builtin.List.listFitsIndex k)=true:=by
  rw [fitsIndex_both h1 h2]
  exact bK
 have hlong:¬ dM (its.toArray.size * k.toNat)=true:=by
  rw [Q1 hlen]
  exact bK
 have hnew:lM (fun x1 x2=>x1 ++ x2) #[] (aH (if its.toArray.isEmpty=true then 0 else k.toNat) its.toArray)=(aH k.toNat its).flatten.toArray:=by
  have f0:∀ m:Nat,lM (fun x1 x2=>x1 ++ x2) #[] (aH m its.toArray)=(aH m its).flatten.toArray:=fun m=>by
   have:=Za its m []
   rw [dD] at this
   exact this
  rw [f0]
  cases its with
  | nil=>simp
  | cons a r'=>rw [if_neg (by simp)]
 refine wpAny_binaryOp_repeat_ref (T:="list") (U:="int") (by decide) ⟨_,e,rfl⟩ (fun s'=>typeIs_int s' k t) noFill_list_mul F.fills_int_mul F.slot_int_rmul repeat_list F.slot_int_index.lookup
  (eK F.slot_int_rmul (typeIs_int s k t) F.entry_int_rmul (F.args_int_rmul_2 _ _) (int___rmul___int_list k t l its.toArray n)
   ⟨e,rfl,⟨_,e,rfl⟩,eK F.slot_list_mul ⟨_,e,rfl⟩ F.entry_list_mul (F.args_list_mul_2 _ _) (AutoListH.list___mul___list_int_3 l its.toArray n k t hfit hcap hlong) ⟨e,?_⟩⟩)
 rw [hnew]
 exact ⟨.ref _,_,I.lnew (t':=s.toks) (r.rep k.toNat) (by rw [DO,Nat.mul_comm];exact hz),rfl,q _ I.fresh⟩
end
section
variable {prog:bf}{w:bC}{A:bo}{E:am->ax->Prop}{s:ax}
end
section
variable {X:Cx}
end
end L2
namespace Att
open PySem PySem.W PySem.Calls PyProof.Rows
theorem yx {P:Params}{h:Heap}:∀ (ns:List Int) (vs:List am),WellAll P h vs (ns.map WData.int)->IntsAre vs ns:=by
 intro ns
 induction ns with
 | nil=>
  intro vs w
  rw [gE] at w
  cases w
  exact .nil
 | cons n ns ih=>
  intro vs w
  rw [bp] at w
  cases w with
  | cons a b=>
   cases a
   exact .cons _ _ (ih _ b)
theorem Yd {l:OpenLaw}{n:Nat}(hn:l.most=some n){P:Params}{h:Heap}{args:List WData}{vals:List am}
  (hpre:l.row.toRowW.claim.pre args=true) (hwl:WellAll P h vals args) :
  ∃ a vs ns,vals=[am.ref a]/\args=[WData.list (ns.map WData.int)]/\h.get? a=some { cls:=.type "list",data:=.seq vs.toArray }/\IntsAre vs ns/\ns.length<=n:=by
 have hsh:WShape.hasAll [] args [.list .int]=true:=(pre_splitW hpre).1
 have hc:l.pre.holds [] { args:=args }=true:=(pre_splitW hpre).2
 obtain ⟨d,r,rfl,h1,h2⟩:=hasAllW_cons hsh
 obtain rfl:=hasAllW_nil h2
 obtain ⟨xs,rfl,h3⟩:=hasW_list h1
 obtain ⟨ns,rfl⟩:=items_int h3
 have hlen:ns.length<=n:=by
  unfold OpenLaw.pre at hc
  have h4:(WTm.not (.lt (.lit (.int (n:Int))) (.len (.arg 0)))).holds [] { args:=[.list (ns.map .int)] }=true:=by
   have h4:=(holds_andW hc).1
   rw [hn] at h4
   exact h4
  have h5:=condW_of h4 (w_not (w_lt w_lit (w_len_list (w_arg rfl))))
  rw [ap] at h5
  refine Nat.le_of_not_lt fun q=>?_
  have q':(n:Int)<((ns.length:Nat):Int):=by omega
  first
   | (rw [decide_eq_true q'] at h5;exact absurd h5 (by decide))
   | (simp at h5;omega)
 cases hwl with
 | cons w1 w2=>
  cases w2
  cases w1 with
  | list ho hall=>exact ⟨_,_,ns,rfl,rfl,ho,yx ns _ hall,hlen⟩
theorem YY (l:OpenLaw)(args:List WData):l.row.toRowW.claim.post args (.bool true) args=true:=
 postW_of (r:=l.row.toRowW) (X:=(true == true))
  (show WShape.has [] (.bool true) .bool=true by first | rfl | decide | simp [WShape.has,WShape.arms,WShape.armsAll])
  (show (WTm.eq .res (.lit (.bool true))).value [] { args:=args,res:=some (.bool true),after:=args }=some (.bool (true == true)) from w_eq_bool (w_res rfl) w_lit) rfl
theorem attach_call {l:OpenLaw}{n:Nat}{q:bf}{loose:List Str}{XP:(Str->Option am)->Heap->Prop}{YP:bC->Heap->Prop}{d:DefRec}
  (hn:l.most=some n) (hdf:d.params.defaults=[])
  (call:∀ (w:bC) (s₀ s₁:ax) (mg mb:Str->Option am) (fa:aE) (o:Obj) (pm cd doc:am) (a:aE) (vs:List am) (ns:List Int),
   Ground q loose [] XP w s₀ mg mb s₁.heap->YP w s₁.heap ->
   s₁.heap.get? fa=some o->o.data=.func (docDef d.name d.params d.body d.scope pm cd doc)->s₁.heap.CodeRec cd d.name->mg d.name=some (.ref fa) ->
   s₁.heap.get? a=some { cls:=.type "list",data:=.seq vs.toArray }->IntsAre vs ns->ns.length<=n->s₁.gens=#[] ->
   fA (bc l.prog w) lp (.call (.ref fa) ⟨[.ref a],[]⟩) (fun r s'=>r=.ok (.ret (.bool true))/\OldK s₁.heap s'.heap/\s'.os=s₁.os/\gD s'.gens) s₁) :
  WalkO q loose XP YP l.row.toRowW d [] (fun f vs=>mV f vs):=by
 intro w s₀ s₁ mg mb G Y fa o pm cd doc dV kV ho hd hcd hD hmg hg args vals as hpre hlay hrd hwl hlo
 obtain rfl:dV=.none:=Dflts.none hD hdf
 obtain rfl:kV=.none:=Dflts.noKw hD
 obtain ⟨a,vs,ns,rfl,rfl,hobj,hints,hlen⟩:=Yd hn hpre hwl
 refine enter_call (fE (call w s₀ s₁ mg mb fa o pm cd doc a vs ns G Y ho (fd_plain hd) hcd hmg hobj hints hlen hg) fun r s' hq=>?_)
 obtain ⟨rfl,h2,h3,h4⟩:=hq
 exact ⟨.inl ⟨.bool true,.bool true,[],rfl,fun _=>rfl,.bool true,YY l _,fun _=>⟨List.Pairwise.nil,fun _ hm=>(nomatch hm)⟩⟩,h2,h3,h4⟩
section
variable {prog:bf}{w:bC}{A:bo}{E:am->ax->Prop}{s:ax}{K:Frag}
noncomputable def MP (h:Heap)(L d:aE):List (aE × Obj):=(bP h.objs.size).filterMap fun a=>if a=L \/ a=d then none else (h.get? a).map fun o=>(a,o)
end
end Att
namespace L2
open PySem PySem.Spec PyProof.Rows
theorem wK:∀ {vs:List am} {ns:List Int},IntsAre vs ns->zx (ns.map V.int) vs
 | _,_,.nil=>.nil
 | _,_,.cons n t h=>.cons ⟨t,rfl⟩ (wK h)
def IK (H:Hp):Prop:=∀ b,H b=none \/ ∃ o xs,H b=some (.frz o (.lst xs))
theorem BH {P:bf}{w:bC}{K:au}{mg mb:Str->Option am}{CX:CXT}{k:Nat}{fa a:aE}{fd:dv}{x:Str}{sp:Sp}{s₁:ax}{vs:List am}{ns:List Int}
  (KX:K.In s₁.heap) (hns:s₁.heap.Ns aW mg) (hb:s₁.heap.Ns builtinsNs mb) (hbb:∀ x:Str,x ≠ "__name__"->mb x=bR x) (hlim:s₁.heap.NoLimit) (hg:s₁.gens=#[])
  (ha:s₁.heap.get? a=some { cls:=.type "list",data:=.seq vs.toArray }) (hi:IntsAre vs ns) (hl:ns.length<=aT) (hr:qj k lp)
  (F:∀ base:Heap,K.In base->base.Ns aW mg->qS P w K mg base CX k fa fd [x] sp) (hbind:∀ (s:ax) (u:am),lj s fd ⟨[u],[]⟩ [(x,u)])
  (hsp:∀ H:Hp,IK H->SqL K H a (ns.map V.int)->sp [.ref a] H (fun v _=>v=.bl true) fun _ _ _=>False)
  (hCX:∀ H e s',CX [] H s₁ (fun _ _ _=>False) e s'->False) :
  fA (bc P w) lp (.call (.ref fa) ⟨[.ref a],[]⟩) (fun r s'=>r=.ok (.ret (.bool true))/\OldK s₁.heap s'.heap/\s'.os=s₁.os/\gD s'.gens) s₁:=by
 have rv:=wK hi
 have lenV:=hi.length
 have core:∀ H:Hp,IK H->SqL K H a (ns.map V.int)->HOk P w H s₁.heap->(∀ b,H b ≠ none->b=a)->(H a ≠ none->K.lookup a=none) ->
   fA (bc P w) lp (.call (.ref fa) ⟨[.ref a],[]⟩) (fun r s'=>r=.ok (.ret (.bool true))/\OldK s₁.heap s'.heap/\s'.os=s₁.os/\gD s'.gens) s₁:=by
  intro H hO hS hok hA hK
  have base_of:∀ {b:aE} {o:Obj},s₁.heap.get? b=some o->H b=none->(Zg s₁.heap H).get? b=some o:=fun e n=>Wq e n
  have noA:∀ {b:aE} {o:Obj} {es:Array DictEntry} {ep:Nat},s₁.heap.get? b=some o->o.data=.dict es ep->H b=none:=fun {b o es ep} e d=>by
   cases q:H b with
   | none=>rfl
   | some u=>
    have e':b=a:=hA b (by rw [q];simp)
    subst e'
    rw [ha] at e;cases e
    have d':eL vs.toArray _=Data.dict es ep:=d
    cases d'
  have nsK:∀ {b:aE} {m:Str->Option am},s₁.heap.Ns b m->(Zg s₁.heap H).Ns b m:=fun {b m} ⟨o,es,ep,e,d,r⟩=>⟨o,es,ep,base_of e (noA e d),d,r⟩
  have hKb:K.In (Zg s₁.heap H):=fun b o e=>base_of (KX b o e) (by
   cases q:H b with
   | none=>rfl
   | some u=>
    have e':b=a:=hA b (by rw [q];simp)
    subst e'
    rw [hK (by rw [q];simp)] at e;cases e)
  have hM:Mod K mg (Zg s₁.heap H):=⟨hKb,nsK hns,⟨mb,nsK hb,hbb⟩,let ⟨mc,h1,h2⟩:=hlim;⟨mc,nsK h1,h2⟩⟩
  have e0:JX P w K mg (Zg s₁.heap H) lp [] s₁ H:=⟨rfl,hM,fun b o e=>Dt e,ma (YV _ _),trivial,fun b hb=>absurd (show b ∈ ([]:List aE) from hb) (by simp),hok,.of_eq hg⟩
  refine fE ((F _ hKb (nsK hns)).run lp [] s₁ H ⟨[.ref a],[]⟩ [.ref a] [.ref a] _ _ hr e0 (hbind s₁ (.ref a)) (.cons rfl .nil) (hsp H hO hS)) fun r s' h=>?_
  cases r with
  | error e=>exact (hCX H e s' h).elim
  | ok fl=>
   cases fl with
   | next=>exact cg h
   | brk=>exact cg h
   | cont=>exact cg h
   | ret u=>
    obtain ⟨v,H',os,bare,un,hok',r',q⟩:=h
    have q':v=.bl true:=q
    subst q'
    obtain rfl:u=am.bool true:=r'
    refine ⟨rfl,OldK.of_keep fun b o e=>?_,os,bare⟩
    cases q:H b with
    | none=>exact un.keep b o e q (by intro z;exact absurd (show b ∈ ([]:List aE) from z) (by simp)) (by simp)
    | some u=>
     rcases hO b with z | ⟨ob,xs,z⟩
     ·rw [q] at z;cases z
     ·have z2:=un.frzs b ob _ z
      obtain ⟨e1,_⟩:=hok b _ z
      obtain ⟨e2,_⟩:=hok' b _ z2
      rw [e] at e1;cases e1
      exact e2
 cases hk:K.lookup a with
 | some o=>
  have e:=KX a o hk
  rw [ha] at e
  cases e
  refine core (fun _=>none) (fun _=>.inl rfl) (.inr ⟨_,vs.toArray,_,hk,rfl,rfl,rfl,by rw [aR,lenV];exact hl,by simpa using rv⟩) (fun b u z=>by have z':(none:Option HO)=some u:=z;cases z') (fun b z=>absurd rfl z) fun z=>absurd rfl z
 | none=>
  refine core (fun b=>if b=a then some (.frz { cls:=.type "list",data:=.seq vs.toArray } (.lst (ns.map V.int))) else none) (fun b=>?_) (.inl (.inr ⟨{ cls:=.type "list",data:=.seq vs.toArray },if_pos rfl⟩)) (fun b u z=>?_) (fun b z=>?_) fun _=>hk
  ·by_cases hb:b=a
   ·exact .inr ⟨_,_,if_pos hb⟩
   ·exact .inl (if_neg hb)
  ·by_cases hb:b=a
   ·have z':=(if_pos hb).symm.trans z
    cases z'
    subst hb
    exact ⟨ha,by rw [ap];exact hl,vs,_,rv,ha⟩
   ·have z':=(if_neg hb).symm.trans z
    cases z'
  ·by_cases hb:b=a
   ·exact hb
   ·exact absurd (if_neg hb) z
noncomputable abbrev KOf {K:au}{h:Heap}(_:K.In h):au:=K
theorem walk_of {l:PySem.W.OpenLaw}{n k:Nat}{q:bf}{loose:List Str}{XP:(Str->Option am)->Heap->Prop}{YP:bC->Heap->Prop}{d:DefRec}{K:Params->au}{CX:bC->CXT}{sp:bC->Sp}{x:Str}
  (hn:l.most=some n) (hn2:n<=aT) (hdf:d.params.defaults=[]) (hr:qj k lp)
  (hY:∀ (w:bC) (h:Heap),YP w h->(K w.params).In h)
  (F:∀ (w:bC) (mg:Str->Option am) (fa:aE) (h:Heap),(K w.params).In h->h.Ns aW mg->mg d.name=some (.ref fa) ->
   ∃ fd:dv,(∀ (s:ax) (u:am),lj s fd ⟨[u],[]⟩ [(x,u)]) /\
    ∀ base:Heap,(K w.params).In base->base.Ns aW mg->qS l.prog w (K w.params) mg base (CX w) k fa fd [x] (sp w))
  (hsp:∀ (w:bC) (H:Hp) (a:aE) (ns:List Int),ns.length<=n->IK H->SqL (K w.params) H a (ns.map V.int)->sp w [.ref a] H (fun v _=>v=.bl true) fun _ _ _=>False)
  (hCX:∀ (w:bC) (H:Hp) (s:ax) (e:am) (s':ax),CX w [] H s (fun _ _ _=>False) e s'->False) :
  PySem.W.WalkO q loose XP YP l.row.toRowW d [] (fun f vs=>mV f vs):=by
 refine Att.attach_call hn hdf fun w s₀ s₁ mg mb fa o pm cd doc a vs ns G Y ho hd hcd hmg hobj hints hlen hg=>?_
 have KX:=hY w _ Y
 obtain ⟨fd,hb,hF⟩:=F w mg fa _ KX G.T.g hmg
 exact BH KX G.T.g G.T.b G.T.builtins G.T.nolimit hg hobj hints (bu hlen hn2) hr hF hb (fun H hO hS=>hsp w H a ns hlen hO hS) fun H e s'=>hCX w H s₁ e s'
end L2
namespace L2
open PySem PySem.Spec PyProof.Rows
noncomputable def yD (s:cn)(j:Nat):cn:=match s with
 | .ClassDef _ _ _ body _ _ _ _ _ _ _=>body.getD j (.Pass ⟨0,0,0,0⟩)
 | _=>.Pass ⟨0,0,0,0⟩
noncomputable def qq (s:cn):Arguments:=match s with
 | .FunctionDef _ a _ _ _ _ _ _ _ _=>a
 | _=>{ posonlyargs:=[],args:=[],vararg:=none,kwonlyargs:=[],kw_defaults:=[],kwarg:=none,defaults:=[] }
noncomputable def zT (s:cn):List cn:=match s with
 | .FunctionDef _ _ b _ _ _ _ _ _ _=>b
 | _=>[]
noncomputable def zd (s:cn):Scope:=match s with
 | .FunctionDef _ _ _ _ _ _ sc _ _ _=>sc
 | _=>{ kind:=.function,names:=[],isGenerator:=false,isCoroutine:=false }
noncomputable abbrev CX0:CXT:=fun _ _ _ _ _ _=>False
noncomputable abbrev E0:XK:=fun _ _ _=>False
theorem Ql {X:Cx}:ki CX0 X E0:=fun _ _ _ _ _ _ _ h=>h.elim
structure Fun (K:au)(x qual:Str)(st:cn)(f:aE)(fd:dv):Prop where
 ex:∃ (oc:am) (od:Option aE) (kV doc pm:am) (an:Option aE) (cdv ct:am) (osl:Array (Option am)),
  fd=ck x qual (qq st) (zT st) (zd st) .none kV doc pm an cdv ct/\K.lookup f=some ⟨oc,od,.func fd,osl⟩/\fG K cdv qual=true
 kp:cF K (.ref f)=true
section
variable {P:bf}{w:bC}{K:au}{mg:Str->Option am}{base:Heap}
variable {st:cn} {f:aE} {fd:dv}
theorem Fun.ok {x qual:Str} {N ps:List Str}{k:Nat}{sp:Sp}(F:Fun K x qual st f fd)(S:zp N ps (zd st))(len:∀ vs H Q E,sp vs H Q E->vs.length=ps.length)
  (hbody:∀ (cdv:am) (A:bo) (outer:List Env) (s:ax) (H:Hp) (vs:List V) (Q:VK) (E:XK),qj k (A.deeper (fF qual (zd st) s.heap.objs.size f cdv))->sp vs H Q E ->
   ∃ t,PSs (kJ CX0 P w K mg base N qual (zd st) f cdv A outer s H E).nox (zT st) t/\t { nx:=fun _ H'=>Q .non H',rt:=Q } (qF N vs) H):qS P w K mg base CX0 (k+1) f fd ps sp:=by
 obtain ⟨oc,od,kV,doc,pm,an,cdv,ct,osl,rfl,lk,hcd⟩:=F.ex
 refine FJ lk hcd S len fun A outer s H vs Q E hr hsp=>?_
 obtain ⟨t,h,q⟩:=hbody cdv A outer s H vs Q E hr hsp
 exact ⟨t,h.nox,q⟩
theorem Fun.binds {x qual:Str} {ps:List Str}(F:Fun K x qual st f fd)
  (h:∀ (kV doc pm:am) (an:Option aE) (cdv ct:am) (us:List am),us.length=ps.length->gi (ck x qual (qq st) (zT st) (zd st) .none kV doc pm an cdv ct) ⟨us,[]⟩=pure (ps.zip us)):ja K fd ps []:=by
 obtain ⟨oc,od,kV,doc,pm,an,cdv,ct,osl,rfl,lk,hcd⟩:=F.ex
 exact .all (h kV doc pm an cdv ct)
theorem fun_mk {x qual:Str} {oc:am}{od an:Option aE}{osl:Array (Option am)}{kV doc pm cdv ct:am}(l:K.lookup f=some ⟨oc,od,.func (ck x qual (qq st) (zT st) (zd st) .none kV doc pm an cdv ct),osl⟩)
  (c:fG K cdv qual=true) (k:cF K (.ref f)=true):Fun K x qual st f (ck x qual (qq st) (zT st) (zd st) .none kV doc pm an cdv ct):=⟨⟨oc,od,kV,doc,pm,an,cdv,ct,osl,rfl,l,c⟩,k⟩
end
section
variable {X:Cx}
theorem pv (i:Nat){x:Str}{pos:Pos}(hN:X.N[i]?=some x:=by rfl)(hv:Vis X.env.scope x:=by first | exact bn rfl | exact bq (bn rfl) | exact bq (bq rfl))(hd:(x == ("__debug__":Str))=false:=by decide)
  (hcd:(x == ("__classdict__":Str))=false:=by decide):PE X (.Name x pos) (XR i):=Gz hN hv hd hcd
end
theorem Di {c A B:Prop}[Decidable c](h1:c->A)(h2:¬ c->B):if c then A else B:=by
 by_cases h:c
 ·rw [if_pos h]
  exact h1 h
 ·rw [if_neg h]
  exact h2 h
section
variable {κ:Type}[DecidableEq κ]
noncomputable def jk (kvs:List (κ × V))(k:κ):Option V:=(kvs.find? fun kv=>decide (kv.1=k)).map (·.2)
variable {p:κ × V} {r:List (κ × V)} {k:κ}
theorem Z5 (e:p.1=k):jk (p :: r) k=some p.2:=by simp [jk,gw,e]
theorem QR (e:¬ p.1=k):jk (p :: r) k=jk r k:=by simp [jk,gw,e]
theorem ka.isSome_eq {o:Option V}{u:Option am}(r:ka o u):o.isSome=u.isSome:=by
 cases o with
 | none=>cases u with
  | none=>rfl
  | some _=>exact (show False from r).elim
 | some _=>cases u with
  | none=>exact (show False from r).elim
  | some _=>rfl
theorem ka.getD {o:Option V}{u:Option am}{d:V}{d':am}(r:ka o u)(rd:zC d d'):zC (o.getD d) (u.getD d'):=by
 cases o with
 | none=>cases u with
  | none=>exact rd
  | some _=>exact (show False from r).elim
 | some _=>cases u with
  | none=>exact (show False from r).elim
  | some _=>exact r
theorem KV.val {kvs:List (κ × V)}{vs:List (κ × am)}(r:KV kvs vs)(k:κ):ka (jk kvs k) (lq vs k):=by
 unfold KV at r
 induction r with
 | nil=>exact True.intro
 | @cons p q ps qs h t ih=>
  obtain ⟨h1,h2⟩:=h
  by_cases e:p.1=k
  ·have e':q.1=k:=h1.symm.trans e
   have b:lq (q :: qs) k=some q.2:=by simp [lq,gw,e']
   rw [Z5 e,b];exact h2
  ·have e':¬ q.1=k:=fun z=>e (h1.trans z)
   have b:lq (q :: qs) k=lq qs k:=by simp [lq,gw,e']
   rw [QR e,b];exact ih
end
theorem BD {P:bf}{w:bC}{k:Key}{u:am}(r:zC (kV k) u):(jc P w).is k u=true:=by
 cases k with
 | inl i=>obtain ⟨t,e⟩:=(show ∃ t,u=am.int i t from r);subst e;exact Qi P w i t
 | inr x=>obtain ⟨t,e⟩:=(show ∃ t,u=am.str x t from r);subst e;exact Qc P w x t
section
variable {P:bf}{w:bC}{H:Hp}{h:Heap}{a:aE}
end
section
variable {X:Cx}{pins:List (aE × Obj)}{σ:St}{H:Hp}{s:ax}{a:aE}{y v:V}{u r:am}{o:Option V}{A:bo}{E:am->ax->Prop}
end
section
variable {X:Cx}{pins:List (aE × Obj)}{σ:St}{H:Hp}{s:ax}{a:aE}{kvs:List (Key × V)}{k:Key}{u:am}{A:bo}{E:am->ax->Prop}
end
def LY (i:Expr):Prop:=∀ ov iv,iZ i false ov iv=operate [ov,iv] (mS ov iv)
theorem BW {prog:bf}{w:bC}{A:bo}{E:am->ax->Prop}{s:ax}{env:Env}{value slice:Expr}{pos:Pos}{T id:String}{Q:am->ax->Prop}
  (hl:typeLookup (.type T) "__getitem__"=pure (some (.builtin id))) (hs:LY slice)
  (h:bg (bc prog w) A (eval value env) (fun o s₁=>bg (bc prog w) A (eval slice env) (fun i s₂=>s₂.TypeIs o T/\bg (bc prog w) A (mS o i) Q E s₂) E s₁) E s) :
  bg (bc prog w) A (eval (.Subscript value slice pos) env) Q E s:=by
 refine Subscript_ (bF h (fun o s₁ h₁=>bF h₁ (fun i s₂ h₂=>?_) fun _ _ x=>x) fun _ _ x=>x)
 obtain ⟨hT,h₂⟩:=h₂
 unfold subscriptTail
 refine aF ?_
 rw [getitemInPython_of_ne hT.not_modules]
 refine aF (wpAny_specialOf hT hl ?_)
 have fin:bg (bc prog w) A (iZ slice false o i) (fun r s₃=>bg (bc prog w) A (letTemporaryGo value o r >>= fun _=>pure r) Q E s₃) E s₂:=by
  rw [hs o i]
  exact wpAny_operating (bF h₂ (fun r s₃ h₃=>aF (wpAny_letTemporaryGo (bh h₃))) fun _ _ x=>x)
 first
  | exact bh (aF fin)
  | exact aF (bh (aF fin))
  | exact aF fin
section
variable {X:Cx}{o i e value:Expr}{pos pos' tpos:Pos}{td ty tv:TE}
end
section
variable {X:Cx}{pos:Pos}
end
structure M1 (X:Cx)(o:Expr)(m:Str)(apos:Pos)(e:Expr)(cpos:Pos):Prop where
 base:dL o m X.env (eval o X.env)=eval o X.env
 few:((cT cpos (bi [e] X.env)).all (fun x=>!x.1) && (gh cpos (dX [] X.env)).all (fun x=>x.1.isSome)
  && decide (([e]:List Expr).length+([]:List lm).length+(if ([]:List lm).isEmpty then 0 else 1)<30))=true
 line:(apos.endLine == cpos.line)=true
 trees:cT cpos (bi [e] X.env)=[(false,eval e X.env)]
structure M2 (X:Cx)(o:Expr)(m:Str)(apos:Pos)(e f:Expr)(cpos:Pos):Prop where
 base:dL o m X.env (eval o X.env)=eval o X.env
 few:((cT cpos (bi [e,f] X.env)).all (fun x=>!x.1) && (gh cpos (dX [] X.env)).all (fun x=>x.1.isSome)
  && decide (([e,f]:List Expr).length+([]:List lm).length+(if ([]:List lm).isEmpty then 0 else 1)<30))=true
 line:(apos.endLine == cpos.line)=true
 trees:cT cpos (bi [e,f] X.env)=[(false,eval e X.env),(false,eval f X.env)]
section
variable {X:Cx}{pins:List (aE × Obj)}{σ:St}{H:Hp}{s:ax}{a:aE}{y d:V}{u r:am}{o:Option V}{A:bo}{E:am->ax->Prop}
end
section
variable {X:Cx}{o e f:Expr}{apos cpos:Pos}{td ty tx:TE}
end
section
variable {X:Cx}{pins:List (aE × Obj)}{σ:St}{H:Hp}{s:ax}{a:aE}{kvs:List (Key × V)}{A:bo}{E:am->ax->Prop}
end
section
variable {X:Cx}{pins:List (aE × Obj)}{σ:St}{H:Hp}{s:ax}{a:aE}{y:V}{u:am}{A:bo}{E:am->ax->Prop}
end
section
variable {κ:Type}[DecidableEq κ]
end
end L2
set_option Elab.async false
set_option linter.all false
set_option maxRecDepth 100000
set_option maxHeartbeats 4000000
namespace L2
open PySem PySem.Spec PyProof.Rows
noncomputable def Bv (N:List Str)(ts:List Nat)(sc:Scope)(kind:Str->Option bW):Bool:=
 sc.kind == .function && sc.names.all (fun y=>y.2 != .cell && (y.2 != .local || sc.names.lookup y.1 == some .local) && (y.2 != .free || kind y.1 == some .cell || kind y.1 == some .free)) &&
  N.zipIdx.all (fun p=>sc.names.lookup p.1 != some .local || ts.contains p.2)
noncomputable def qI (cells:List (Str × aE)):List (Str × bW)->List (Str × aE)->List (Str × aE)
 | [],acc=>acc
 | (n,k) :: r,acc=>qI cells r (if k=.free then (n,(cells.lookup n).getD 0) :: acc else acc)
theorem Zj {env:Env}:∀ (names:List (Str × bW)) (acc:List (Str × aE)),(∀ y ∈ names,y.2=.free->∃ c,env.cells.lookup y.1=some c) ->
  (forIn names acc fun (x:Str × bW) (cs:List (Str × aE))=>(match x with | (name,kind)=>if (kind == bW.free)=true then (do let c <- cellOf env name;pure (ee ((name,c) :: cs))) else pure (ee cs):Sem (ForInStep (List (Str × aE)))))=pure (qI env.cells names acc)
 | [],acc,_=>rfl
 | (n,k) :: r,acc,h=>by
  rw [gx]
  by_cases hk:k=.free
  ·subst hk
   obtain ⟨c,hc⟩:=h (n,.free) cK rfl
   have e1:cellOf env n=pure c:=by unfold cellOf;rw [hc]
   simp only [beq_self_eq_true,if_true,e1,pure_bind]
   rw [Zj r _ fun y hy=>h y (ba _ hy)]
   show _=pure (qI env.cells r (if bW.free=.free then _ else _))
   rw [if_pos rfl,hc];rfl
  ·have hb:(k == bW.free)=false:=by simpa using hk
   simp only [hb,lQ,if_false,pure_bind]
   rw [Zj r _ fun y hy=>h y (ba _ hy)]
   show _=pure (qI env.cells r (if k=.free then _ else _))
   rw [if_neg hk]
theorem xQ {cells : List (Str × aE)} : ∀ (names : List (Str × bW)) (acc : List (Str × aE)), (∀ y ∈ names, y.2 = .free -> ∃ c, cells.lookup y.1 = some c) -> (∀ x c, acc.lookup x = some c -> cells.lookup x = some c) ->
    (∀ x c,(qI cells names acc).lookup x=some c->cells.lookup x=some c)/\(∀ x c,acc.lookup x=some c->∃ c',(qI cells names acc).lookup x=some c')/\∀ y ∈ names,y.2=.free->∃ c,(qI cells names acc).lookup y.1=some c
  | [],acc,_,h2=>⟨h2,fun x c e=>⟨c,e⟩,fun y hy=>nomatch hy⟩
  | (n,k) :: r,acc,h1,h2=>by
    by_cases hk:k=.free
    · subst hk
      obtain ⟨c,hc⟩:=h1 (n,.free) cK rfl
      have hc:cells.lookup n=some c:=hc
      have e:qI cells ((n,.free) :: r) acc=qI cells r ((n,c) :: acc):=by
        show qI cells r (if bW.free=.free then _ else _)=_
        rw [if_pos rfl,hc];rfl
      rw [e]
      obtain ⟨q1,q2,q3⟩:=xQ (cells:=cells) r ((n,c) :: acc) (fun y hy=>h1 y (ba _ hy)) (fun x c' e'=>by
        rw [cu] at e'
        cases hx:x == n with
        | true => rw [hx] at e'; have : x = n := by simpa using hx
                  subst this;cases e';exact hc
        | false=>rw [hx] at e';exact h2 x c' e')
      refine ⟨q1,fun x c' e'=>?_,fun y hy hf=>?_⟩
      · cases hx:x == n with
        | true=>exact q2 x c (by rw [cu,hx])
        | false=>exact q2 x c' (by rw [cu,hx];exact e')
      · rcases aJ.mp hy with rfl | hy
        · exact q2 n c (by rw [cu,beq_self_eq_true])
        · exact q3 y hy hf
    · have e : qI cells ((n, k) :: r) acc = qI cells r acc := by
        show qI cells r (if k=.free then _ else _)=_
        rw [if_neg hk]
      rw [e]
      obtain ⟨q1,q2,q3⟩:=xQ (cells:=cells) r acc (fun y hy=>h1 y (ba _ hy)) h2
      refine ⟨q1,q2,fun y hy hf=>?_⟩
      rcases aJ.mp hy with rfl | hy
      · exact absurd hf hk
      · exact q3 y hy hf
variable {scope:Scope}
theorem Kj {env:Env}(h:∀ y ∈ scope.names,y.2=.free->∃ c,env.cells.lookup y.1=some c) :
  ∃ cl,closureFor scope env=pure cl/\(∀ x c,cl.lookup x=some c->env.cells.lookup x=some c)/\∀ y ∈ scope.names,y.2=.free->∃ c,cl.lookup y.1=some c:=by
 obtain ⟨q1,_,q3⟩:=xQ (cells:=env.cells) scope.names [] h (fun x c e=>nomatch e)
 refine ⟨qI env.cells scope.names [],?_,q1,q3⟩
 unfold closureFor
 have:=Zj (env:=env) scope.names [] h
 first
  | exact this
  | (simp only [bind_pure];exact this)
  | (refine Eq.trans ?_ this;simp)
theorem xw {env:Env}:∀ {names:List (Str × bW)} {x:Str},(names.map fun (n,k)=>if (k == bW.free && env.scope.kind == .function && env.kindOf n == some .cell) then (n,bW.cell) else (n,k)).lookup x =
  (names.lookup x).map fun k=>if (k == bW.free && env.scope.kind == .function && env.kindOf x == some .cell) then bW.cell else k
 | [],_=>rfl
 | (n,k) :: r,x=>by
  have ih:=@xw env r x
  rw [bp]
  cases hx:x == n with
  | true=>
   have e:x=n:=by simpa using hx
   subst e
   rw [cu (as:=r),beq_self_eq_true]
   show bD x ((if (k == bW.free && env.scope.kind == .function && env.kindOf x == some .cell)=true then (x,bW.cell) else (x,k)) :: _)=some _
   by_cases hc:(k == bW.free && env.scope.kind == .function && env.kindOf x == some .cell)=true
   ·rw [if_pos hc,cu,beq_self_eq_true];dsimp only;rw [if_pos hc]
   ·rw [if_neg hc,cu,beq_self_eq_true];dsimp only;rw [if_neg hc]
  | false=>
   rw [cu (as:=r),hx]
   show bD x ((if (k == bW.free && env.scope.kind == .function && env.kindOf n == some .cell)=true then (n,bW.cell) else (n,k)) :: _)=_
   by_cases hc:(k == bW.free && env.scope.kind == .function && env.kindOf n == some .cell)=true
   ·rw [if_pos hc,cu,hx];exact ih
   ·rw [if_neg hc,cu,hx];exact ih
noncomputable abbrev cxC (X:Cx)(scope:Scope)(cl:List (Str × aE))(s:ax)(H:Hp)(fp:List aE):Cx:=
 { X with s₀:=s,H₀:=H,env:=compEnvC scope cl s.heap.objs.size X.env,outer:=X.stack,ex:=fp,fn:=fun _=>false,pn:=[],xe:=fun _ _=>False }
noncomputable def clr:List Nat->St->St
 | [],σ=>σ
 | j :: r,σ=>clr r (σ.set j none)
theorem KH:∀ (ts:List Nat) (σ:St),(clr ts σ).length=σ.length
 | [],_=>rfl
 | j :: r,σ=>by show (clr r (σ.set j none)).length=_;rw [KH r];simp
theorem Jc:∀ (ts:List Nat) (σ:St) (i:Nat) (v:V),(clr ts σ)[i]?=some (some v)->i ∉ ts/\σ[i]?=some (some v)
 | [],_,_,_,h=>⟨by simp,h⟩
 | j :: r,σ,i,v,h=>by
  obtain ⟨h1,h2⟩:=Jc r (σ.set j none) i v h
  by_cases e:j=i
  ·subst e
   rw [cB] at h2
   simp at h2
  ·rw [eG e] at h2
   exact ⟨by simp [h1,Ne.symm e],h2⟩
structure ScF (X:Cx)(ts:List Nat)(scope:Scope):Prop where
 kind:scope.kind=.function
 cell:∀ y ∈ scope.names,y.2 ≠ .cell
 loc:∀ y ∈ scope.names,y.2=.local->scope.names.lookup y.1=some .local
 free:∀ y ∈ scope.names,y.2=.free->X.env.kindOf y.1=some .cell \/ X.env.kindOf y.1=some .free
 ts:∀ (i:Nat) x,X.N[i]?=some x->scope.names.lookup x=some .local->i ∈ ts
variable {X:Cx} {ts:List Nat}
theorem IE (h:Bv X.N ts scope X.env.kindOf=true):ScF X ts scope:=by
  unfold Bv at h
  simp only [bj,bv,bne_iff_ne,ne_eq,iM,beq_iff_eq] at h
  obtain ⟨⟨h1,h2⟩,h3⟩:=h
  refine ⟨h1,fun y hy=>(h2 y hy).1.1,fun y hy e=>?_,fun y hy e=>?_,fun i x e1 e2=>?_⟩
  · rcases (h2 y hy).1.2 with z | z
    · exact absurd e z
    · exact z
  · rcases (h2 y hy).2 with (z | z) | z
    · exact absurd e z
    · exact .inl z
    · exact .inr z
  · have hm : (x, i) ∈ X.N.zipIdx := by
      rw [List.mem_zipIdx_iff_getElem?];exact e1
    rcases h3 _ hm with z | z
    · exact absurd e2 z
    · simpa using z
section
variable {X:Cx}{ts:List Nat}{scope:Scope}{pins:List (aE × Obj)}{σ:St}{H:Hp}{s:ax}{fp:List aE}
theorem Kv (I:Inv X pins σ H s)(S:ScF X ts scope)(hf:∀ b ∈ fp,yu X pins H b)(hfl:∀ b ∈ fp,b<s.heap.objs.size){cl:List (Str × aE)}(c1:∀ x c,cl.lookup x=some c->X.env.cells.lookup x=some c)
  (c2:∀ y ∈ scope.names,y.2=.free->∃ c,cl.lookup y.1=some c) {h1:Heap} {t1:Nat} (hns:h1.Ns s.heap.objs.size (fun x=>([]:List (Str × am)).reverse.lookup x))
  (hk:∀ b o,s.heap.get? b=some o->h1.get? b=some o):Inv (cxC X scope cl s H fp) [] (clr ts σ) H { s with heap:=h1,toks:=t1 }:=by
 have hlk:∀ x,(mi scope X.env).names.lookup x=(scope.names.lookup x).map fun k=>if (k == bW.free && X.env.scope.kind == .function && X.env.kindOf x == some .cell) then bW.cell else k:=fun x=>xw
 have cfree:∀ x,((mi scope X.env).names.lookup x=some .cell \/ (mi scope X.env).names.lookup x=some .free)->(x,bW.free) ∈ scope.names:=fun x hx=>by
  rw [hlk] at hx
  cases e:scope.names.lookup x with
  | none=>rw [e] at hx;rcases hx with hx | hx <;> cases hx
  | some k=>
   have hm:=mem_of_lookup_some e
   cases k with
   | free=>exact hm
   | cell=>exact absurd rfl (S.cell _ hm)
   | «local»=>rw [e] at hx;rcases hx with hx | hx <;> cases hx
   | globalExplicit=>rw [e] at hx;rcases hx with hx | hx <;> cases hx
   | globalImplicit=>rw [e] at hx;rcases hx with hx | hx <;> cases hx
 have ccell:∀ x c,cl.lookup x=some c->∃ v,s.heap.IsCell c v:=fun x c e=>I.cell x c (c1 x c e)
 have fpne:∀ b ∈ fp,b ∉ frs X.stack:=fun b hb z=>by
  obtain ⟨_,f1,f2,_⟩:=hf b hb
  rcases aJ.mp (I.stkSub b z) with e | e
  ·exact f1 e
  ·exact f2 e
 refine ⟨⟨I.ok.mod,S.kind,I.ok.glob,I.ok.blt,aL _,fun x y c e1 e2=>I.ok.inj x y c (c1 x c e1) (c1 y c e2),fun x hx=>c2 (x,.free) (cfree x hx) rfl,(fun x c hx=>nomatch hx),I.ok.hd,I.ok.frames,.inl rfl,fun b hb=>⟨bE (hfl b hb),fun x c e=>(hf b hb).2.2.2.2.1 x c (c1 x c e)⟩,
  I.bs,bu I.ok.bsz I.sz,fun b o e hb=>?_,fpne,I.stack,I.stkFree⟩,rfl,I.bare,Un.kept hk,⟨_,hns,fun i x v e1 e2 e3=>?_⟩,fun x c e=>?_,I.hok.fresh (aL _),fun x c e=>I.freeC x c (c1 x c e),fun p hp=>absurd hp (by simp),I.hok.kept hk,by rw [KH];exact I.len⟩
 ·rcases (hf b hb).2.2.2.1 with z | z
  ·exact I.ok.noex b o e z
  ·exact absurd (bt (aM e) (bu I.ok.bsz z)) (cY _)
 ·obtain ⟨nt,e2⟩:=Jc ts σ i v e2
  have e3':(mi scope X.env).names.lookup x=some .local \/ (mi scope X.env).names.lookup x=some .cell \/ (mi scope X.env).names.lookup x=some .free:=e3
  rcases e3' with z | z
  ·rw [hlk] at z
   cases e:scope.names.lookup x with
   | none=>rw [e] at z;cases z
   | some k=>
    rw [e] at z
    have z':(if (k == bW.free && X.env.scope.kind == .function && X.env.kindOf x == some .cell)=true then bW.cell else k)=.local:=bO z
    split at z'
    ·cases z'
    ·subst z'
     exact absurd (S.ts i x e1 e) nt
  ·have hm:=cfree x z
   obtain ⟨c,hc⟩:=c2 _ hm rfl
   obtain ⟨m,hn,hl⟩:=I.loc
   have vis:Vis X.env.scope x:=by
    rcases S.free _ hm rfl with q | q
    ·exact .inr (.inl q)
    ·exact .inr (.inr q)
   obtain ⟨u,r,l⟩:=hl i x v e1 e2 vis
   refine ⟨u,r,.inr ⟨z,c,hc,?_⟩⟩
   rcases l with ⟨q,_⟩ | ⟨_,c',hc',hcell⟩
   ·rcases S.free _ hm rfl with q' | q'
    ·rw [q'] at q;cases q
    ·rw [q'] at q;cases q
   ·rw [c1 x c hc] at hc'
    cases hc'
    obtain ⟨o,ho,hd⟩:=hcell
    exact ⟨o,hk _ _ ho,hd⟩
 ·obtain ⟨v,o,ho,hd⟩:=ccell x c e
  exact ⟨v,o,hk _ _ ho,hd⟩
end
section
variable {prog:bf}{w:bC}{A:bo}{R:ms->ax->Prop}{s:ax}
theorem kK {elt target iter : Expr}{ifs : List Expr}{scope : Scope}{pos : Pos}{it acc : am}{env : Env}(I : Nat -> ax -> Prop)
    (turn:∀ n s,I n s->bg (bc prog w) A (iU it) (fun r s₁=>match r with
      | none=>R (.ok .next) s₁
      | some v => bg (bc prog w) A (gv target it v) (fun _ s₀ => bg (bc prog w) A (lI target env v) (fun _ s₂ =>
          bg (bc prog w) A (forIn ifs true fun c r=>if r=true then do let ok <- isTrue c env (eval c env);pure (ee ok) else pure (ee r)) (fun ok s₃=>
            if ok=true then bg (bc prog w) A (eval elt env) (fun x s₄=>
              bg (bc prog w) A (call (.builtin "list.append") [acc,x]) (fun _ s₅=>∃ m,m<n/\I m s₅) (fun _ _=>False) s₄) (fun _ _=>False) s₃
            else ∃ m,m<n/\I m s₃) (fun _ _=>False) s₂) (fun _ _=>False) s₀) (fun _ _=>False) s₁) (fun _ _=>False) s)
    (n:Nat) (h:I n s) :
    fA (bc prog w) A (.compLoop (.ListComp elt [⟨target,iter,ifs,0⟩] scope pos) 0 it acc env) R s:=by
  refine codeAny_loop rfl I (fun n s hI=>?_) n h
  show bg _ A ((compTurn (.ListComp elt [⟨target,iter,ifs,0⟩] scope pos) 0 it acc env).onRaise (fun x=>do mD x env;theTreesLotGoes x)) _ _ s
  refine wpAny_noted ?_
  rw [compTurn_list]
  refine aF (e8 (aF (bF (turn n s hI) (fun r s₁ h₁=>?_) fun _ _ h'=>h'.elim)))
  cases r with
  | none=>exact bh h₁
  | some v=>
    refine aF (bF h₁ (fun _ s₀ h₀=>?_) fun _ _ h'=>h'.elim)
    refine aF (bF h₀ (fun _ s₂ h₂=>aF (bF h₂ (fun ok s₃ h₃=>?_) fun _ _ h'=>h'.elim)) fun _ _ h'=>h'.elim)
    cases ok with
    | false=>exact bh ⟨rfl,h₃⟩
    | true=>
      exact aF (aF (bF h₃ (fun x s₄ h₄=>aF (bF h₄ (fun _ s₅ h₅=>bh (bh ⟨rfl,h₅⟩)) fun _ _ h'=>h'.elim)) fun _ _ h'=>h'.elim))
end
noncomputable def A6:TT:=fun _ H Q=>Q true H
def PIf (X:Cx)(ifs:List Expr)(t:TT):Prop:=
 ∀ (pins:List (aE × Obj)) (s:ax) (σ:St) (H:Hp) (Q:Bool->Hp->Prop),Inv X pins σ H s->t σ H Q ->
  bg (bc X.prog X.w) X.A (forIn ifs true fun c r=>if r=true then do let ok <- isTrue c X.env (eval c X.env);pure (ee ok) else pure (ee r)) (TP X pins σ Q) X.xe s
theorem qJ:PIf X [] A6:=fun _ _ _ H _ I h=>wpAny_tests_nil ⟨H,I,h⟩
variable {t:TT}
theorem DH {c:Expr} (h:PT X c t):PIf X [c] t:=fun pins s σ H Q I hq=>wpAny_tests_one (h pins s σ H Q I hq)
noncomputable def Q7 (ts:List Nat)(wi:TI)(g:TG)(tt:TT)(te:TE):TE:=fun σ H Q=>wi σ H fun J H1=>∀ D,H1 D=none->∃ W:Nat->Nat->St->Hp->Prop,(∃ m,W 0 m (clr ts σ) (upd H1 D (.lst [])))/\∀ i m τ H2,W i m τ H2 ->
 (J.stop i H2/\Q (.ref D) H2) \/ (J.go i H2/\∃ N:St->Hp->Prop,(∀ τ' H',N τ' H'->∃ m',m'<m/\W (i+1) m' τ' H')/\∀ x H',J.yld i H2 x H'->g x τ H' fun τ2 H3=>tt τ2 H3 fun b H4=>
  if b=true then te τ2 H4 fun v H5=>∃ ys,H5 D=some (.lst ys)/\ys.length<aT/\N τ2 (upd H5 D (.lst (ys ++ [v]))) else N τ2 H4)
section
variable {X:Cx}{ts:List Nat}{scope:Scope}{tg iter elt:Expr}{ifs:List Expr}{wi:TI}{g:TG}{tt:TT}{te:TE}{pos:Pos}
theorem Qk (hc:X.calm=true)(hsc:Bv X.N ts scope X.env.kindOf=true)(hi:PI X tg iter wi)(hg:∀ cl s H fp,PG (cxC X scope cl s H fp) tg g)(ht:∀ cl s H fp,PIf (cxC X scope cl s H fp) ifs tt)(he:∀ cl s H fp,PE (cxC X scope cl s H fp) elt te)
  {pins:List (aE × Obj)} {s:ax} {σ:St} {H:Hp} {Q:VK} (I:Inv X pins σ H s) (h:Q7 ts wi g tt te σ H Q) {use:Option (am->Sem Unit)} {Q':am->ax->Prop}
  (fin:∀ (D C:aE) (H':Hp) (s':ax),Inv X pins σ H' s'->(∃ m,s'.heap.Ns C m)->H' C=none->C ≠ X.env.locals->(∀ x c,X.env.cells.lookup x=some c->c ≠ C)->X.s₀.heap.objs.size<=C->(∀ p ∈ X.pn ++ pins,p.1 ≠ C)->C ∉ X.fs->Q (.ref D) H' ->
   compPost (bc X.prog X.w) X.A X.xe use Q' (.ref D) C (.ok .next) s')
  (hs:∀ x,fw iter X.env x=pure x) :
  bg (bc X.prog X.w) X.A (comprehension (.ListComp elt [⟨tg,iter,ifs,0⟩] scope pos) scope X.env (firstIterPos [⟨tg,iter,ifs,0⟩] pos) (newList []) false (eval iter X.env) use) Q' X.xe s:=by
 have S:=IE hsc
 obtain ⟨cl,hcl,c1,c2⟩:=Kj (scope:=scope) (env:=X.env) fun y hy e=>I.ok.has y.1 (S.free y hy e)
 refine wpAny_comprehension_free (use:=use) rfl hs hcl S.kind S.loc ?_
 refine bF (hi pins s σ H _ I h) (fun v s1 h1=>bF h1 (fun itv s2 h2=>?_) fun _ _ e=>e) fun _ _ e=>e
 obtain ⟨it,fp,tn,J,H2,e,I2,T,st2,f2,q2⟩:=h2
 subst e
 have hD:H2 s2.heap.objs.size=none:=I2.hok.fresh (aL _)
 obtain ⟨W,⟨m0,w0⟩,turn⟩:=q2 _ hD
 refine hU (wpAny_newFunctionEnv S.cell (by intro y hy;simp at hy) (fun h₁ hns₁ hsb₁=>?_) S.kind)
 dsimp only at hns₁ hsb₁ ⊢
 generalize hh3:s2.heap.push { cls:=.type "list",dict:=none,data:=.seq ([]:List am).toArray }=g3 at hns₁ hsb₁ ⊢
 have I3:Inv X pins σ (upd H2 s2.heap.objs.size (.lst [])) { s2 with heap:=g3 }:=by
  rw [<- hh3]
  exact I2.laid (t':=s2.toks) (fun b u e=>aG _ e) (aL _) ⟨cb _,[],_,.nil,aY _ rfl⟩
 have st3:tn 0 g3:=T.keep _ _ _ st2 fun b _ o e=>by rw [<- hh3];exact aG _ e
 have lt2:∀ b ∈ fp,b<s2.heap.objs.size:=fun b hb=>by obtain ⟨o,e,_⟩:=T.obj _ _ st2 b hb;exact aM e
 have hsz3:g3.objs.size=s2.heap.objs.size+1:=by rw [<- hh3,de]
 have f3:∀ b ∈ fp,yu X pins (upd H2 s2.heap.objs.size (.lst [])) b:=fun b hb=>⟨by rw [zg (bE (lt2 b hb))];exact (f2 b hb).1,(f2 b hb).2⟩
 have lt3:∀ b ∈ fp,b<g3.objs.size:=fun b hb=>by rw [hsz3];exact mj (lt2 b hb)
 have old:∀ b o,g3.get? b=some o->h₁.get? b=some o:=fun b o e=>hsb₁.extBut b o (bE (aM e)) (aG _ e)
 have hns:h₁.Ns g3.objs.size (fun x=>([]:List (Str × am)).reverse.lookup x):=hns₁
 have I4:∀ t,Inv (cxC X scope cl { s2 with heap:=g3 } (upd H2 s2.heap.objs.size (.lst [])) fp) [] (clr ts σ) (upd H2 s2.heap.objs.size (.lst [])) { s2 with heap:=h₁,toks:=t }:=fun t=>Kv I3 S f3 lt3 c1 c2 hns old
 have fpne:∀ b ∈ fp,b ∉ frs X.stack:=fun b hb z=>by
  obtain ⟨_,f1,f2,_⟩:=f3 b hb
  rcases aJ.mp (I3.stkSub b z) with e | e
  ·exact f1 e
  ·exact f2 e
 have stat:∀ {H':Hp},(∀ b ∈ fp,H' b=none)->∀ b ∈ fp,yu (cxC X scope cl { s2 with heap:=g3 } (upd H2 s2.heap.objs.size (.lst [])) fp) [] H' b:=fun hn b hb=>
  ⟨hn b hb,bE (lt3 b hb),fpne b hb,.inl hb,fun x c e=>(f2 b hb).2.2.2.2.1 x c (c1 x c e),fun p hp=>absurd hp (by simp)⟩
 have loop:∀ t,fA (bc X.prog X.w) X.A (.compLoop (.ListComp elt [⟨tg,iter,ifs,0⟩] scope pos) 0 (.ref it) (.ref s2.heap.objs.size) (compEnvC scope cl g3.objs.size X.env))
   (compPost (bc X.prog X.w) X.A X.xe use Q' (.ref s2.heap.objs.size) g3.objs.size) { s2 with heap:=h₁,toks:=t }:=by
  intro t
  refine kK (fun n s'=>∃ i τ H',Inv (cxC X scope cl { s2 with heap:=g3 } (upd H2 s2.heap.objs.size (.lst [])) fp) [] τ H' s'/\tn i s'.heap/\(∀ b ∈ fp,H' b=none)/\W i n τ H') ?_ m0
   ⟨0,clr ts σ,_,I4 t,T.keep _ _ _ st3 fun b _ o e=>old b o e,fun b hb=>(f3 b hb).1,w0⟩
  rintro n s5 ⟨i,τ,H5,I5,st5,fr5,w5⟩
  rcases turn i n τ H5 w5 with ⟨stop,qn⟩ | ⟨go,N,hN,step⟩
  ·refine thn (T.done (cxC X scope cl { s2 with heap:=g3 } (upd H2 s2.heap.objs.size (.lst [])) fp) rfl rfl rfl hc i [] s5 τ H5 _ I5 (stat fr5) st5 stop) fun r s6 ⟨hr,I6⟩=>?_
   subst hr
   have base:Un (frs X.stack) fp (upd H2 s2.heap.objs.size (.lst [])) H5 g3 s6.heap:=I6.base
   have J6:Inv X pins σ H5 s6:=I3.call' (ch:=fp) I6.os base I6.hok I6.bare fun b hb=>⟨(f3 b hb).2.2.2.1,(f3 b hb).2.1,(f3 b hb).2.2.2.2.1,(f3 b hb).2.2.2.2.2⟩
   obtain ⟨m6,n6,_⟩:=I6.loc
   have hC:g3.get? g3.objs.size=none:=eF (aL _)
   refine fin _ g3.objs.size H5 s6 J6 ⟨m6,n6⟩ I6.free (dF I3.lt) (fun x c e z=>?_) I3.sz (fun p hp z=>?_) (I3.nofs (aL _)) qn
   ·obtain ⟨v,q⟩:=I3.cell x c e
    exact absurd q.lt (by rw [z];exact cY _)
   ·exact absurd (aM (I3.pin p hp).1) (by rw [z];exact cY _)
  ·refine thn (T.item (cxC X scope cl { s2 with heap:=g3 } (upd H2 s2.heap.objs.size (.lst [])) fp) rfl rfl rfl hc i [] s5 τ H5 _ I5 (stat fr5) st5 go) fun r s6 ⟨u,hr,h6⟩=>?_
   subst hr
   refine thn h6 fun _ s7 ⟨x,H7,I7,r7,y7,st7,fr7⟩=>?_
   have I7':=I7.pinned (stat fr7) (T.obj _ _ st7)
   refine thn (hg cl { s2 with heap:=g3 } _ fp _ s7 τ H7 x u _ I7' r7 (step x H7 y7)) fun _ s8 ⟨τ8,H8,I8,q8⟩=>?_
   refine thn (ht cl { s2 with heap:=g3 } _ fp _ s8 τ8 H8 _ I8 q8) fun b s9 ⟨H9,I9,q9⟩=>?_
   have again:∀ {τ9:St} {H9:Hp} {s9:ax},Inv (cxC X scope cl { s2 with heap:=g3 } (upd H2 s2.heap.objs.size (.lst [])) fp) ([] ++ yU fp s7.heap) τ9 H9 s9->N τ9 H9 ->
     ∃ m,m<n/\∃ i τ H',Inv (cxC X scope cl { s2 with heap:=g3 } (upd H2 s2.heap.objs.size (.lst [])) fp) [] τ H' s9/\tn i s9.heap/\(∀ b ∈ fp,H' b=none)/\W i m τ H':=fun {τ9 H9 s9} I9 n9=>by
    obtain ⟨m',hm,w9⟩:=hN _ _ n9
    refine ⟨m',hm,i+1,τ9,H9,I9.unpinned,T.keep _ _ _ st7 fun b hb o e=>(I9.pin (b,o) (bS _ (bS _ (jO hb e)))).1,fun b hb=>?_,w9⟩
    obtain ⟨o,e,d⟩:=T.obj _ _ st7 b hb
    exact (I9.pin (b,o) (bS _ (bS _ (jO hb e)))).2.1
   cases b with
   | false=>
    rw [if_neg bK] at q9 ⊢
    exact again I9 q9
   | true=>
    rw [if_pos rfl] at q9 ⊢
    refine thn (he cl { s2 with heap:=g3 } _ fp _ s9 τ8 H9 _ I9 q9) fun y s10 ⟨v,H10,I10,r10,ys,hys,hlen,n10⟩=>?_
    exact thn (wk (X:=cxC X scope cl { s2 with heap:=g3 } (upd H2 s2.heap.objs.size (.lst [])) fp) _ s10 τ8 H10 (.ref s2.heap.objs.size) [v] (.ref s2.heap.objs.size) [y] (fun _ H11=>N τ8 H11) I10 rfl (.cons r10 .nil) ⟨_,ys,v,rfl,rfl,hys,hlen,n10⟩) fun _ s11 ⟨_,H11,I11,_,n11⟩=>again I11 n11
 have LW:=loop (s2.toks+([]:List (Str × am)).length)
 exact codeAny_compStart_list LW (T.self _ 0 _ _ _ (T.keep _ _ _ st3 fun b _ o e=>old b o e) LW)
end
section
variable {X:Cx}{ts:List Nat}{scope:Scope}{tg iter elt:Expr}{ifs:List Expr}{wi:TI}{g:TG}{tt:TT}{te:TE}{pos:Pos}
theorem qH (hc:X.calm=true)(hsc:Bv X.N ts scope X.env.kindOf=true)(hi:PI X tg iter wi)(hg:∀ cl s H fp,PG (cxC X scope cl s H fp) tg g)(ht:∀ cl s H fp,PIf (cxC X scope cl s H fp) ifs tt)(he:∀ cl s H fp,PE (cxC X scope cl s H fp) elt te)
  (hs:∀ x,fw iter X.env x=pure x:=by intro _;rfl):PE X (.ListComp elt [⟨tg,iter,ifs,0⟩] scope pos) (Q7 ts wi g tt te):=by
 intro pins s σ H Q I h
 rw [eval_ListComp]
 refine Qk hc hsc hi hg ht he I h (use:=none) (fun D C H' s' I' ⟨m,hn⟩ hC hL hce hsz hp hfs q=>⟨m,hn,fun h' hs'=>?_⟩) hs
 exact ⟨.ref D,H',I'.turned (t':=s'.toks) (it:=C) (fun b o hb e=>(hs'.2 b hb).trans e) hC hL (.inr hsz) hce hp,rfl,q⟩
theorem Ei {j:Nat}{y:Str}{py spos:Pos}(hc:X.calm=true)(hN:X.N.Nodup)(hj:X.N[j]?=some y)(hy:Loc X.env.scope y)(hsc:Bv X.N ts scope X.env.kindOf=true)(hi:PI X tg iter wi)(hg:∀ cl s H fp,PG (cxC X scope cl s H fp) tg g)(ht:∀ cl s H fp,PIf (cxC X scope cl s H fp) ifs tt)(he:∀ cl s H fp,PE (cxC X scope cl s H fp) elt te)
  (hsw:li (.ListComp elt [⟨tg,iter,ifs,0⟩] scope pos) (some (.Name y py)) spos.line X.env=pure true:=by rfl)
  (hs:∀ x,fw iter X.env x=pure x:=by intro _;rfl) (hf:X.fn y=true \/ X.env.scope.names.lookup y=some .local:=by first | exact .inl rfl | exact .inr rfl | assumption) :
  PS X (.Assign [.Name y py] (.ListComp elt [⟨tg,iter,ifs,0⟩] scope pos) spos) (vJ (Q7 ts wi g tt te) (yq j)):=by
 intro pins s σ H D I h
 rw [exec_Assign_Name_used _ _ _ _ hsw]
 refine aF (e8 (aF ?_))
 show bg _ _ (do let _ <- comprehension (.ListComp elt [⟨tg,iter,ifs,0⟩] scope pos) scope X.env _ (newList []) false (eval iter X.env) (some (lI (.Name y py) X.env))) _ _ s
 refine aF (bF (Qk hc hsc hi hg ht he I h (use:=some (lI (.Name y py) X.env)) (Q':=fun _ s'=>SP X pins D .next s') (fun D' C H' s' I' ⟨m,hn⟩ hC hL hce hsz hp hfs q=>?_) hs) (fun _ s' hq=>bh (bh hq)) fun _ _ e=>e)
 show bg _ _ (lI (.Name y py) X.env (.ref D')) _ _ _
 refine wpAny_assign_Name (wV (v:=.ref D') I' hN hj hy rfl (fun s2 I2 ⟨a,hsb,ha⟩=>?_) hf)
 have hCa:C ≠ a:=by
  rcases ha with rfl | ha
  ·exact hL
  ·exact Ne.symm (hce y a ha)
 refine ⟨m,hn.sameBut hsb hCa,fun h' hs'=>?_⟩
 exact ⟨_,H',I2.turned (t':=s2.toks) (it:=C) (fun b o hb e=>(hs'.2 b hb).trans e) hC hL (.inr hsz) hce hp,q⟩
end
noncomputable def Ite (K:au)(a:aE):It:=
 ⟨fun i H=>∃ xs x,SqL K H a xs/\xs[i]?=some x,fun i H y H'=>∃ p x,H p=none/\y=.ref p/\(∀ xs,SqL K H a xs->xs[i]?=some x)/\H'=upd H p (.tup [.int i,x]),fun i H=>∃ xs,SqL K H a xs/\xs.length<=i⟩
variable {P:bf} {w:bC} {K:au} {es:List Expr} {kt:Nat} {tp:Pos}
theorem wx (a e it:aE)(hei:e ≠ it):ZK P w K (.Tuple es kt tp) (Ite K a) [e,it] e (fun i h=>(∃ old,IsEnum h e it (i:Nat) old)/\h.IsListIter it a i) where
 mem:=by simp
 obj:=fun i h st b hb=>by
  obtain ⟨⟨old,he⟩,⟨o,e1,c,d⟩⟩:=st
  rcases aJ.mp hb with rfl | hb
  ·exact ⟨_,he,fun v z=>by have z':dr _=ft v:=z;cases z'⟩
  ·have e2:b=it:=by simpa using hb
   subst e2
   exact ⟨o,e1,fun v z=>by rw [d] at z;cases z⟩
 keep:=fun i h h' st k=>by
  obtain ⟨⟨old,he⟩,st⟩:=st
  exact ⟨⟨old,k e (by simp) _ he⟩,st.at fun o e=>k it (by simp) o e⟩
 item:=by
  intro X hP hw hK hc i pins s σ H E I hf st hg
  subst hP hw hK
  obtain ⟨⟨old,he⟩,st⟩:=st
  obtain ⟨xs,x,hq,hx⟩:=hg
  obtain ⟨its,rv,p,hz⟩:=I.list hq
  obtain ⟨u,hu,ru⟩:=rv.get hx
  have fe:=hf e (by simp)
  have fi:=hf it (by simp)
  refine wpAny_pyNext_enum_item he st p.isList (x:=u) (by simpa using hu) hei fun h1 heo hit1 ht1 hz1 hk1=>?_
  refine ⟨.ref s.heap.objs.size,rfl,gN heo fun h2 he2 hs2=>?_⟩
  replace hs2:b8 e h1 h2:=hs2
  have elt:e<s.heap.objs.size:=aM he
  have hfr:H s.heap.objs.size=none:=I.hok.fresh (aL _)
  have ht2:h2.get? s.heap.objs.size=some { cls:=.type "tuple",data:=.seq #[.int i s.toks,u] }:=(hs2.2 _ (dF elt)).trans ht1
  have kk:∀ b o,b ∉ [e,it]->s.heap.get? b=some o->h2.get? b=some o:=fun b o hc q=>by
   have n1:b ≠ e:=fun z=>hc (by simp [z])
   have n2:b ≠ it:=fun z=>hc (by simp [z])
   exact (hs2.2 b n1).trans (hk1 b o n1 n2 q)
  have nb:∀ c v,H c=some v->c ∉ [e,it]:=fun c v z hm=>by
   rcases aJ.mp hm with z' | z'
   ·rw [z',fe.1] at z;cases z
   ·have e2:c=it:=by simpa using z'
    rw [e2,fi.1] at z;cases z
  have I2:Inv X pins σ (upd H s.heap.objs.size (.tup [.int i,x])) { s with heap:=h2,toks:=s.toks+1 }:=by
   refine I.step (g':=s.gens) (d':=s.drawn) (ch:=[e,it]) (fun b hb=>?_) (fun b o _ _ hc q _=>kk b o hc q) (fun b o _ _ hc q _=>⟨o.slots,kk b o hc q⟩) (fun b o _ q n=>by rw [zg (bE (aM q))];exact n) (fun b o hc q=>⟨o,kk b o hc q⟩)
    (fun b xs q=>by rw [zg (zj q hfr)];exact q) (fun b o u q=>by rw [zg (zj q hfr)];exact q) (fun b ps q=>⟨#[],by rw [zg (zj q hfr),q];simp⟩) (fun m hm=>?_) (fun b v q=>?_) I.bare
   ·rcases aJ.mp hb with z | hb
    ·rw [z];exact ⟨fe.2.2.2.1,fe.2.1,fe.2.2.2.2.1,fe.2.2.2.2.2⟩
    ·have e2:b=it:=by simpa using hb
     rw [e2];exact ⟨fi.2.2.2.1,fi.2.1,fi.2.2.2.2.1,fi.2.2.2.2.2⟩
   ·obtain ⟨o,es,ep,ho,r⟩:=hm
    exact ⟨o,es,ep,kk _ o (by simp [Ne.symm fe.2.1,Ne.symm fi.2.1]) ho,r⟩
   ·by_cases hb:b=s.heap.objs.size
    ·subst hb
     rw [zi] at q
     cases q
     exact ⟨by show 2<=aT;decide,[.int i s.toks,u],.cons ⟨_,rfl⟩ (.cons ru .nil),_,ht2,rfl,⟨_,rfl⟩,rfl⟩
    ·rw [zg hb] at q
     refine (I.hok b v q).stay (fun c o hc q'=>kk c o ?_ q') (fun c z=>by rw [zg (zj z hfr)];exact z) fun c xs z=>by rw [zg (zj z hfr)];exact z
     rcases hc with z | z
     ·rw [z];exact nb b v q
     ·exact nb c _ z
  refine ⟨.ref s.heap.objs.size,_,I2,rfl,⟨s.heap.objs.size,x,hfr,rfl,fun ys hy=>by rw [I.list_inj hy hq];exact hx,rfl⟩,⟨⟨_,by simpa using he2⟩,hit1.extBut hs2.extBut (Ne.symm hei)⟩,fun b hb=>?_⟩
  have hlt:b<s.heap.objs.size:=by
   rcases aJ.mp hb with rfl | hb
   ·exact elt
   ·have e2:b=it:=by simpa using hb
    subst e2
    obtain ⟨o,e1,_⟩:=st
    exact aM e1
  rw [zg (bE hlt)]
  exact (hf b hb).1
 done:=by
  intro X hP hw hK hc i pins s σ H E I hf st hg
  subst hP hw hK
  obtain ⟨⟨old,he⟩,st⟩:=st
  obtain ⟨xs,hq,hx⟩:=hg
  obtain ⟨its,rv,p,hz⟩:=I.list hq
  obtain ⟨f0,f1,f2,f3,f4,f5⟩:=hf it (by simp)
  have hl:=rv.length
  exact wpAny_pyNext_enum_end (I.ok.hd hc) he st p.isList (by simp;omega) fun h' eb=>⟨rfl,I.turned (t':=s.toks) (fun b o hb e=>eb b o hb e) f0 f1 f3 f4 f5⟩
 self:=fun _ _ _ _ _ st h=>by
  obtain ⟨⟨old,he⟩,_⟩:=st
  exact eA he h
section
variable {X:Cx}{pins:List (aE × Obj)}{σ:St}{H:Hp}{s:ax}
variable {ch:List aE} {h2:Heap} {tk:Nat}
theorem Inv.yieldTup {T:aE}{xs:List V}{us:List am}(I:Inv X pins σ H s)(hf:∀ b ∈ ch,yu X pins H b)(kk:∀ b o,b ∉ ch->s.heap.get? b=some o->h2.get? b=some o)(hT:s.heap.objs.size<=T)
  (ht2:h2.get? T=some { cls:=.type "tuple",data:=.seq us.toArray }) (rv:zx xs us) (hz:xs.length<=aT):Inv X pins σ (upd H T (.tup xs)) { s with heap:=h2,toks:=tk }:=by
 have hfr:H T=none:=I.hok.fresh hT
 have nb:∀ c v,H c=some v->c ∉ ch:=fun c v z hm=>by rw [(hf c hm).1] at z;cases z
 refine I.step (g':=s.gens) (d':=s.drawn) (ch:=ch) (fun b hb=>⟨(hf b hb).2.2.2.1,(hf b hb).2.1,(hf b hb).2.2.2.2.1,(hf b hb).2.2.2.2.2⟩) (fun b o _ _ hc q _=>kk b o hc q) (fun b o _ _ hc q _=>⟨o.slots,kk b o hc q⟩)
  (fun b o _ q n=>by rw [zg (bE (bt (aM q) hT))];exact n) (fun b o hc q=>⟨o,kk b o hc q⟩)
  (fun b xs q=>by rw [zg (zj q hfr)];exact q) (fun b o u q=>by rw [zg (zj q hfr)];exact q) (fun b ps q=>⟨#[],by rw [zg (zj q hfr),q];simp⟩) (fun m hm=>?_) (fun b v q=>?_) I.bare
 ·obtain ⟨o,es,ep,ho,r⟩:=hm
  exact ⟨o,es,ep,kk _ o (fun z=>(hf _ z).2.1 rfl) ho,r⟩
 ·by_cases hb:b=T
  ·subst hb
   rw [zi] at q
   cases q
   exact ⟨hz,us,rv,_,ht2,rfl,⟨_,rfl⟩,rfl⟩
  ·rw [zg hb] at q
   refine (I.hok b v q).stay (fun c o hc q'=>kk c o ?_ q') (fun c z=>by rw [zg (zj z hfr)];exact z) fun c xs z=>by rw [zg (zj z hfr)];exact z
   rcases hc with z | z
   ·rw [z];exact nb b v q
   ·exact nb c _ z
theorem Inv.turnedL (I:Inv X pins σ H s)(hf:∀ b ∈ ch,yu X pins H b)(kk:∀ b o,b ∉ ch->s.heap.get? b=some o->h2.get? b=some o):Inv X pins σ H { s with heap:=h2,toks:=tk }:=by
 have nb:∀ c v,H c=some v->c ∉ ch:=fun c v z hm=>by rw [(hf c hm).1] at z;cases z
 refine I.step (g':=s.gens) (d':=s.drawn) (ch:=ch) (fun b hb=>⟨(hf b hb).2.2.2.1,(hf b hb).2.1,(hf b hb).2.2.2.2.1,(hf b hb).2.2.2.2.2⟩) (fun b o _ _ hc q _=>kk b o hc q) (fun b o _ _ hc q _=>⟨o.slots,kk b o hc q⟩)
  (fun b o _ q n=>n) (fun b o hc q=>⟨o,kk b o hc q⟩) (fun b xs q=>q) (fun b o u q=>q) (fun b ps q=>⟨#[],by rw [q];simp⟩) (fun m hm=>?_) (fun b v q=>?_) I.bare
 ·obtain ⟨o,es,ep,ho,r⟩:=hm
  exact ⟨o,es,ep,kk _ o (fun z=>(hf _ z).2.1 rfl) ho,r⟩
 ·refine (I.hok b v q).stay (fun c o hc q'=>kk c o ?_ q') (fun c z=>z) fun c xs z=>z
  rcases hc with z | z
  ·rw [z];exact nb b v q
  ·exact nb c _ z
end
noncomputable def Itz (K:au)(a b:aE):It:=
 ⟨fun i H=>∃ xs ys x y,SqL K H a xs/\SqL K H b ys/\xs[i]?=some x/\ys[i]?=some y,fun i H z H'=>∃ p x y,H p=none/\z=.ref p/\(∀ xs,SqL K H a xs->xs[i]?=some x)/\(∀ ys,SqL K H b ys->ys[i]?=some y)/\H'=upd H p (.tup [x,y]),
  fun i H=>∃ xs ys,SqL K H a xs/\SqL K H b ys/\(xs.length<=i \/ ys.length<=i)⟩
theorem V1 (l1 l2 z TI TO i1 i2:aE)(D:ZipApart z TI TO i1 i2 l1 l2) :
  ZK P w K (.Tuple es kt tp) (Itz K l1 l2) [z,TI,TO,i1,i2] z (fun i h=>IsZip h z TI TO .none/\fK h TI (.ref i1) (.ref i2)/\(∃ a b,fK h TO a b)/\h.IsListIter i1 l1 i/\h.IsListIter i2 l2 i) where
 mem:=by simp
 obj:=fun i h st b hb=>by
  obtain ⟨hz,hTI,⟨a,c,hTO⟩,⟨o1,e1,c1,d1⟩,⟨o2,e2,c2,d2⟩⟩:=st
  simp only [aJ,bM,or_false] at hb
  rcases hb with rfl | rfl | rfl | rfl | rfl
  ·exact ⟨_,hz,fun v q=>by have q':dr _=ft v:=q;cases q'⟩
  ·exact ⟨_,hTI,fun v q=>by have q':eL _ _=ft v:=q;cases q'⟩
  ·exact ⟨_,hTO,fun v q=>by have q':eL _ _=ft v:=q;cases q'⟩
  ·exact ⟨o1,e1,fun v q=>by rw [d1] at q;cases q⟩
  ·exact ⟨o2,e2,fun v q=>by rw [d2] at q;cases q⟩
 keep:=fun i h h' st k=>by
  obtain ⟨hz,hTI,⟨a,c,hTO⟩,h1,h2⟩:=st
  exact ⟨k _ (by simp) _ hz,k _ (by simp) _ hTI,⟨a,c,k _ (by simp) _ hTO⟩,h1.at fun o e=>k _ (by simp) o e,h2.at fun o e=>k _ (by simp) o e⟩
 item:=by
  intro X hP hw hK hc i pins s σ H E I hf st hg
  subst hP hw hK
  obtain ⟨hz,hTI,⟨a,c,hTO⟩,h1,h2⟩:=st
  obtain ⟨xs,ys,x,y,hq1,hq2,hx,hy⟩:=hg
  obtain ⟨its1,rv1,p1,hz1⟩:=I.list hq1
  obtain ⟨its2,rv2,p2,hz2⟩:=I.list hq2
  obtain ⟨u,hu,ru⟩:=rv1.get hx
  obtain ⟨v,hv,rvv⟩:=rv2.get hy
  refine wpAny_pyNext_zip_item D hz hTI hTO h1 h2 p1.isList p2.isList (x:=u) (y:=v) (by simpa using hu) (by simpa using hv) fun g1 b1 b2 b3 b4 b5 b6 hk=>?_
  refine ⟨.ref s.heap.objs.size,rfl,gS b1 fun g2 hz2' hs2=>?_⟩
  replace hs2:b8 z g1 g2:=hs2
  have zlt:z<s.heap.objs.size:=aM hz
  have I2:Inv X pins σ (upd H s.heap.objs.size (.tup [x,y])) { s with heap:=g2,toks:=s.toks }:=by
   refine I.yieldTup (us:=[u,v]) hf (fun b o hb e=>?_) (aL _) ((hs2.2 _ (dF zlt)).trans b5) (.cons ru (.cons rvv .nil)) (by show 2<=aT;decide)
   simp only [aJ,bM,or_false,not_or] at hb
   exact (hs2.2 b hb.1).trans (hk b o hb.1 hb.2.2.1 hb.2.2.2.1 hb.2.2.2.2 e)
  refine ⟨.ref s.heap.objs.size,_,I2,rfl,⟨s.heap.objs.size,x,y,I.hok.fresh (aL _),rfl,fun xs' h'=>by rw [I.list_inj h' hq1];exact hx,fun ys' h'=>by rw [I.list_inj h' hq2];exact hy,rfl⟩,
   ⟨hz2',(hs2.2 _ D.TIz).trans (hk _ _ D.TIz D.TITO D.TIi1 D.TIi2 hTI),⟨_,_,(hs2.2 _ D.TOz).trans b2⟩,b3.extBut hs2.extBut D.i1z,b4.extBut hs2.extBut D.i2z⟩,fun b hb=>?_⟩
  have hlt:b<s.heap.objs.size:=by
   simp only [aJ,bM,or_false] at hb
   rcases hb with rfl | rfl | rfl | rfl | rfl
   ·exact zlt
   ·exact aM hTI
   ·exact aM hTO
   ·obtain ⟨o,e,_⟩:=h1;exact aM e
   ·obtain ⟨o,e,_⟩:=h2;exact aM e
  rw [zg (bE hlt)]
  exact (hf b hb).1
 done:=by
  intro X hP hw hK hc i pins s σ H E I hf st hg
  subst hP hw hK
  obtain ⟨hz,hTI,⟨a,c,hTO⟩,h1,h2⟩:=st
  obtain ⟨xs,ys,hq1,hq2,hend⟩:=hg
  obtain ⟨its1,rv1,p1,hz1⟩:=I.list hq1
  obtain ⟨its2,rv2,p2,hz2⟩:=I.list hq2
  have l1:=rv1.length
  have l2:=rv2.length
  refine wpAny_pyNext_zip_end (I.ok.hd hc) D hz hTI hTO h1 h2 p1.isList p2.isList (by simp;omega) fun h' hk=>⟨rfl,I.turnedL (tk:=s.toks) hf fun b o hb e=>?_⟩
  simp only [aJ,bM,or_false,not_or] at hb
  exact hk b o hb.1 hb.2.2.1 hb.2.2.2.1 hb.2.2.2.2 e
 self:=fun _ _ _ _ _ st h=>fW st.1 h
theorem vR:bR "enumerate"=some (.type "enumerate"):=by decide +kernel
theorem YK:bR "zip"=some (.type "zip"):=by decide +kernel
section
variable {X:Cx}{es:List Expr}{kt:Nat}{tp:Pos}
noncomputable def FR (K:au)(ta:TA):TI:=fun σ H R=>ta σ H fun vs H1=>∃ a,vs=[.ref a]/\(∃ xs,SqL K H1 a xs)/\R (Ite K a) H1
theorem B4 {e:Expr}{ta:TA}{p pos:Pos}(hg:Gl X "enumerate")(hm:X.mg "enumerate"=none)(ha:PA X [e] ta)(hs:bi [e] X.env=[(false,eval e X.env)]:=by rfl) :
  PI X (.Tuple es kt tp) (.Call (.Name "enumerate" p) [e] [] pos) (FR X.K ta):=by
 intro pins s σ H R I h
 refine Call_ (kX I hg hm (vR) (cM (thn (ha pos pins s σ H _ I h) fun us s1 ⟨vs,H1,I1,r1,q1⟩=>?_) hs rfl))
 obtain ⟨a,e,⟨xs,hq⟩,q⟩:=q1
 subst e
 obtain ⟨u,rfl,ru⟩:=qT r1
 cases ru
 obtain ⟨its,rv,pl,hz⟩:=I1.list hq
 refine call_enumerate_list pl.isList fun h' he hit hsz hk=>eA he ?_
 have I2:Inv X pins σ H1 { s1 with heap:=h' }:=I1.kept (t':=s1.toks) hk
 refine ⟨s1.heap.objs.size+1,[s1.heap.objs.size+1,s1.heap.objs.size],_,_,H1,rfl,I2,wx a _ _ (ig _),⟨⟨_,he⟩,hit⟩,fun b hb=>?_,q⟩
 have hb':s1.heap.objs.size<=b:=by
  simp only [aJ,bM,or_false] at hb
  rcases hb with rfl | rfl
  ·exact mP _
  ·exact aL _
 exact I1.fpOk hb' (I1.hok.fresh hb')
end
variable {a:aE} {xs:List V} {g:TG} {tb:TS} {D:jr} {σ:St} {H:Hp}
theorem Ax (Pv:Nat->St->Hp->Prop)(h0:Pv 0 σ H)(hl:∀ i σ H,i<=xs.length->Pv i σ H->SqL K H a xs)
  (hs:∀ i x p σ H,xs[i]?=some x->H p=none->Pv i σ H->g (.ref p) σ (upd H p (.tup [.int i,x])) fun σ2 H2=>tb { D with nx:=Pv (i+1),ct:=Pv (i+1),bk:=D.nx } σ2 H2) (hd:∀ σ H,Pv xs.length σ H->D.nx σ H) :
  ∃ W:Nat->Nat->St->Hp->Prop,(∃ m,W 0 m σ H)/\∀ i m σ H,W i m σ H ->
   ((Ite K a).stop i H/\D.nx σ H) \/ ((Ite K a).go i H/\∃ N:St->Hp->Prop,(∀ σ' H',N σ' H'->∃ m',m'<m/\W (i+1) m' σ' H')/\∀ x H',(Ite K a).yld i H x H'->g x σ H' fun σ2 H2=>tb { D with nx:=N,ct:=N,bk:=D.nx } σ2 H2):=by
 refine ⟨fun i m σ H=>m=xs.length - i/\i<=xs.length/\Pv i σ H,⟨xs.length,by simp,cb _,h0⟩,?_⟩
 rintro i m σ H ⟨rfl,hi,p⟩
 have q:=hl i σ H hi p
 by_cases hlt:i<xs.length
 ·refine .inr ⟨⟨xs,xs[i],q,by simp [hlt]⟩,Pv (i+1),fun σ' H' p'=>⟨xs.length - (i+1),by omega,rfl,hlt,p'⟩,fun x H' y=>?_⟩
  obtain ⟨pp,x',hp,rfl,y,rfl⟩:=y
  exact hs i x' pp σ _ (y xs q) hp p
 ·have e:i=xs.length:=by omega
  subst e
  exact .inl ⟨⟨xs,q,aL _⟩,hd σ H p⟩
noncomputable def Qt (p:aE)(a b c:Int):HO:=.ext fun h=>∃ t u v,h.get? p=some { cls:=.type "range",data:=.fields #[.int a t,.int b u,.int c v] }
variable {h:Heap} {p:aE}
theorem Gm {a b c:Int}{t u v:Tok}(e:h.get? p=some { cls:=.type "range",data:=.fields #[.int a t,.int b u,.int c v] }):zS P w H h p (Qt p a b c):=
 ⟨⟨t,u,v,e⟩,⟨_,e⟩,fun h1 h2 ⟨t,u,v,q⟩ k=>⟨t,u,v,k _ q⟩⟩
noncomputable def jQ (a c:Int)(n:Nat):List Int:=(bP n).map fun (i:Nat)=>a+(i:Int) * c
theorem jy (a c:Int)(n:Nat):(jQ a c n).length=n:=by simp [jQ]
theorem Kf {a c:Int}:∀ {n:Nat} {acc:Array am},ItemsOf (fun (i:Nat) (v:am)=>∃ t,v=am.int (a+(i:Int) * c) t) acc n->zx ((jQ a c n).map V.int) acc.toList:=by
 intro n acc ⟨hs,hi⟩
 have key:∀ (k:Nat) (l:List am),l.length=k->(∀ (j:Nat) v,l[j]?=some v->∃ t,v=am.int (a+(j:Int) * c) t)->zx ((jQ a c k).map V.int) l:=by
  intro k
  induction k with
  | zero=>intro l hl _;cases l with
   | nil=>exact .nil
   | cons=>simp at hl
  | succ k ih=>
   intro l hl hv
   obtain ⟨l',x,rfl⟩:∃ l' x,l=l' ++ [x]:=⟨l.dropLast,l.getLast (by intro e;rw [e] at hl;simp at hl),(List.dropLast_concat_getLast _).symm⟩
   have hl':l'.length=k:=by simpa using hl
   have e:(jQ a c (k+1)).map V.int=(jQ a c k).map V.int ++ [.int (a+(k:Int) * c)]:=by simp [jQ,fh]
   rw [e]
   refine (ih l' hl' fun j v hj=>hv j v ?_).append (.cons ?_ .nil)
   ·rw [cy (aP.mp hj).1];exact hj
   ·obtain ⟨t,rfl⟩:=hv k x (by rw [cO (by omega),hl'];simp)
    exact ⟨t,rfl⟩
 exact key n acc.toList (by simpa using hs) fun j v hj=>hi j v (by simpa using hj)
section
variable {X:Cx}
theorem QI:qB X (.type "range") (fun xs H Q=>∃ b:Int,xs=[.int b]/\∀ p,H p=none->Q (.ref p) (upd H p (Qt p 0 b 1))):=by
 intro pins s σ H xs us Q I r h
 obtain ⟨b,rfl,q⟩:=h
 obtain ⟨u,rfl,t,rfl⟩:=qT r
 refine call_range_1 ⟨.ref s.heap.objs.size,_,I.laid (fun b o e=>aG _ e) (aL _) ?_,rfl,q _ (I.hok.fresh (aL _))⟩
 exact Gm (aY _ rfl)
theorem wd (hc:X.calm=true):qB X (.type "list") (fun xs H Q=>∃ p a b c n,xs=[.ref p]/\H p=some (Qt p a b c)/\eW a b c=true/\dh a b c=((n:Nat):Int)/\n<=100000/\∀ l,H l=none->Q (.ref l) (upd H l (.lst ((jQ a c n).map V.int)))):=by
 intro pins s σ H xs us Q I r h
 obtain ⟨p,a,b,c,n,rfl,hp,hs,hn,hz,q⟩:=h
 obtain ⟨u,rfl,rx⟩:=qT r
 cases rx
 obtain ⟨⟨t,u,v,e⟩,_⟩:=(show zS X.prog X.w H s.heap p (Qt p a b c) from I.hok _ _ hp)
 refine call_list_range (I.ok.hd hc) e hs hn (bu hz (by decide)) fun h' tk acc c' hk he hi=>?_
 refine ⟨.ref s.heap.objs.size,_,I.laid hk (aL _) (show zS X.prog X.w _ h' _ (.lst ((jQ a c n).map V.int)) from ⟨?_,acc.toList,c',Kf hi,by simpa using he⟩),rfl,q _ (I.hok.fresh (aL _))⟩
 rw [ap,jy]
 exact bu hz (by decide)
end
section
variable {X:Cx}
noncomputable def isT (t c:String):Option Bool:=if (am.type t == am.type c)=true then some true else if PySem.W.kitMeta c=true then (fastBuiltinMro t).map (·.contains (am.type c)) else none
theorem XE (K:au)(t c:String):iX K (.type t) (.type c)=isT t c:=rfl
noncomputable def vw (t:String):List String->Option Bool
 | []=>some false
 | c :: r=>match isT t c with
  | some true=>some true
  | some false=>vw t r
  | none=>none
theorem Z7 (K:au)(t:String):∀ cs:List String,i3 K (.type t) (cs.map am.type)=vw t cs
 | []=>rfl
 | c :: r=>by
  show (match iX K (.type t) (.type c) with | some true=>some true | some false=>i3 K (.type t) (r.map am.type) | none=>none)=_
  rw [XE,Z7 K t r];rfl
theorem xk:qB X (.builtin "isinstance") (fun xs H Q=>∃ x t c b,xs=[x,.ty c]/\kf X.K H x (.type t)/\isT t c=some b/\Q (.bl b) H):=by
 intro pins s σ H xs us Q I r h
 obtain ⟨x,t,c,b,rfl,ty,e,q⟩:=h
 obtain ⟨u,v,rfl,ru,rv⟩:=QB r
 cases rv
 exact Yk I ru ty (by rw [XE];exact e) fun tk=>⟨.bl b,H,I.tok _,rfl,q⟩
theorem Qh:∀ {cs:List String} {us:List am},zx (cs.map V.ty) us->us=cs.map am.type
 | [],_,.nil=>rfl
 | c :: cs,_,.cons r t=>by rw [Qh t];cases r;rfl
theorem XO:qB X (.builtin "isinstance") (fun xs H Q=>∃ x t p cs b,xs=[x,.ref p]/\H p=some (.tup (bQ V.ty cs))/\kf X.K H x (.type t)/\vw t cs=some b/\Q (.bl b) H):=by
 intro pins s σ H xs us Q I r h
 obtain ⟨x,t,p,cs,b,rfl,hp,ty,e,q⟩:=h
 obtain ⟨u,v,rfl,rx,rv⟩:=QB r
 cases rv
 obtain ⟨_,its,rt,o,ho,hc,⟨n,hd⟩,_⟩:=(show zS X.prog X.w H s.heap p (.tup (bQ V.ty cs)) from I.hok _ _ hp)
 obtain ⟨oc,od,odt,osl⟩:=o
 simp only at hc hd
 subst hc hd
 have e':i3 X.K (.type t) its=some b:=by rw [Qh rt,Z7];exact e
 have fin:∀ tk,EP X pins σ Q (.bool b) { s with toks:=tk }:=fun tk=>⟨.bl b,H,I.tok _,rfl,q⟩
 cases ty with
 | non=>cases (show u=am.none from rx);exact cI md I.kIn True.intro ho e' (fun z=>nomatch z) fin
 | bl y=>cases (show u=am.bool y from rx);exact cI me I.kIn True.intro ho e' (fun z=>nomatch z) fin
 | int i=>obtain ⟨t,q⟩:=(show ∃ t,u=am.int i t from rx);cases q;exact cI mz I.kIn True.intro ho e' (fun z=>nomatch z) fin
 | str y=>obtain ⟨t,q⟩:=(show ∃ t,u=am.str y t from rx);cases q;exact cI mB I.kIn True.intro ho e' (fun z=>nomatch z) fin
 | flt y=>obtain ⟨t,q⟩:=(show ∃ t,u=am.float y t from rx);cases q;exact cI lK I.kIn True.intro ho e' (fun z=>nomatch z) fin
 | @lst a xs ea=>
  cases (show u=am.ref a from rx)
  obtain ⟨_,_,n,_,h1⟩:=(show zS X.prog X.w H s.heap a (.lst xs) from I.hok a _ ea)
  exact cI fC I.kIn ⟨_,h1,rfl⟩ ho e' (fun z=>nomatch z) fin
 | @frz a ob xs ea=>
  cases (show u=am.ref a from rx)
  obtain ⟨_,_,_,n,_,h1⟩:=(show zS X.prog X.w H s.heap a (.frz ob (.lst xs)) from I.hok a _ ea)
  exact cI fC I.kIn ⟨_,h1,rfl⟩ ho e' (fun z=>nomatch z) fin
 | @tup a xs ea=>
  cases (show u=am.ref a from rx)
  obtain ⟨_,_,_,p⟩:=(show zS X.prog X.w H s.heap a (.tup xs) from I.hok a _ ea)
  obtain ⟨o,h1,h2,_⟩:=p
  exact cI lL I.kIn ⟨o,h1,h2⟩ ho e' (fun z=>nomatch z) fin
 | @dK a kvs ea=>
  cases (show u=am.ref a from rx)
  obtain ⟨_,_,vs,_,p⟩:=(show zS X.prog X.w H s.heap a (.dK kvs) from I.hok a _ ea)
  obtain ⟨o,es,ep,h1,h2,_⟩:=p
  exact cI fD I.kIn ⟨o,h1,h2.1⟩ ho e' (fun z=>nomatch z) fin
 | @dT a kvs ea=>
  cases (show u=am.ref a from rx)
  obtain ⟨_,_,xs,_,o,es,ep,h1,h2,_⟩:=(show zS X.prog X.w H s.heap a (.dT kvs) from I.hok a _ ea)
  exact cI fD I.kIn ⟨o,h1,h2.1⟩ ho e' (fun z=>nomatch z) fin
end
def At (K:au)(mg:Str->Option am)(x:Str)(st:cn):Prop:=∃ f fd,Fun K x x st f fd/\mg x=some (.ref f)
def Df (P:bf)(w:bC)(K:au)(mg:Str->Option am)(base:Heap)(x:Str)(ps:List Str)(k:Nat)(sp:Sp):Prop:=
 ∃ f fd,qS P w K mg base CX0 k f fd ps sp/\ja K fd ps []/\cF K (.ref f)=true/\mg x=some (.ref f)/\∃ oc od osl,K.lookup f=some ⟨oc,od,.func fd,osl⟩
variable {mg:Str->Option am} {base:Heap} {ps:List Str} {j k:Nat} {sp:Sp}
theorem Df.mono {x:Str} (D:Df P w K mg base x ps j sp)(h:j<=k):Df P w K mg base x ps k sp:=
 let ⟨f,fd,F,r⟩:=D
 ⟨f,fd,F.mono h,r⟩
section
variable {X:Cx}{k:Nat}{x:Str}{ps:List Str}{sp:Sp}{p pos:Pos}{e:Expr}{es:List Expr}{t:TA}
theorem zH (D:Df X.prog X.w X.K X.mg X.base x ps k sp)(hr:qj k X.A)(hg:Gl X x)(ha:PA X (e :: es) t)(hdb:(x == ("__debug__":Str))=false:=by decide)
  (he:bi (e :: es) X.env=(false,eval e X.env) :: bi es X.env:=by rfl) (hpl:(cT pos (bi es X.env)).any (·.1)=false:=by rfl):PE X (.Call (.Name x p) (e :: es) [] pos) (Xm sp [] E0 t):=by
 obtain ⟨f,fd,F,b,kp,m,_⟩:=D
 exact Dx F hr hg m kp b .nil Ql ha hdb he hpl
end
variable {st:cn} {N:List Str}
theorem vi {x:Str} (a:At K mg x st)(S:zp N ps (zd st))
  (hb:∀ (kV doc pm:am) (an:Option aE) (cdv ct:am) (us:List am),us.length=ps.length->gi (ck x x (qq st) (zT st) (zd st) .none kV doc pm an cdv ct) ⟨us,[]⟩=pure (ps.zip us))
  (len:∀ vs H Q E,sp vs H Q E->vs.length=ps.length)
  (hbody:∀ (f:aE) (cdv:am) (A:bo) (outer:List Env) (s:ax) (H:Hp) (vs:List V) (Q:VK) (E:XK),qj k (A.deeper (fF x (zd st) s.heap.objs.size f cdv))->sp vs H Q E ->
   ∃ t,PSs (kJ CX0 P w K mg base N x (zd st) f cdv A outer s H E).nox (zT st) t/\t { nx:=fun _ H'=>Q .non H',rt:=Q } (qF N vs) H):Df P w K mg base x ps (k+1) sp:=by
 obtain ⟨f,fd,F,m⟩:=a
 obtain ⟨oc,od,kV,doc,pm,an,cdv,ct,osl,_,lk,_⟩:=id F.ex
 exact ⟨f,fd,F.ok S len fun cdv A outer s H vs Q E=>hbody f cdv A outer s H vs Q E,F.binds hb,F.kp,m,oc,od,osl,lk⟩
variable {f:aE} {oc:am} {od an:Option aE} {osl:Array (Option am)}
theorem at_mk {x:Str} {kV doc pm cdv ct:am}(X:K.In h)(G:h.Ns aW mg)(a:aX K aW x=some (some (.ref f)))
  (l:K.lookup f=some ⟨oc,od,.func (ck x x (qq st) (zT st) (zd st) .none kV doc pm an cdv ct),osl⟩) (c:fG K cdv x=true) (k:cF K (.ref f)=true):At K mg x st:=⟨f,_,fun_mk l c k,lA X G a⟩
theorem Df.fn {x:Str} {fd:dv} (D:Df P w K mg base x ps k sp)(m:mg x=some (.ref f))(l:K.lookup f=some ⟨oc,od,.func fd,osl⟩):qS P w K mg base CX0 k f fd ps sp:=by
 obtain ⟨f',fd',F,_,_,m',oc',od',osl',l'⟩:=D
 rw [m] at m'
 cases m'
 rw [l] at l'
 cases l'
 exact F
structure Blt (mg:Str->Option am):Prop where
 len:mg "len"=none
 range:mg "range"=none
 list:mg "list"=none
 tuple:mg "tuple"=none
 int:mg "int"=none
 bool:mg "bool"=none
 str:mg "str"=none
 abs:mg "abs"=none
 divmod:mg "divmod"=none
 enumerate:mg "enumerate"=none
 zip:mg "zip"=none
 sorted:mg "sorted"=none
 max:mg "max"=none
 min:mg "min"=none
 isinstance:mg "isinstance"=none
 all:mg "all"=none
theorem blt_mk (X:K.In h)(G:h.Ns aW mg)(z1:aX K aW "len"=some none)(z2:aX K aW "range"=some none)(z3:aX K aW "list"=some none)(z4:aX K aW "tuple"=some none)(z5:aX K aW "int"=some none)(z6:aX K aW "bool"=some none)(z7:aX K aW "str"=some none)(z8:aX K aW "abs"=some none)
  (z9:aX K aW "divmod"=some none) (z10:aX K aW "enumerate"=some none) (z11:aX K aW "zip"=some none) (z12:aX K aW "sorted"=some none) (z13:aX K aW "max"=some none) (z14:aX K aW "min"=some none) (z15:aX K aW "isinstance"=some none) (z16:aX K aW "all"=some none):Blt mg:=
 ⟨bA X G z1,bA X G z2,bA X G z3,bA X G z4,bA X G z5,bA X G z6,bA X G z7,bA X G z8,bA X G z9,bA X G z10,bA X G z11,bA X G z12,bA X G z13,bA X G z14,bA X G z15,bA X G z16⟩
theorem qv:bR "isinstance"=some (.builtin "isinstance"):=by decide +kernel
theorem AC:bR "abs"=some (.builtin "abs"):=by decide +kernel
theorem Y4:bR "divmod"=some (.builtin "divmod"):=by decide +kernel
theorem Vu:bR "min"=some (.builtin "min"):=by decide +kernel
theorem zP:bR "len"=some (.builtin "len"):=by decide +kernel
theorem yA:bR "list"=some (.type "list"):=by decide +kernel
theorem vP:bR "tuple"=some (.type "tuple"):=by decide +kernel
theorem jn:bR "int"=some (.type "int"):=by decide +kernel
theorem B7:bR "bool"=some (.type "bool"):=by decide +kernel
theorem Ks:bR "str"=some (.type "str"):=by decide +kernel
theorem W6:bR "range"=some (.type "range"):=by decide +kernel
def Kp (bs:List aE)(H H':Hp):Prop:=∀ c o,c ∉ bs->H c=some o->H' c=some o
theorem Kp.refl {bs:List aE}:Kp bs H H:=fun _ _ _ h=>h
variable {H1 H2:Hp}
theorem Kp.trans {bs:List aE} (a:Kp bs H H1)(b:Kp bs H1 H2):Kp bs H H2:=fun c o n h=>b c o n (a c o n h)
theorem Kp.new {bs:List aE} (o:HO)(h:H p=none):Kp bs H (upd H p o):=fun c u _ q=>by rw [zg (zj q h)];exact q
theorem Kp.set {bs:List aE} (o:HO)(h:p ∈ bs):Kp bs H (upd H p o):=fun c u n q=>by have hne:c ≠ p:=(fun e=>n (by rw [e];exact h));rw [zg hne];exact q
variable {H':Hp}
theorem Kp.mono {bs bs':List aE} (a:Kp bs H H')(h:∀ b ∈ bs,b ∈ bs'):Kp bs' H H':=fun c o n q=>a c o (fun z=>n (h c z)) q
theorem Kp.free {H H':Hp}(e:Kp [] H H'){l:aE}(h:H' l=Option.none):H l=Option.none:=by
 cases q:H l with
 | none=>rfl
 | some o=>rw [e l o (by simp) q] at h;cases h
def Bx (H:Hp)(b:aE)(N:Nat):Prop:=∃ x y z:Int,H b=some (.lst [.int x,.int y,.int z])/\0<=x/\0<=y/\y<2147483648/\0<=z/\z<=N
noncomputable abbrev il (ns:List Int):HO:=.lst (ns.map V.int)
variable {qual:Str} {A:bo} {outer:List Env} {s:ax} {E:XK}
theorem cxK {CX:CXT} {cd:am}:
  (kJ CX P w K mg base N qual scope f cd A outer s H E).K=K:=rfl
def EC (J:It)(g:TG)(tb:TS)(D:jr)(σ:St)(H:Hp):Prop:=∃ W:Nat->Nat->St->Hp->Prop,(∃ m,W 0 m σ H)/\∀ i m σ H,W i m σ H ->
 (J.stop i H/\D.nx σ H) \/ (J.go i H/\∃ N:St->Hp->Prop,(∀ σ' H',N σ' H'->∃ m',m'<m/\W (i+1) m' σ' H')/\∀ x H',J.yld i H x H'->g x σ H' fun σ2 H2=>tb { D with nx:=N,ct:=N,bk:=D.nx } σ2 H2)
variable {wi:TI}
theorem Zd:Ea wi g tb D σ H=wi σ H (fun J H1=>EC J g tb D σ H1):=rfl
def Lk (J:It)(g:TG)(tt:TT)(te:TE)(D:aE)(Q:VK)(τ:St)(H:Hp):Prop:=∃ W:Nat->Nat->St->Hp->Prop,(∃ m,W 0 m τ H)/\∀ i m τ H2,W i m τ H2 ->
 (J.stop i H2/\Q (.ref D) H2) \/ (J.go i H2/\∃ N:St->Hp->Prop,(∀ τ' H',N τ' H'->∃ m',m'<m/\W (i+1) m' τ' H')/\∀ x H',J.yld i H2 x H'->g x τ H' fun τ2 H3=>tt τ2 H3 fun b H4=>
  if b=true then te τ2 H4 fun v H5=>∃ ys,H5 D=some (.lst ys)/\ys.length<aT/\N τ2 (upd H5 D (.lst (ys ++ [v]))) else N τ2 H4)
variable {tt:TT} {te:TE} {Q:VK}
theorem Bf:
  Q7 ts wi g tt te σ H Q=wi σ H (fun J H1=>∀ D,H1 D=none->Lk J g tt te D Q (clr ts σ) (upd H1 D (.lst []))):=rfl
variable {lo:Int} {n:Nat}
theorem An (Pv:Nat->St->Hp->Prop)(h0:Pv 0 σ H)
  (hs:∀ i σ H,i<n->Pv i σ H->g (.int (lo+i)) σ H fun σ2 H2=>tb { D with nx:=Pv (i+1),ct:=Pv (i+1),bk:=D.nx } σ2 H2) (hd:∀ σ H,Pv n σ H->D.nx σ H):EC (Itr lo n) g tb D σ H:=Yi Pv h0 hs hd
theorem DK (Pv:Nat->St->Hp->Prop)(h0:Pv 0 σ H)(hl:∀ i σ H,i<=xs.length->Pv i σ H->SqL K H a xs)
  (hs:∀ i x σ H,xs[i]?=some x->Pv i σ H->g x σ H fun σ2 H2=>tb { D with nx:=Pv (i+1),ct:=Pv (i+1),bk:=D.nx } σ2 H2) (hd:∀ σ H,Pv xs.length σ H->D.nx σ H):EC (Itl K a) g tb D σ H:=BQ Pv h0 hl hs hd
theorem DY (Pv:Nat->St->Hp->Prop)(h0:Pv 0 σ H)(hl:∀ i σ H,i<=xs.length->Pv i σ H->SqL K H a xs)
  (hs:∀ i x p σ H,xs[i]?=some x->H p=none->Pv i σ H->g (.ref p) σ (upd H p (.tup [.int i,x])) fun σ2 H2=>tb { D with nx:=Pv (i+1),ct:=Pv (i+1),bk:=D.nx } σ2 H2) (hd:∀ σ H,Pv xs.length σ H->D.nx σ H):EC (Ite K a) g tb D σ H:=Ax Pv h0 hl hs hd
theorem qr:qB X (.type "int") (fun xs H Q=>∃ k,xs=[.bl k]/\Q (.int (if k then 1 else 0)) H):=by
 intro pins s σ H xs us Q I r h
 exact XW pins s σ H xs us Q I r (.inr h)
def zB (n:Nat)(ns:List Int):Prop:=ns.length=n/\ns.Nodup/\∀ x ∈ ns,0<=x/\x<(n:Int)
theorem vS:∀ (n:Nat) (l:List Int),l.Nodup->(∀ x ∈ l,0<=x/\x<(n:Int))->l.length<=n
 | 0,l,_,h=>by
  cases l with
  | nil=>exact aL _
  | cons x r=>have:=h x cK;omega
 | n+1,l,hn,h=>by
  have ih:=vS n (l.erase (n:Int)) (hn.erase _) (fun x hx=>by
   have h1:=h x (List.mem_of_mem_erase hx)
   have h2:x ≠ (n:Int):=fun e=>by
    subst e
    exact (hn.not_mem_erase) hx
   omega)
  by_cases hm:(n:Int) ∈ l
  ·rw [List.length_erase_of_mem hm] at ih;omega
  ·rw [List.erase_of_not_mem hm] at ih;omega
variable {ns:List Int}
theorem zB.surj (h:zB n ns){x:Int}(h0:0<=x)(h1:x<n):x ∈ ns:=by
 obtain ⟨l,d,b⟩:=h
 refine gT fun hm=>?_
 have:=vS n (x :: ns) (fg.mpr ⟨hm,d⟩) (fun y hy=>by
  rcases aJ.mp hy with rfl | hy
  ·exact ⟨h0,h1⟩
  ·exact b y hy)
 rw [aV,l] at this
 omega
variable {i:Nat}
theorem zB.getD (h:zB n ns) (hi:i<n):0<=ns.getD i 0/\ns.getD i 0<n:=by
 obtain ⟨l,d,b⟩:=h
 have hi':i<ns.length:=by omega
 have e:ns.getD i 0=ns[i]:=by rw [aA,aq hi'];rfl
 rw [e]
 exact b _ (bI hi')
theorem qQ (h:i<ns.length):ns.getD i 0=ns[i]:=by rw [aA,aq h];rfl
theorem zB.inj (h:zB n ns) (hi:i<n)(hj:j<n)(e:ns.getD i 0=ns.getD j 0):i=j:=by
 obtain ⟨l,d,b⟩:=h
 rw [qQ (by omega),qQ (by omega)] at e
 exact (h9 d).mp e
theorem xj (l:ns.length=n)(b:∀ i,i<n->0<=ns.getD i 0/\ns.getD i 0<n)(j:∀ i k,i<n->k<n->ns.getD i 0=ns.getD k 0->i=k):zB n ns:=by
 refine ⟨l,?_,fun x hx=>?_⟩
 ·rw [List.nodup_iff_pairwise_ne,List.pairwise_iff_getElem]
  intro i k hi hk hik e
  have:=j i k (by omega) (by omega) (by rw [qQ hi,qQ hk];exact e)
  omega
 ·obtain ⟨i,hi,rfl⟩:=gn.mp hx
  have:=b i (by omega)
  rwa [qQ hi] at this
theorem zB.ex (h:zB n ns) (hj:j<n):∃ i,i<n/\ns.getD i 0=(j:Int):=by
 have hm:=h.surj (x:=(j:Int)) (by omega) (by omega)
 obtain ⟨i,hi,e⟩:=gn.mp hm
 exact ⟨i,by rw [<- h.1];exact hi,by rw [qQ hi];exact e⟩
theorem xG (n:Nat) (h:i<n):(jQ 0 1 n).getD i 0=(i:Int):=by
 rw [qQ (by rw [jy];exact h)]
 simp [jQ]
theorem zB.rng (n:Nat):zB n (jQ 0 1 n):=by
 refine xj (jy 0 1 n) (fun i hi=>?_) (fun i k hi hk e=>?_)
 ·rw [xG n hi];omega
 ·rw [xG n hi,xG n hk] at e;omega
variable {o:HO}
theorem Kp.drop1 {bs:List aE} (hp:H p=none)(k:Kp (p :: bs) (upd H p o) H'):Kp bs H H':=fun c u n h=>by
 have hne:c ≠ p:=zj h hp
 refine k c u ?_ ((zg hne).trans h)
 intro hm
 rcases aJ.mp hm with e | e
 ·exact hne e
 ·exact n e
theorem WA {v:Int}(h:i<ns.length):(ns.set i v).getD j 0=if j=i then v else ns.getD j 0:=by
 rw [aA,cB]
 by_cases e:i=j
 ·subst e;simp [h]
 ·rw [if_neg e,if_neg (Ne.symm e),aA]
noncomputable def Kz:V->V->V->Hp->(Hp->Prop)->Prop:=fun o i v H Q=>∃ k,i=.int k/\∃ p,o=.ref p/\∃ xs,H p=some (.lst xs)/\∃ j,ixN xs.length k=some j/\Q (upd H p (.lst (xs.set j v)))
section
variable {X:Cx}
theorem jG:MtR X "list.append" yK:=wk
theorem jS {t:TGs}{pos:Pos} (n:Nat)(h:X.K=K)(hc:X.calm=true)(hs:PGs X es t)(hn:(fk es X.env).length=n:=by rfl)(hst:(fk es X.env).findIdx? (·.1)=none:=by rfl):PG X (.Tuple es k pos) (BS K n t):=h ▸ Im hc hs hn hst
theorem qu:IP X Kz:=by
 intro pins s σ H o i v ov iv u Q I ro ri rv h
 obtain ⟨k,e1,p,e2,xs,h1,j,h2,q⟩:=h
 exact Bw pins s σ H o i v ov iv u Q I ro ri rv ⟨p,xs,k,j,e2,e1,h1,h2,q⟩
theorem vZ (h:X.K=K):qB X (.builtin "len") (fun xs H Q=>∃ p ys,xs=[.ref p]/\(SqL K H p ys \/ SqT K H p ys)/\Q (.int ys.length) H):=h ▸ zm
end
def kQ (os bs:List Int):Prop:=bs.length=os.length/\∀ i,i<os.length->bs.getD (os.getD i 0).toNat 0=(i:Int)
theorem kQ.at {n:Nat}{os bs:List Int}(ho:zB n os)(h:kQ os bs){j:Nat}(hj:j<n):∃ i:Nat,i<n/\os.getD i 0=(j:Int)/\bs.getD j 0=(i:Int):=by
 obtain ⟨i,hi,e⟩:=ho.ex hj
 refine ⟨i,hi,e,?_⟩
 have:=h.2 i (by rw [ho.1];exact hi)
 rw [e,bB] at this
 exact this
theorem kQ.ord {os bs:List Int}(ho:zB n os)(h:kQ os bs):zB n bs:=by
 refine xj (by rw [h.1,ho.1]) (fun j hj=>?_) (fun j k hj hk e=>?_)
 ·obtain ⟨i,hi,_,e⟩:=h.at ho hj
  rw [e];omega
 ·obtain ⟨i,hi,e1,e2⟩:=h.at ho hj
  obtain ⟨i',hi',e1',e2'⟩:=h.at ho hk
  have:i=i':=by omega
  subst this
  omega
noncomputable def ZN (os:List Int)(k:Nat):Nat:=((bP k).filter fun (i:Nat)=>!decide (os.getD i 0=(i:Int))).length
section
variable {X:Cx}
noncomputable def Xi (K:au):R2:=fun x y H Q=>∃ p xs i v,x=.ref p/\y=.int i/\(SqL K H p xs \/ SqT K H p xs)/\atI xs i=some v/\Q v H
theorem qc:IxR X (Xi X.K):=by
 intro value slice pins s σ H x y v u Q I rx ry h hs
 obtain ⟨p,xs,i,z,e1,e2,hq | hq,he,q⟩:=h
 ·exact qt value slice pins s σ H x y v u Q I rx ry ⟨p,xs,i,z,e1,e2,hq,he,q⟩ hs
 ·exact Ip value slice pins s σ H x y v u Q I rx ry ⟨p,xs,i,z,e1,e2,hq,he,q⟩ hs
theorem Ir (h:X.K=K):IxR X (Xi K):=h ▸ qc
theorem Zn:bR "all"=some (.builtin "all"):=by decide +kernel
theorem vG:∀ {bs:List Bool} {us:List am},zx (bs.map V.bl) us->us=bs.map am.bool
 | [],_,h=>by cases h;rfl
 | b :: bs,_,h=>by
  cases h with
  | cons r rs=>cases r;rw [vG rs];rfl
theorem JU (bs:List Bool):((bP bs.length).all fun i=>(bs[i]?).getD true)=bs.all id:=by
 rw [ff,bv,bv]
 constructor
 ·intro h x hx
  obtain ⟨i,hi,rfl⟩:=List.getElem_of_mem hx
  have:=h i (by simpa using hi)
  simpa [aq hi] using this
 ·intro h i hi
  have hi':i<bs.length:=by simpa using hi
  simpa [aq hi'] using h bs[i] (bI hi')
theorem kC (hc:X.calm=true):qB X (.builtin "all") (fun xs H Q=>∃ p bs,xs=[.ref p]/\SqL X.K H p (bQ V.bl bs)/\Q (.bl (bs.all id)) H):=by
  intro pins s σ H xs us Q I r h
  obtain ⟨p,bs,rfl,hq,q⟩:=h
  obtain ⟨u,rfl,rx⟩:=qT r
  cases rx
  obtain ⟨its,rv,pl,hz⟩:=I.list hq
  have hu:=vG rv
  subst hu
  have hlt:p<s.heap.objs.size:=by obtain ⟨_,e,_⟩:=pl.isList;exact aM e
  refine call_all_walk (gZ pl.isList ?_)
  refine ⟨s.heap.objs.size,[s.heap.objs.size,p],[s.heap.objs.size],(bs.map am.bool).toArray.size,_,_,fun i=>(bs[i]?).getD true,rfl,Walks.list (A:=X.A.in1) (I.ok.hd hc) _ p (bE hlt) (bs.map am.bool).toArray,
    ⟨⟨_,aY _ rfl,rfl,rfl⟩,pl.isList.push _⟩,fun i v s' Q' E' hP hQ=>?_,fun h' tk hk=>?_⟩
  · have hP':(bs.map am.bool)[i]?=some v:=by simpa using hP
    rw [aK] at hP'
    cases e:bs[i]? with
    | none=>rw [e] at hP';cases hP'
    | some b=>
      rw [e] at hP'
      cases hP'
      simp only [e,mE] at hQ
      exact cz hQ
  · have e : ((bP (bs.map am.bool).toArray.size).all fun i => (bs[i]?).getD true) = bs.all id := by
      rw [aR,ap];exact JU bs
    rw [e]
    refine ⟨.bl (bs.all id),H,I.turnedL (ch:=[]) (tk:=tk) (fun b hb=>nomatch hb) (fun b o _ eb=>?_),rfl,q⟩
    exact hk b o (fun hm=>by rw [bG.mp hm] at eb;exact cY _ (aM eb)) (aG _ eb)
end
noncomputable def nxt (os:List Int)(p:Int):Int:=os.getD p.toNat 0
noncomputable def itn (os:List Int):Nat->Int->Int
 | 0,p=>p
 | k+1,p=>nxt os (itn os k p)
theorem kS {n:Nat}{os:List Int}(h:zB n os){p:Int}(p0:0<=p)(p1:p<n):∀ k,0<=itn os k p/\itn os k p<n
 | 0=>⟨p0,p1⟩
 | k+1=>by
  have:=kS h p0 p1 k
  exact h.getD (by omega)
theorem xB (os:List Int)(p:Int)(b:Nat):∀ a,itn os (a+b) p=itn os a (itn os b p)
 | 0=>by rw [Nat.zero_add];rfl
 | a+1=>by
  rw [show a+1+b=(a+b)+1 by omega]
  show nxt os (itn os (a+b) p)=nxt os (itn os a (itn os b p))
  rw [xB os p b a]
variable {os:List Int}
theorem Et (h:zB n os){x y:Int}(x0:0<=x)(x1:x<n)(y0:0<=y)(y1:y<n)(e:nxt os x=nxt os y):x=y:=by
 have:=h.inj (i:=x.toNat) (j:=y.toNat) (by omega) (by omega) e
 omega
theorem K9 {n:Nat}{os:List Int}(h:zB n os){x y:Int}(x0:0<=x)(x1:x<n)(y0:0<=y)(y1:y<n):∀ k,itn os k x=itn os k y->x=y
 | 0,e=>e
 | k+1,e=>by
  have bx:=kS h x0 x1 k
  have by':=kS h y0 y1 k
  exact K9 h x0 x1 y0 y1 k (Et h bx.1 bx.2 by'.1 by'.2 e)
theorem Ez (h:zB n os){p:Int}(p0:0<=p)(p1:p<n):∃ M,1<=M/\M<=n/\itn os M p=p:=by
 apply gT
 intro hno
 have hp:((bP (n+1)).map fun i=>itn os i p).Nodup:=by
  rw [List.Nodup,List.pairwise_map]
  refine List.Pairwise.imp_of_mem (R:=fun a b=>a<b) ?_ List.pairwise_lt_range
  intro a b ha hb hlt e
  have hb':b<n+1:=by simpa using hb
  refine hno ⟨b - a,by omega,by omega,?_⟩
  have bb:=kS h p0 p1 (b - a)
  refine (K9 h p0 p1 bb.1 bb.2 a ?_).symm
  rw [<- xB,show a+(b - a)=b by omega]
  exact e
 have:=vS n _ hp (fun x hx=>by
  obtain ⟨i,_,rfl⟩:=cv.mp hx
  exact kS h p0 p1 i)
 rw [ap,cC] at this
 omega
section
variable {P:bf}{w:bC}{A:bo}{E:am->ax->Prop}{s:ax}{j t:aE}{i:Nat}{its:Array am}{Q:am->ax->Prop}
theorem jR {x:am}(hj:s.heap.IsTupleIter j t i)(ht:s.heap.IsTuple t its)(hx:its[i]?=some x)(hQ:∀ h',h'.IsTupleIter j t (i+1)->b8 j s.heap h'->Q x { s with heap:=h' }):bg (bc P w) A (cc (.ref j)) Q E s:=by
 obtain ⟨o,ho,hc,hd⟩:=id hj
 obtain ⟨ot,hot,_,nt,hdt⟩:=ht
 unfold cc
 refine aF (dj (name:=aj "__next__") hj.typeIs F.slot_tuple_iterator_next (eQ F.slot_tuple_iterator_next hj.typeIs F.entry_tuple_iterator_next ?_ (F.args_tuple_iterator_next_1 _)))
 refine aF (m:=lB (.ref j) 0) (cS ho hd (x:=.ref t) rfl ?_);show bg _ _ (if (am.ref t == am.none)=true then _ else _) _ _ s;rw [if_neg (show ¬ ((am.ref t == am.none)=true) from bK)]
 refine aF (m:=lB (.ref j) 1) (cS ho hd (x:=.int i 0) rfl ?_);refine aF (m:=mF (.ref t)) (dR hot hdt ?_);simp only [bB,hx]
 refine aF (dS ho hd (by simp) (bh ⟨x,rfl,bh (hQ _ ⟨_,bZ _ ho (cU (cX hd _)),(Obj.cls_mapFields ..).trans hc,by rw [cX hd];simp [hX]⟩ (b8.update ..))⟩))
theorem kB (hh:A.handled=none)(hj:s.heap.IsTupleIter j t i)(ht:s.heap.IsTuple t its)(hx:its[i]?=none)(hE:∀ h' e,Heap.ExtBut j s.heap h'->(∃ o,h'.get? e=some o/\o.cls=.type "StopIteration")->E (.ref e) { s with heap:=h' }):bg (bc P w) A (cc (.ref j)) Q E s:=by
 obtain ⟨o,ho,hc,hd⟩:=id hj
 obtain ⟨ot,hot,_,nt,hdt⟩:=ht
 unfold cc
 refine aF (dj (name:=aj "__next__") hj.typeIs F.slot_tuple_iterator_next (eQ F.slot_tuple_iterator_next hj.typeIs F.entry_tuple_iterator_next ?_ (F.args_tuple_iterator_next_1 _)))
 refine aF (m:=lB (.ref j) 0) (cS ho hd (x:=.ref t) rfl ?_);show bg _ _ (if (am.ref t == am.none)=true then _ else _) _ _ s;rw [if_neg (show ¬ ((am.ref t == am.none)=true) from bK)]
 refine aF (m:=lB (.ref j) 1) (cS ho hd (x:=.int i 0) rfl ?_);refine aF (m:=mF (.ref t)) (dR hot hdt ?_);simp only [bB,hx]
 refine aF (wpAny_rule (aF (dS ho hd (by simp) ?_)));refine aF (m:=newExc (.type "StopIteration") []) ?_;simp only [newExc,newTuple];refine aF (hU ?_ (by size_fits));refine aF (m:=firstArgMember _ _) (wpAny_of_eq (a:=am.none) (by first | rfl | (simp only [firstArgMember];rfl)) ?_);refine hU ?_ (by size_fits);simp only [raiseNew];refine aF (wpAny_handled ?_)
 (first | rw [show A.in1.handled=none from hh] | rw [hh]);refine aF (bh (wpAny_throw ?_));exact hE _ _ (((b8.update ..).extBut.push _).push _) ⟨_,aY _ rfl,rfl⟩
end
theorem YO (hh:A.handled=none)(j t:aE)(hne:t ≠ j)(its:Array am) :
  Draws P w A j [j,t] its.size (fun i v=>its[i]?=some v) (fun i h=>h.IsTupleIter j t i/\h.IsTuple t its) where
 live:=fun _ _ st=>let ⟨o,ho,_⟩:=st.1;⟨o,ho⟩
 frame:=fun _ _ _ st hk=>⟨st.1.at fun o e=>hk j (by simp) o e,let ⟨o,ho,r⟩:=st.2;⟨o,hk t (by simp) o ho,r⟩⟩
 item:=fun i s Q E hi st hQ=>by
  refine jR st.1 st.2 (x:=its[i]) (by simp [hi]) fun h' hit' hs'=>?_
  exact hQ _ h' s.toks (by simp [hi]) ⟨hit',let ⟨o,ho,r⟩:=st.2;⟨o,(hs'.2 t hne).trans ho,r⟩⟩ hs'
 done:=fun s Q E st hE=>kB hh st.1 st.2 (by simp) hE
open AutoSeq1 (wpAny_loadPart') in
theorem Ym (l:aE)(its:Array am)(n:Nat)(dct:Option aE)(sl:Array (Option am)) :
  Meets (Builtin.«enumerate.__new__» ⟨[.type "enumerate",.ref l],[]⟩) (fun _ R s=>s.heap.get? l=some { cls:=.type "tuple",dict:=dct,data:=.seq its n,slots:=sl }/\R (.ok (.ret (.ref (s.heap.push { cls:=.type "tuple_iterator",data:=.fields #[.ref l,.int 0 0] }).objs.size))) { s with heap:=(s.heap.push { cls:=.type "tuple_iterator",data:=.fields #[.ref l,.int 0 0] }).push { cls:=.type "enumerate",data:=.fields #[.none,.bool false,.ref s.heap.objs.size,hX 0,.none,.none] } }):=
 .of_wp fun prog w A R s h=>by
  obtain ⟨hp,g,d,tk,os⟩:=s
  obtain ⟨hl,h⟩:=h
  have hsub:=sub_enumerate
  have hT:mn (ax.heap ⟨hp,g,d,tk,os⟩) l its:=⟨_,hl,rfl,n,rfl⟩
  wp_walk using cH hl
  refine wpAny_stack_any fun st=>bh ?_
  split
  ·rename_i c _ _ _ _ _
   cases (c == am.type "enumerate")
   ·wp_walk using cH hl,dz hT;exact ⟨_,rfl,h⟩
   ·wp_walk using cH hl,dz hT;exact ⟨_,rfl,h⟩
  ·wp_walk using cH hl,dz hT;exact ⟨_,rfl,h⟩
variable {its:Array am}
theorem Ko {E:am->ax->Prop} {l:aE} {Q:am->ax->Prop}(hT:s.heap.IsTuple l its)
  (h:∀ h',IsEnum h' (s.heap.objs.size+1) s.heap.objs.size 0 .none->h'.IsTupleIter s.heap.objs.size l 0->(∀ b o,s.heap.get? b=some o->h'.get? b=some o)->Q (.ref (s.heap.objs.size+1)) { s with heap:=h' }) :
  bg (bc P w) A (call (.type "enumerate") [.ref l]) Q E s:=by
 obtain ⟨⟨c,dct,dt,sl⟩,hl,hc,n,hd⟩:=hT
 replace hc:c=.type "tuple":=hc
 replace hd:dt=.seq its n:=hd
 subst hc hd
 refine callType_new F.called_enumerate (by decide) (F.typeCall_enumerate_1 _) (F.newCall_enumerate_1 _) (fun obj=>F.args_object_init_2 obj _) F.entry_enumerate_new (Ym l its n dct sl) ⟨hl,?_⟩
 have hz:(s.heap.push { cls:=.type "tuple_iterator",data:=.fields #[.ref l,.int 0 0] }).objs.size=s.heap.objs.size+1:=de ..
 show _/\_
 rw [hz]
 have he:IsEnum ((s.heap.push { cls:=.type "tuple_iterator",data:=.fields #[.ref l,.int 0 0] }).push { cls:=.type "enumerate",data:=.fields #[.none,.bool false,.ref s.heap.objs.size,hX 0,.none,.none] }) (s.heap.objs.size+1) s.heap.objs.size 0 .none:=by
  have hg:=aY (s.heap.push { cls:=.type "tuple_iterator",data:=.fields #[.ref l,.int 0 0] }) (o:={ cls:=.type "enumerate",data:=.fields #[.none,.bool false,.ref s.heap.objs.size,hX 0,.none,.none] }) rfl
  rw [hz] at hg;exact hg
 exact ⟨⟨_,he,rfl⟩,h _ he ⟨_,aG _ (aY _ rfl),rfl,rfl⟩ fun b o x=>aG _ (aG _ x)⟩
theorem X3 {E:am->ax->Prop} {e j t:aE} {old:am}{Q:Option am->ax->Prop}(hh:A.handled=none)
  (he:IsEnum s.heap e j i old) (hj:s.heap.IsTupleIter j t i) (ht:s.heap.IsTuple t its) (hx:its[i]?=none) (hQ:∀ h',Heap.ExtBut j s.heap h'->Q none { s with heap:=h' }):bg (bc P w) A (iU (.ref e)) Q E s:=by
 have hT:s.TypeIs (.ref e) "enumerate":=⟨_,he,rfl⟩
 unfold iU
 refine aF (lC (dj (name:=aj "__next__") hT F.slot_enumerate_next (eQ F.slot_enumerate_next hT F.entry_enumerate_next ?_ (F.args_enumerate_next_1 _))))
 refine aF (m:=lB (.ref e) 2) (cS he rfl (x:=.ref j) rfl ?_);refine aF (kB hh hj ht hx fun h' x he' hx'=>?_)
 obtain ⟨o,ho,hc⟩:=hx'
 refine aF (wpAny_isInstance (T:="StopIteration") (b:=true) ⟨o,ho,hc⟩ isSubtype_stop ?_);exact bh (hQ _ he')
noncomputable def G9 (K:au)(a:aE):It:=
 ⟨fun i H=>∃ xs x,SqT K H a xs/\xs[i]?=some x,fun i H y H'=>∃ p x,H p=none/\y=.ref p/\(∀ xs,SqT K H a xs->xs[i]?=some x)/\H'=upd H p (.tup [.int i,x]),fun i H=>∃ xs,SqT K H a xs/\xs.length<=i⟩
theorem Jj (a e it:aE)(hei:e ≠ it)(hea:e ≠ a)(hai:a ≠ it):ZK P w K (.Tuple es kt tp) (G9 K a) [e,it] e (fun i h=>(∃ old,IsEnum h e it (i:Nat) old)/\h.IsTupleIter it a i) where
 mem:=by simp
 obj:=fun i h st b hb=>by
  obtain ⟨⟨old,he⟩,⟨o,e1,c,d⟩⟩:=st
  rcases aJ.mp hb with rfl | hb
  ·exact ⟨_,he,fun v z=>by have z':dr _=ft v:=z;cases z'⟩
  ·have e2:b=it:=by simpa using hb
   subst e2
   exact ⟨o,e1,fun v z=>by rw [d] at z;cases z⟩
 keep:=fun i h h' st k=>by
  obtain ⟨⟨old,he⟩,st⟩:=st
  exact ⟨⟨old,k e (by simp) _ he⟩,st.at fun o e=>k it (by simp) o e⟩
 item:=by
  intro X hP hw hK hc i pins s σ H E I hf st hg
  subst hP hw hK
  obtain ⟨⟨old,he⟩,st⟩:=st
  obtain ⟨xs,x,hq,hx⟩:=hg
  obtain ⟨its,rv,p,hz⟩:=I.tuple hq
  obtain ⟨u,hu,ru⟩:=rv.get hx
  have hlt:i<its.toArray.size:=by
   have:=(aP.mp hu).1
   simpa using this
  refine wpAny_pyNext_enum_itemD (YO (A:=X.A.in1) (I.ok.hd hc) it a hai its.toArray) he ⟨st,p⟩ hlt hei (by simp [hei,hea]) fun x' h1 tk hP heo hit1 ht1 hz1 hk1=>?_
  have hxu:x'=u:=by
   have h1':its[i]?=some x':=by simpa using hP
   rw [hu] at h1';cases h1';rfl
  subst hxu
  refine ⟨.ref s.heap.objs.size,rfl,gN heo fun h2 he2 hs2=>?_⟩
  replace hs2:b8 e h1 h2:=hs2
  have elt:e<s.heap.objs.size:=aM he
  have ht2:=(hs2.2 _ (dF elt)).trans ht1
  have I2:Inv X pins σ (upd H s.heap.objs.size (.tup [.int i,x])) { s with heap:=h2,toks:=tk+1 }:=by
   refine I.yieldTup (us:=[.int i tk,x']) hf (fun b o hb q=>?_) (aL _) ht2 (.cons ⟨_,rfl⟩ (.cons ru .nil)) (by show 2<=aT;decide)
   have n1:b ≠ e:=fun z=>hb (by simp [z])
   have n2:b ≠ it:=fun z=>hb (by simp [z])
   exact (hs2.2 b n1).trans (hk1 b o n1 n2 q)
  refine ⟨.ref s.heap.objs.size,_,I2,rfl,⟨s.heap.objs.size,x,I.hok.fresh (aL _),rfl,fun ys hy=>by rw [I.tuple_inj hy hq];exact hx,rfl⟩,⟨⟨_,by simpa using he2⟩,hit1.1.extBut hs2.extBut (Ne.symm hei)⟩,fun b hb=>?_⟩
  have hlt:b<s.heap.objs.size:=by
   rcases aJ.mp hb with rfl | hb
   ·exact elt
   ·have e2:b=it:=by simpa using hb
    subst e2
    obtain ⟨o,e1,_⟩:=st
    exact aM e1
  rw [zg (bE hlt)]
  exact (hf b hb).1
 done:=by
  intro X hP hw hK hc i pins s σ H E I hf st hg
  subst hP hw hK
  obtain ⟨⟨old,he⟩,st⟩:=st
  obtain ⟨xs,hq,hx⟩:=hg
  obtain ⟨its,rv,p,hz⟩:=I.tuple hq
  obtain ⟨f0,f1,f2,f3,f4,f5⟩:=hf it (by simp)
  have hl:=rv.length
  exact X3 (I.ok.hd hc) he st p (by simp;omega) fun h' eb=>⟨rfl,I.turned (t':=s.toks) (fun b o hb e=>eb b o hb e) f0 f1 f3 f4 f5⟩
 self:=fun _ _ _ _ _ st h=>by
  obtain ⟨⟨old,he⟩,_⟩:=st
  exact eA he h
section
variable {X:Cx}{es:List Expr}{kt:Nat}{tp:Pos}
noncomputable def ZJ (K:au)(ta:TA):TI:=fun σ H R=>ta σ H fun vs H1=>∃ a,vs=[.ref a]/\(((∃ xs,SqL K H1 a xs)/\R (Ite K a) H1) \/ ((∃ xs,SqT K H1 a xs)/\R (G9 K a) H1))
theorem yf {e:Expr}{ta:TA}{p pos:Pos}(hg:Gl X "enumerate")(hm:X.mg "enumerate"=none)(ha:PA X [e] ta)(hs:bi [e] X.env=[(false,eval e X.env)]:=by rfl) :
  PI X (.Tuple es kt tp) (.Call (.Name "enumerate" p) [e] [] pos) (ZJ X.K ta):=by
 intro pins s σ H R I h
 refine Call_ (kX I hg hm (vR) (cM (thn (ha pos pins s σ H _ I h) fun us s1 ⟨vs,H1,I1,r1,q1⟩=>?_) hs rfl))
 obtain ⟨a,e,q⟩:=q1
 subst e
 obtain ⟨u,rfl,ru⟩:=qT r1
 cases ru
 have hb':∀ b ∈ [s1.heap.objs.size+1,s1.heap.objs.size],s1.heap.objs.size<=b:=by
  intro b hb
  simp only [aJ,bM,or_false] at hb
  omega
 rcases q with ⟨⟨xs,hq⟩,q⟩ | ⟨⟨xs,hq⟩,q⟩
 ·obtain ⟨its,rv,pl,hz⟩:=I1.list hq
  refine call_enumerate_list pl.isList fun h' he hit hsz hk=>eA he ?_
  have I2:Inv X pins σ H1 { s1 with heap:=h' }:=I1.kept (t':=s1.toks) hk
  exact ⟨s1.heap.objs.size+1,[s1.heap.objs.size+1,s1.heap.objs.size],_,_,H1,rfl,I2,wx a _ _ (ig _),⟨⟨_,he⟩,hit⟩,fun b hb=>I1.fpOk (hb' b hb) (I1.hok.fresh (hb' b hb)),q⟩
 ·obtain ⟨its,rv,pl,hz⟩:=I1.tuple hq
  have alt:a<s1.heap.objs.size:=by obtain ⟨o,e,_⟩:=pl;exact aM e
  refine Ko pl fun h' he hit hk=>eA he ?_
  have I2:Inv X pins σ H1 { s1 with heap:=h' }:=I1.kept (t':=s1.toks) hk
  exact ⟨s1.heap.objs.size+1,[s1.heap.objs.size+1,s1.heap.objs.size],_,_,H1,rfl,I2,Jj a (s1.heap.objs.size+1) s1.heap.objs.size (ig _) (dF (mj alt)) (bE alt),⟨⟨_,he⟩,hit⟩,fun b hb=>I1.fpOk (hb' b hb) (I1.hok.fresh (hb' b hb)),q⟩
end
theorem Ha (h:SqT K H a xs)(e:Kp [] H H'):SqT K H' a xs:=by
 rcases h with (h | ⟨o,h⟩) | h
 ·exact .inl (.inl (e _ _ (by simp) h))
 ·exact .inl (.inr ⟨o,e _ _ (by simp) h⟩)
 ·exact .inr h
theorem Hr (h:SqL K H a xs)(e:Kp [] H H'):SqL K H' a xs:=by
 rcases h with (h | ⟨o,h⟩) | h
 ·exact .inl (.inl (e _ _ (by simp) h))
 ·exact .inl (.inr ⟨o,e _ _ (by simp) h⟩)
 ·exact .inr h
def ME (t:TE):Prop:=∀ σ H Q Q',(∀ v H1,Q v H1->Q' v H1)->t σ H Q->t σ H Q'
def MT (t:TT):Prop:=∀ σ H Q Q',(∀ v H1,Q v H1->Q' v H1)->t σ H Q->t σ H Q'
def MR (r:R2):Prop:=∀ x y H Q Q',(∀ z H1,Q z H1->Q' z H1)->r x y H Q->r x y H Q'
theorem Bg:ME (XR i):=fun _ _ _ _ hq ⟨v,e,h⟩=>⟨v,e,hq _ _ h⟩
variable {r:R2}
theorem MA {ta tb:TE}(hr:MR r)(ha:ME ta)(hb:ME tb):ME (tOp r ta tb):=fun _ _ _ _ hq h=>ha _ _ _ _ (fun _ _ h1=>hb _ _ _ _ (fun _ _ h2=>hr _ _ _ _ _ hq h2) h1) h
theorem Fa {t:TE}(h:ME t):MT (Qp t):=fun _ _ _ _ hq q=>h _ _ _ _ (fun _ _ ⟨k,e,z⟩=>⟨k,e,hq _ _ z⟩) q
theorem Ad {p:Nat->Prop}:∀ n,p n->∃ m,p m/\∀ j,j<m->¬ p j:=by
 intro n
 induction n using Nat.strongRecOn with
 | _ n ih=>
  intro h
  by_cases hx:∃ j,j<n/\p j
  ·obtain ⟨j,hj,pj⟩:=hx
   exact ih j hj pj
  ·exact ⟨n,h,fun j hj pj=>hx ⟨j,hj,pj⟩⟩
def kN (os:List Int)(p:Int)(m:Nat):Prop:=1<=m/\itn os m p=p/\∀ j,1<=j->j<m->itn os j p ≠ p
theorem kN.uniq {p:Int}{m m':Nat}(h:kN os p m)(h':kN os p m'):m=m':=by
 obtain ⟨a1,a3,a4⟩:=h
 obtain ⟨b1,b3,b4⟩:=h'
 rcases Nat.lt_trichotomy m m' with z | z | z
 ·exact absurd a3 (b4 m a1 z)
 ·exact z
 ·exact absurd b3 (a4 m' b1 z)
theorem A0 (h:zB n os){p:Int}(p0:0<=p)(p1:p<n):∃ m,kN os p m/\m<=n:=by
 obtain ⟨M,h1,h2,h3⟩:=Ez h p0 p1
 obtain ⟨m,⟨m1,m2⟩,m3⟩:=Ad (p:=fun k=>1<=k/\itn os k p=p) M ⟨h1,h3⟩
 refine ⟨m,⟨m1,m2,fun j j1 jm e=>m3 j jm ⟨j1,e⟩⟩,?_⟩
 rcases Nat.lt_or_ge M m with z | z
 ·exact absurd ⟨h1,h3⟩ (m3 M z)
 ·omega
open Classical in
noncomputable def per (os:List Int)(p:Int):Nat:=if h:∃ m,kN os p m then ii h else 0
theorem kN.per {os:List Int}{p:Int}{m:Nat}(h:kN os p m):per os p=m:=by
 have hx:∃ m,kN os p m:=⟨m,h⟩
 unfold L2.per
 rw [dif_pos hx]
 exact (fT hx).uniq h
noncomputable def itl (os:List Int)(p:Int)(k:Nat):List Int:=(bP k).map fun i=>itn os i p
theorem VL (os:List Int)(p:Int)(k:Nat):itl os p (k+1)=itl os p k ++ [itn os k p]:=by
 unfold itl;rw [fh,bU];rfl
theorem ZQ (os:List Int)(p:Int)(k:Nat):(itl os p k).length=k:=by simp [itl]
theorem KI {p:Int} {x:Int}:x ∈ itl os p k ↔ ∃ i,i<k/\itn os i p=x:=by
 unfold itl
 rw [cv]
 constructor
 ·rintro ⟨i,hi,e⟩
  exact ⟨i,by simpa using hi,e⟩
 ·rintro ⟨i,hi,e⟩
  exact ⟨i,by simpa using hi,e⟩
noncomputable def qm (os:List Int)(p:Int):List Int:=itl os p (per os p)
def Rch (os:List Int)(q x:Int):Prop:=∃ k,itn os k q=x
theorem Rch.trans {p q r:Int}(a:Rch os p q)(b:Rch os q r):Rch os p r:=by
 obtain ⟨i,rfl⟩:=a
 obtain ⟨j,rfl⟩:=b
 exact ⟨j+i,xB os p i j⟩
theorem Xw {os:List Int}{p:Int}{m:Nat}(h:itn os m p=p):∀ k,itn os (k * m) p=p
 | 0=>by rw [Nat.zero_mul];rfl
 | k+1=>by rw [Nat.succ_mul,Nat.add_comm,xB,Xw h k,h]
variable {m:Nat}
theorem Dy {p:Int} (h:itn os m p=p)(k:Nat):itn os k p=itn os (k % m) p:=by
 have e:k=k % m+(k / m) * m:=by rw [Nat.mul_comm];exact (Nat.mod_add_div k m).symm
 conv=>lhs;rw [e]
 rw [xB,Xw h]
theorem Rch.mem_ring {p x:Int} (h:kN os p m):Rch os p x ↔ x ∈ itl os p m:=by
 rw [KI]
 constructor
 ·rintro ⟨k,rfl⟩
  exact ⟨k % m,Nat.mod_lt _ h.1,(Dy h.2.1 k).symm⟩
 ·rintro ⟨i,_,e⟩
  exact ⟨i,e⟩
def GW (os:List Int)(p:Nat):Prop:=∀ q:Nat,q<p->¬ Rch os (q:Int) (p:Int)
open Classical in
noncomputable def jt (os:List Int):Nat->List (List Int)
 | 0=>[]
 | i+1=>jt os i ++ if GW os i/\1<per os (i:Int) then [qm os (i:Int)] else []
def kI (os:List Int)(i:Nat)(x:Int):Prop:=∃ q:Nat,q<i/\Rch os (q:Int) x
theorem kI.succ {x:Int}:kI os (i+1) x ↔ kI os i x \/ Rch os (i:Int) x:=by
 constructor
 ·rintro ⟨q,hq,r⟩
  by_cases e:q=i
  ·subst e;exact .inr r
  ·exact .inl ⟨q,by omega,r⟩
 ·rintro (⟨q,hq,r⟩ | r)
  ·exact ⟨q,by omega,r⟩
  ·exact ⟨i,by omega,r⟩
theorem QJ:GW os i ↔ ¬ kI os i (i:Int):=by
 constructor
 ·rintro h ⟨q,hq,r⟩;exact h q hq r
 ·intro h q hq r;exact h ⟨q,hq,r⟩
theorem kI.step (h:zB n os) (hi:i<n)(hs:kI os i (i:Int)){x:Int}:kI os (i+1) x ↔ kI os i x:=by
 rw [kI.succ]
 constructor
 ·rintro (z | z)
  ·exact z
  ·obtain ⟨q,hq,r⟩:=hs
   exact ⟨q,hq,r.trans z⟩
 ·exact .inl
theorem kR (os:List Int):∀ i,(jt os i).length<=i
 | 0=>aL _
 | i+1=>by
  unfold jt
  rw [aQ]
  have:=kR os i
  split <;> simp <;> omega
noncomputable def iLT (K:au)(tl:TE):TI:=fun σ H R=>tl σ H fun x H1=>∃ a,x=.ref a/\(((∃ xs,SqL K H1 a xs)/\R (Itl K a) H1) \/ ((∃ xs,SqT K H1 a xs)/\R (Itt K a) H1))
theorem kO {tg:Expr}{l:Expr}{tl:TE}(hl:PE X l tl):PI X tg l (iLT X.K tl):=by
 intro pins s σ H R I h
 refine thn (hl pins s σ H _ I h) fun v s1 ⟨x,H1,I1,r1,q1⟩=>?_
 obtain ⟨a,e,q⟩:=q1
 subst e
 cases r1
 have fo:∀ b ∈ [s1.heap.objs.size],yu X pins H1 b:=fun b hb=>by
  have e:b=s1.heap.objs.size:=by simpa using hb
  subst e
  exact I1.fpOk (aL _) (I1.hok.fresh (aL _))
 rcases q with ⟨⟨xs,hq⟩,q⟩ | ⟨⟨xs,hq⟩,q⟩
 ·obtain ⟨its,rv,p,hz⟩:=I1.list hq
  refine gZ p.isList ?_
  exact ⟨s1.heap.objs.size,[s1.heap.objs.size],_,_,H1,rfl,I1.kept (t':=s1.toks) fun b o e=>aG _ e,wj a _,⟨_,aY _ rfl,rfl,rfl⟩,fo,q⟩
 ·obtain ⟨its,rv,p,hz⟩:=I1.tuple hq
  refine dz (show s1.heap.IsTuple a its.toArray from p) ?_
  exact ⟨s1.heap.objs.size,[s1.heap.objs.size],_,_,H1,rfl,I1.kept (t':=s1.toks) fun b o e=>aG _ e,JC a _,⟨_,aY _ rfl,rfl,rfl⟩,fo,q⟩
section
variable {X:Cx}
end
section
variable {X:Cx}
end
section
variable {prog:bf}{w:bC}{A:bo}{R:ms->ax->Prop}{s:ax}
end
def CL (J:It)(g:TG)(tt:TT)(tr:St->Hp->(St->Hp->Prop)->Prop)(N:St->Hp->Prop)(σ:St)(H:Hp):Prop:=∃ W:Nat->Nat->St->Hp->Prop,(∃ m,W 0 m σ H)/\∀ i m τ H2,W i m τ H2 ->
 (J.stop i H2/\N τ H2) \/ (J.go i H2/\∃ N1:St->Hp->Prop,(∀ τ' H',N1 τ' H'->∃ m',m'<m/\W (i+1) m' τ' H')/\∀ x H',J.yld i H2 x H'->g x τ H' fun τ2 H3=>tt τ2 H3 fun b H4=>
  if b=true then tr τ2 H4 N1 else N1 τ2 H4)
abbrev TR:=St->Hp->(St->Hp->Prop)->Prop
noncomputable def JH (te:TE)(D:aE):TR:=fun σ H N=>te σ H fun v H5=>∃ ys,H5 D=some (.lst ys)/\ys.length<aT/\N σ (upd H5 D (.lst (ys ++ [v])))
noncomputable def HI (wi:TI)(g:TG)(tt:TT)(tr:aE->TR)(D:aE):TR:=fun σ H N=>wi σ H fun J H1=>CL J g tt (tr D) N σ H1
section
variable {C:Cx}{elt tg iter:Expr}{ifs:List Expr}{gens:List gc}{scope:Scope}{pos:Pos}{d:Nat}{D:aE}{g:TG}{tt:TT}{te:TE}{tr:TR}
end
noncomputable def WT (ts:List Nat)(wi:TI)(g:TG)(tt:TT)(tr:aE->TR):TE:=fun σ H Q=>wi σ H fun J H1=>∀ D,H1 D=none->CL J g tt (tr D) (fun _ H2=>Q (.ref D) H2) (clr ts σ) (upd H1 D (.lst []))
section
variable {X:Cx}{ts:List Nat}{scope:Scope}{tg iter elt:Expr}{ifs:List Expr}{qh:List gc}{wi:TI}{g:TG}{tt:TT}{tr:aE->TR}{pos:Pos}
end
theorem XQ {tr:aE->TR}:
  WT ts wi g tt tr σ H Q=wi σ H (fun J H1=>∀ D,H1 D=none->CL J g tt (tr D) (fun _ H2=>Q (.ref D) H2) (clr ts σ) (upd H1 D (.lst []))):=rfl
theorem Yv {tr:aE->TR}{D:aE} {N:St->Hp->Prop}:HI wi g tt tr D σ H N=wi σ H (fun J H1=>CL J g tt (tr D) N σ H1):=rfl
theorem Yf {D:aE} {N:St->Hp->Prop}:JH te D σ H N=te σ H (fun v H5=>∃ ys,H5 D=some (.lst ys)/\ys.length<aT/\N σ (upd H5 D (.lst (ys ++ [v])))):=rfl
section
variable {P:bf}{w:bC}{A:bo}{E:am->ax->Prop}{it l:aE}{items:Array am}
end
section
variable {X:Cx}{pos:Pos}
end
noncomputable def rep (o:Nat)(G:List Int):List Int:=(bP (o * G.length)).map fun (i:Nat)=>((i / G.length * G.length:Nat):Int)+G.getD (i % G.length) 0
section
variable {P:bf}{w:bC}{A:bo}{E:am->ax->Prop}{s:ax}{z TI TO i1 i2 l1 l2:aE}{k:Nat}{xs ys:Array am}{x y a b:am}{Q:Option am->ax->Prop}
theorem XX (D:ZipApart z TI TO i1 i2 l1 l2)(hz:IsZip s.heap z TI TO .none)(hTI:fK s.heap TI (.ref i1) (.ref i2))(hTO:fK s.heap TO a b)(h1:s.heap.IsTupleIter i1 l1 k)(h2:s.heap.IsTupleIter i2 l2 k)(p1:s.heap.IsTuple l1 xs)(p2:s.heap.IsTuple l2 ys)(hx:xs[k]?=some x)(hy:ys[k]?=some y)
  (hQ:∀ h',IsZip h' z TI TO (hX s.heap.objs.size)->fK h' TO x y->h'.IsTupleIter i1 l1 (k+1)->h'.IsTupleIter i2 l2 (k+1)->fK h' s.heap.objs.size x y->h'.objs.size=s.heap.objs.size+1->(∀ c o,c ≠ z->c ≠ TO->c ≠ i1->c ≠ i2->s.heap.get? c=some o->h'.get? c=some o)->Q (some (.ref s.heap.objs.size)) { s with heap:=h' }) :
  bg (bc P w) A (iU (.ref z)) Q E s:=by
 have hT:s.TypeIs (.ref z) "zip":=⟨_,hz,rfl⟩
 unfold iU
 refine aF (lC (dj (name:=aj "__next__") hT F.slot_zip_next (eQ F.slot_zip_next hT F.entry_zip_next ?_ (F.args_zip_next_1 _))))
 refine aF (m:=lB (.ref z) 2) (cS hz rfl (x:=.bool false) rfl ?_)
 refine aF (m:=lB (.ref z) 3) (cS hz rfl (x:=.ref TI) rfl ?_)
 refine aF (m:=mF (.ref TI)) (dR hTI rfl ?_)
 refine aF (m:=cG (.ref z)) ?_
 unfold cG
 refine aF (cS hz rfl (x:=.none) rfl (bh ?_))
 refine aF (m:=rule "zip.__next__.owned-tuple-again") (wpAny_rule ?_)
 refine aF (m:=lB (.ref z) 4) (cS hz rfl (x:=.ref TO) rfl ?_)
 refine aF (m:=setField (.ref z) 0 .ellipsis) (dS hz rfl (by simp) ?_)
 have sb1:=b8.update s.heap z (bV fun x_1=>x_1.setIfInBounds 0 am.ellipsis)
 have g1:(s.heap.update z (bV fun x_1=>x_1.setIfInBounds 0 am.ellipsis)).get? z=some { cls:=am.type "zip",data:=dr #[.ellipsis,am.bool false,am.bool false,am.ref TI,am.ref TO] }:=bZ _ hz (cU (cX rfl _))
 generalize s.heap.update z (bV fun x_1=>x_1.setIfInBounds 0 am.ellipsis)=h1' at *
 refine aF ?_
 rw [show (#[am.ref i1,am.ref i2].toList.zipIdx:List (am × Nat))=[(.ref i1,0),(.ref i2,1)] from rfl,gx]
 dsimp only
 have it1:h1'.IsTupleIter i1 l1 k:=by obtain ⟨o,ho,r⟩:=h1;exact ⟨o,(sb1.2 i1 D.i1z).trans ho,r⟩
 have tp1:h1'.IsTuple l1 xs:=by obtain ⟨o,ho,r⟩:=p1;exact ⟨o,(sb1.2 l1 D.l1z).trans ho,r⟩
 refine aF (aF (lE ?_))
 show bg _ _ (cc (.ref i1) >>= fun v=>pure (some v)) _ _ _
 refine aF (jR it1 tp1 hx fun h2' it2 sb2=>bh ?_)
 dsimp only
 have gTO2:fK h2' TO a b:=((sb2.2 TO D.TOi1).trans (sb1.2 TO D.TOz)).trans hTO
 refine aF (dR gTO2 rfl ?_)
 dsimp only
 refine aF (wpAny_updateSeq_pair gTO2 fun h3' g3 sb3=>?_)
 refine aF (wpAny_letGo (bh ?_))
 dsimp only
 have g3':fK h3' TO x b:=g3
 have it3:h3'.IsTupleIter i2 l2 k:=by obtain ⟨o,ho,r⟩:=h2;exact ⟨o,(((sb3.2 i2 (Ne.symm D.TOi2)).trans (sb2.2 i2 (Ne.symm D.i12))).trans (sb1.2 i2 D.i2z)).trans ho,r⟩
 have tp3:h3'.IsTuple l2 ys:=by obtain ⟨o,ho,r⟩:=p2;exact ⟨o,(((sb3.2 l2 D.l2TO).trans (sb2.2 l2 D.l2i1)).trans (sb1.2 l2 D.l2z)).trans ho,r⟩
 rw [gx]
 refine aF (aF (lE ?_))
 show bg _ _ (cc (.ref i2) >>= fun v=>pure (some v)) _ _ _
 refine aF (jR it3 tp3 hy fun h4' it4 sb4=>bh ?_)
 dsimp only
 have gTO4:fK h4' TO x b:=(sb4.2 TO D.TOi2).trans g3'
 refine aF (dR gTO4 rfl ?_)
 dsimp only
 refine aF (wpAny_updateSeq_pair gTO4 fun h5' g5 sb5=>?_)
 refine aF (wpAny_letGo (bh ?_))
 dsimp only
 have g5':fK h5' TO x y:=g5
 rw [List.forIn_nil]
 refine bh ?_
 dsimp only
 refine aF (dR g5' rfl ?_)
 dsimp only
 have sz5:h5'.objs.size=s.heap.objs.size:=((((sb5.1).trans sb4.1).trans sb3.1).trans sb2.1).trans sb1.1
 refine aF (wpAny_newTuple ?_ (by show 2<=aT;decide))
 have gz5:h5'.get? z=some { cls:=am.type "zip",data:=dr #[.ellipsis,am.bool false,am.bool false,am.ref TI,am.ref TO] }:=((((sb5.2 z (Ne.symm D.TOz)).trans (sb4.2 z (Ne.symm D.i2z))).trans (sb3.2 z (Ne.symm D.TOz))).trans (sb2.2 z (Ne.symm D.i1z))).trans g1
 have zlt:z<h5'.objs.size:=aM gz5
 have g6:(h5'.push { cls:=am.type "tuple",data:=eL #[x,y] }).get? z=_:=aG _ gz5
 have n6:(h5'.push { cls:=am.type "tuple",data:=eL #[x,y] }).get? h5'.objs.size=some { cls:=am.type "tuple",data:=eL #[x,y] }:=aY _ rfl
 have ex6:∀ c o,h5'.get? c=some o->(h5'.push { cls:=am.type "tuple",data:=eL #[x,y] }).get? c=some o:=fun c o e=>aG _ e
 have sz6:(h5'.push { cls:=am.type "tuple",data:=eL #[x,y] }).objs.size=h5'.objs.size+1:=de ..
 show bg _ _ (eX (.ref z) (.ref h5'.objs.size) >>= _) _ _ { s with heap:=h5'.push { cls:=am.type "tuple",data:=eL #[x,y] } }
 generalize h5'.push { cls:=am.type "tuple",data:=eL #[x,y] }=h6' at *
 unfold eX
 refine aF (aF (dS g6 rfl (by simp) (dS (bZ _ g6 (cU (cX rfl _))) rfl (by simp) ?_)))
 have sb7:=b8.update h6' z (bV fun x_1=>x_1.setIfInBounds 0 (hX h5'.objs.size))
 have g7:(h6'.update z (bV fun x_1=>x_1.setIfInBounds 0 (hX h5'.objs.size))).get? z=some { cls:=am.type "zip",data:=dr #[hX h5'.objs.size,am.bool false,am.bool false,am.ref TI,am.ref TO] }:=bZ _ g6 (cU (cX rfl _))
 dsimp only
 generalize h6'.update z (bV fun x_1=>x_1.setIfInBounds 0 (hX h5'.objs.size))=h7' at *
 have sb8:=b8.update h7' z (bV fun x_1=>x_1.setIfInBounds 1 (am.bool false))
 have g8:(h7'.update z (bV fun x_1=>x_1.setIfInBounds 1 (am.bool false))).get? z=some { cls:=am.type "zip",data:=dr #[hX h5'.objs.size,am.bool false,am.bool false,am.ref TI,am.ref TO] }:=bZ _ g7 (cU (cX rfl _))
 generalize h7'.update z (bV fun x_1=>x_1.setIfInBounds 1 (am.bool false))=h8' at *
 have far:∀ c o,c ≠ z->h6'.get? c=some o->h8'.get? c=some o:=fun c o hc e=>((sb8.2 c hc).trans (sb7.2 c hc)).trans e
 refine bh ⟨_,rfl,bh ?_⟩
 rw [sz5] at g8 n6 sz6 zlt ⊢
 refine hQ h8' g8 (far _ _ D.TOz (ex6 _ _ g5')) ?_ ?_ (far _ _ (dF zlt) n6) (by rw [sb8.1,sb7.1,sz6]) fun c o c1 c2 c3 c4 e=>?_
 ·obtain ⟨o,ho,r⟩:=it2
  exact ⟨o,far _ _ D.i1z (ex6 _ _ (((sb5.2 i1 (Ne.symm D.TOi1)).trans (sb4.2 i1 D.i12)).trans ((sb3.2 i1 (Ne.symm D.TOi1)).trans ho))),r⟩
 ·obtain ⟨o,ho,r⟩:=it4
  exact ⟨o,far _ _ D.i2z (ex6 _ _ ((sb5.2 i2 (Ne.symm D.TOi2)).trans ho)),r⟩
 ·exact far _ _ c1 (ex6 _ _ ((sb5.2 c c2).trans ((sb4.2 c c4).trans ((sb3.2 c c2).trans ((sb2.2 c c3).trans ((sb1.2 c c1).trans e))))))
theorem W4 (hh:A.handled=none)(D:ZipApart z TI TO i1 i2 l1 l2)(hz:IsZip s.heap z TI TO .none)(hTI:fK s.heap TI (.ref i1) (.ref i2))(h1:s.heap.IsTupleIter i1 l1 k)(p1:s.heap.IsTuple l1 xs)(hx:xs[k]?=none)
  (hQ:∀ h',(∀ c o,c ≠ z->c ≠ TO->c ≠ i1->c ≠ i2->s.heap.get? c=some o->h'.get? c=some o)->Q none { s with heap:=h' }):bg (bc P w) A (iU (.ref z)) Q E s:=by
 have hT:s.TypeIs (.ref z) "zip":=⟨_,hz,rfl⟩
 unfold iU
 refine aF (lC (dj (name:=aj "__next__") hT F.slot_zip_next (eQ F.slot_zip_next hT F.entry_zip_next ?_ (F.args_zip_next_1 _))))
 refine aF (m:=lB (.ref z) 2) (cS hz rfl (x:=.bool false) rfl ?_)
 refine aF (m:=lB (.ref z) 3) (cS hz rfl (x:=.ref TI) rfl ?_)
 refine aF (m:=mF (.ref TI)) (dR hTI rfl ?_)
 refine aF (m:=cG (.ref z)) ?_
 unfold cG
 refine aF (cS hz rfl (x:=.none) rfl (bh ?_))
 refine aF (m:=rule "zip.__next__.owned-tuple-again") (wpAny_rule ?_)
 refine aF (m:=lB (.ref z) 4) (cS hz rfl (x:=.ref TO) rfl ?_)
 refine aF (m:=setField (.ref z) 0 .ellipsis) (dS hz rfl (by simp) ?_)
 have sb1:=b8.update s.heap z (bV fun x_1=>x_1.setIfInBounds 0 am.ellipsis)
 have g1:(s.heap.update z (bV fun x_1=>x_1.setIfInBounds 0 am.ellipsis)).get? z=some { cls:=am.type "zip",data:=dr #[.ellipsis,am.bool false,am.bool false,am.ref TI,am.ref TO] }:=bZ _ hz (cU (cX rfl _))
 generalize s.heap.update z (bV fun x_1=>x_1.setIfInBounds 0 am.ellipsis)=h1' at *
 refine aF ?_
 rw [show (#[am.ref i1,am.ref i2].toList.zipIdx:List (am × Nat))=[(.ref i1,0),(.ref i2,1)] from rfl,gx]
 dsimp only
 have it1:h1'.IsTupleIter i1 l1 k:=by obtain ⟨o,ho,r⟩:=h1;exact ⟨o,(sb1.2 i1 D.i1z).trans ho,r⟩
 have tp1:h1'.IsTuple l1 xs:=by obtain ⟨o,ho,r⟩:=p1;exact ⟨o,(sb1.2 l1 D.l1z).trans ho,r⟩
 refine aF (aF (lE ?_))
 show bg _ _ (cc (.ref i1) >>= fun v=>pure (some v)) _ _ _
 refine aF (kB (by first | exact hh | (show A.in1.handled=none;exact hh)) it1 tp1 hx fun h2' e ex2 ⟨oe,hoe,hce⟩=>?_)
 have gz2:h2'.get? z=some { cls:=am.type "zip",data:=dr #[.ellipsis,am.bool false,am.bool false,am.ref TI,am.ref TO] }:=ex2 z _ (Ne.symm D.i1z) g1
 have hez:e ≠ z:=by
  intro h
  subst h
  have hoe':h2'.get? e=some oe:=hoe
  rw [gz2] at hoe'
  cases hoe'
  exact absurd (show am.type "zip"=am.type "StopIteration" from hce) (by decide)
 refine dS gz2 rfl (by simp) ?_
 have sb3:=b8.update h2' z (bV fun x_1=>x_1.setIfInBounds 0 am.none)
 dsimp only
 generalize h2'.update z (bV fun x_1=>x_1.setIfInBounds 0 am.none)=h3' at *
 refine aF (wpAny_isInstance (T:="StopIteration") (b:=true) ⟨oe,(sb3.2 e hez).trans hoe,hce⟩ isSubtype_stop ?_)
 refine bh (hQ h3' fun c o c1 c2 c3 c4 ec=>?_)
 exact (sb3.2 c c1).trans (ex2 c o c3 ((sb1.2 c c1).trans ec))
end
open AutoSeq1 (wpAny_loadPart') in
theorem A2 (l1 l2:aE)(xs ys:Array am)(n1 n2:Nat)(d1 d2:Option aE)(s1 s2:Array (Option am)) :
  Meets (Builtin.«zip.__new__» ⟨[.type "zip",.ref l1,.ref l2],[]⟩) (fun _ R s=>s.heap.get? l1=some { cls:=.type "tuple",dict:=d1,data:=.seq xs n1,slots:=s1 }/\s.heap.get? l2=some { cls:=.type "tuple",dict:=d2,data:=.seq ys n2,slots:=s2 } /\
   ∀ g1 g2 g3 g4 g5,g1=s.heap.push { cls:=.type "tuple_iterator",data:=.fields #[.ref l1,.int 0 0] }->g2=g1.push { cls:=.type "tuple_iterator",data:=.fields #[.ref l2,.int 0 0] }->g3=g2.push { cls:=.type "tuple",data:=.seq #[.ref s.heap.objs.size,.ref g1.objs.size] }->g4=g3.push { cls:=.type "tuple",data:=.seq #[.none,.none] }->g5=g4.push { cls:=.type "zip",data:=.fields #[.none,.bool false,.bool false,.ref g2.objs.size,.ref g3.objs.size] }->R (.ok (.ret (.ref g4.objs.size))) { s with heap:=g5 }):=
 .of_wp fun prog w A R s h=>by
  obtain ⟨hp,g,d,tk,os⟩:=s
  obtain ⟨hl1,hl2,h⟩:=h
  have hT1:mn (ax.heap ⟨hp,g,d,tk,os⟩) l1 xs:=⟨_,hl1,rfl,n1,rfl⟩
  have hT2:mn (hp.push { cls:=.type "tuple_iterator",data:=.fields #[.ref l1,.int 0 0] }) l2 ys:=⟨_,aG _ hl2,rfl,n2,rfl⟩
  have hsub:isSubtype (am.type "zip") (am.type "zip")=pure true:=by first | exact sub_zip | rfl
  wp_walk using cH hl1,dz hT1,dz hT2
  exact ⟨_,rfl,h _ _ _ _ _ rfl rfl rfl rfl rfl⟩
theorem Yh {E:am->ax->Prop} {l1 l2:aE}{xs ys:Array am}{Q:am->ax->Prop}(hT1:s.heap.IsTuple l1 xs)(hT2:s.heap.IsTuple l2 ys)
  (h:∀ h',IsZip h' (s.heap.objs.size+4) (s.heap.objs.size+2) (s.heap.objs.size+3) .none->fK h' (s.heap.objs.size+2) (.ref s.heap.objs.size) (.ref (s.heap.objs.size+1))->fK h' (s.heap.objs.size+3) .none .none->h'.IsTupleIter s.heap.objs.size l1 0->h'.IsTupleIter (s.heap.objs.size+1) l2 0->(∀ b o,s.heap.get? b=some o->h'.get? b=some o)->Q (.ref (s.heap.objs.size+4)) { s with heap:=h' }) :
  bg (bc P w) A (call (.type "zip") [.ref l1,.ref l2]) Q E s:=by
 obtain ⟨⟨c1,d1,dt1,sl1⟩,hl1,hc1,n1,hd1⟩:=hT1
 replace hc1:c1=.type "tuple":=hc1
 replace hd1:dt1=.seq xs n1:=hd1
 subst hc1 hd1
 obtain ⟨⟨c2,d2,dt2,sl2⟩,hl2,hc2,n2,hd2⟩:=hT2
 replace hc2:c2=.type "tuple":=hc2
 replace hd2:dt2=.seq ys n2:=hd2
 subst hc2 hd2
 refine callType_new F.called_zip (by decide) (F.typeCall_zip_2 _ _) (F.newCall_zip_2 _ _) (fun obj=>F.args_object_init_3 obj _ _) F.entry_zip_new (A2 l1 l2 xs ys n1 n2 d1 d2 sl1 sl2) ⟨hl1,hl2,?_⟩
 intro g1 g2 g3 g4 g5 e1 e2 e3 e4 e5
 have z1:g1.objs.size=s.heap.objs.size+1:=by rw [e1,de]
 have z2:g2.objs.size=s.heap.objs.size+2:=by rw [e2,de,z1]
 have z3:g3.objs.size=s.heap.objs.size+3:=by rw [e3,de,z2]
 have z4:g4.objs.size=s.heap.objs.size+4:=by rw [e4,de,z3]
 have k1:∀ b o,s.heap.get? b=some o->g1.get? b=some o:=fun b o x=>by rw [e1];exact aG _ x
 have k2:∀ b o,g1.get? b=some o->g2.get? b=some o:=fun b o x=>by rw [e2];exact aG _ x
 have k3:∀ b o,g2.get? b=some o->g3.get? b=some o:=fun b o x=>by rw [e3];exact aG _ x
 have k4:∀ b o,g3.get? b=some o->g4.get? b=some o:=fun b o x=>by rw [e4];exact aG _ x
 have k5:∀ b o,g4.get? b=some o->g5.get? b=some o:=fun b o x=>by rw [e5];exact aG _ x
 have p1:g1.get? s.heap.objs.size=some { cls:=.type "tuple_iterator",data:=.fields #[.ref l1,.int 0 0] }:=by rw [e1];exact aY _ rfl
 have p2:g2.get? (s.heap.objs.size+1)=some { cls:=.type "tuple_iterator",data:=.fields #[.ref l2,.int 0 0] }:=by
  have:=aY g1 (o:={ cls:=.type "tuple_iterator",data:=.fields #[.ref l2,.int 0 0] }) rfl
  rw [z1] at this;rw [e2];exact this
 have p3:g3.get? (s.heap.objs.size+2)=some { cls:=.type "tuple",data:=.seq #[.ref s.heap.objs.size,.ref (s.heap.objs.size+1)] }:=by
  have:=aY g2 (o:={ cls:=.type "tuple",data:=.seq #[.ref s.heap.objs.size,.ref g1.objs.size] }) rfl
  rw [z2] at this;rw [e3,this,z1]
 have p4:g4.get? (s.heap.objs.size+3)=some { cls:=.type "tuple",data:=.seq #[.none,.none] }:=by
  have:=aY g3 (o:={ cls:=.type "tuple",data:=.seq #[.none,.none] }) rfl
  rw [z3] at this;rw [e4,this]
 have p5:g5.get? (s.heap.objs.size+4)=some { cls:=.type "zip",data:=.fields #[.none,.bool false,.bool false,.ref (s.heap.objs.size+2),.ref (s.heap.objs.size+3)] }:=by
  have:=aY g4 (o:={ cls:=.type "zip",data:=.fields #[.none,.bool false,.bool false,.ref g2.objs.size,.ref g3.objs.size] }) rfl
  rw [z4] at this;rw [e5,this,z2,z3]
 show _/\_
 rw [z4]
 exact ⟨⟨_,p5,rfl⟩,h _ p5 (k5 _ _ (k4 _ _ p3)) (k5 _ _ p4) ⟨_,k5 _ _ (k4 _ _ (k3 _ _ (k2 _ _ p1))),rfl,rfl⟩ ⟨_,k5 _ _ (k4 _ _ (k3 _ _ p2)),rfl,rfl⟩ fun b o x=>k5 _ _ (k4 _ _ (k3 _ _ (k2 _ _ (k1 _ _ x))))⟩
noncomputable def HA (K:au)(a b:aE):It:=
 ⟨fun i H=>∃ xs ys x y,SqT K H a xs/\SqT K H b ys/\xs[i]?=some x/\ys[i]?=some y,fun i H z H'=>∃ p x y,H p=none/\z=.ref p/\(∀ xs,SqT K H a xs->xs[i]?=some x)/\(∀ ys,SqT K H b ys->ys[i]?=some y)/\H'=upd H p (.tup [x,y]),
  fun i H=>∃ xs,SqT K H a xs/\xs.length<=i⟩
theorem YG (l1 l2 z TI TO i1 i2:aE)(D:ZipApart z TI TO i1 i2 l1 l2) :
  ZK P w K (.Tuple es kt tp) (HA K l1 l2) [z,TI,TO,i1,i2] z (fun i h=>IsZip h z TI TO .none/\fK h TI (.ref i1) (.ref i2)/\(∃ a b,fK h TO a b)/\h.IsTupleIter i1 l1 i/\h.IsTupleIter i2 l2 i) where
 mem:=by simp
 obj:=fun i h st b hb=>by
  obtain ⟨hz,hTI,⟨a,c,hTO⟩,⟨o1,e1,c1,d1⟩,⟨o2,e2,c2,d2⟩⟩:=st
  simp only [aJ,bM,or_false] at hb
  rcases hb with rfl | rfl | rfl | rfl | rfl
  ·exact ⟨_,hz,fun v q=>by have q':dr _=ft v:=q;cases q'⟩
  ·exact ⟨_,hTI,fun v q=>by have q':eL _ _=ft v:=q;cases q'⟩
  ·exact ⟨_,hTO,fun v q=>by have q':eL _ _=ft v:=q;cases q'⟩
  ·exact ⟨o1,e1,fun v q=>by rw [d1] at q;cases q⟩
  ·exact ⟨o2,e2,fun v q=>by rw [d2] at q;cases q⟩
 keep:=fun i h h' st k=>by
  obtain ⟨hz,hTI,⟨a,c,hTO⟩,h1,h2⟩:=st
  exact ⟨k _ (by simp) _ hz,k _ (by simp) _ hTI,⟨a,c,k _ (by simp) _ hTO⟩,h1.at fun o e=>k _ (by simp) o e,h2.at fun o e=>k _ (by simp) o e⟩
 item:=by
  intro X hP hw hK hc i pins s σ H E I hf st hg
  subst hP hw hK
  obtain ⟨hz,hTI,⟨a,c,hTO⟩,h1,h2⟩:=st
  obtain ⟨xs,ys,x,y,hq1,hq2,hx,hy⟩:=hg
  obtain ⟨its1,rv1,p1,hz1⟩:=I.tuple hq1
  obtain ⟨its2,rv2,p2,hz2⟩:=I.tuple hq2
  obtain ⟨u,hu,ru⟩:=rv1.get hx
  obtain ⟨v,hv,rvv⟩:=rv2.get hy
  refine XX D hz hTI hTO h1 h2 p1 p2 (x:=u) (y:=v) (by simpa using hu) (by simpa using hv) fun g1 b1 b2 b3 b4 b5 b6 hk=>?_
  refine ⟨.ref s.heap.objs.size,rfl,gS b1 fun g2 hz2' hs2=>?_⟩
  replace hs2:b8 z g1 g2:=hs2
  have zlt:z<s.heap.objs.size:=aM hz
  have I2:Inv X pins σ (upd H s.heap.objs.size (.tup [x,y])) { s with heap:=g2,toks:=s.toks }:=by
   refine I.yieldTup (us:=[u,v]) hf (fun b o hb e=>?_) (aL _) ((hs2.2 _ (dF zlt)).trans b5) (.cons ru (.cons rvv .nil)) (by show 2<=aT;decide)
   simp only [aJ,bM,or_false,not_or] at hb
   exact (hs2.2 b hb.1).trans (hk b o hb.1 hb.2.2.1 hb.2.2.2.1 hb.2.2.2.2 e)
  refine ⟨.ref s.heap.objs.size,_,I2,rfl,⟨s.heap.objs.size,x,y,I.hok.fresh (aL _),rfl,fun xs' h'=>by rw [I.tuple_inj h' hq1];exact hx,fun ys' h'=>by rw [I.tuple_inj h' hq2];exact hy,rfl⟩,
   ⟨hz2',(hs2.2 _ D.TIz).trans (hk _ _ D.TIz D.TITO D.TIi1 D.TIi2 hTI),⟨_,_,(hs2.2 _ D.TOz).trans b2⟩,b3.extBut hs2.extBut D.i1z,b4.extBut hs2.extBut D.i2z⟩,fun b hb=>?_⟩
  have hlt:b<s.heap.objs.size:=by
   simp only [aJ,bM,or_false] at hb
   rcases hb with rfl | rfl | rfl | rfl | rfl
   ·exact zlt
   ·exact aM hTI
   ·exact aM hTO
   ·obtain ⟨o,e,_⟩:=h1;exact aM e
   ·obtain ⟨o,e,_⟩:=h2;exact aM e
  rw [zg (bE hlt)]
  exact (hf b hb).1
 done:=by
  intro X hP hw hK hc i pins s σ H E I hf st hg
  subst hP hw hK
  obtain ⟨hz,hTI,⟨a,c,hTO⟩,h1,h2⟩:=st
  obtain ⟨xs,hq1,hend⟩:=hg
  obtain ⟨its1,rv1,p1,hz1⟩:=I.tuple hq1
  have l1:=rv1.length
  refine W4 (I.ok.hd hc) D hz hTI h1 p1 (by simp;omega) fun h' hk=>⟨rfl,I.turnedL (tk:=s.toks) hf fun b o hb e=>?_⟩
  simp only [aJ,bM,or_false,not_or] at hb
  exact hk b o hb.1 hb.2.2.1 hb.2.2.2.1 hb.2.2.2.2 e
 self:=fun _ _ _ _ _ st h=>fW st.1 h
section
variable {X:Cx}{es:List Expr}{kt:Nat}{tp:Pos}
noncomputable def JQ (K:au)(ta:TA):TI:=fun σ H R=>ta σ H fun vs H1=>∃ a b,vs=[.ref a,.ref b]/\(((∃ xs,SqL K H1 a xs)/\(∃ ys,SqL K H1 b ys)/\R (Itz K a b) H1) \/ ((∃ xs,SqT K H1 a xs)/\(∃ ys,SqT K H1 b ys)/\R (HA K a b) H1))
theorem VB {e1 e2:Expr}{ta:TA}{p pos:Pos}(hg:Gl X "zip")(hm:X.mg "zip"=none)(ha:PA X [e1,e2] ta)(hs:bi [e1,e2] X.env=[(false,eval e1 X.env),(false,eval e2 X.env)]:=by rfl)(hs2:bi [e2] X.env=[(false,eval e2 X.env)]:=by rfl) :
  PI X (.Tuple es kt tp) (.Call (.Name "zip" p) [e1,e2] [] pos) (JQ X.K ta):=by
 intro pins s σ H R I h
 refine Call_ (kX I hg hm YK (cM (thn (ha pos pins s σ H _ I h) fun us s1 ⟨vs,H1,I1,r1,q1⟩=>?_) (by rw [hs,hs2]) (by rw [hs2];rfl)))
 obtain ⟨a,b,e,q1⟩:=q1
 subst e
 obtain ⟨u,v,rfl,ru,rv⟩:=QB r1
 cases ru
 cases rv
 rcases q1 with ⟨⟨xs,hq1⟩,⟨ys,hq2⟩,q⟩ | ⟨⟨xs,hq1⟩,⟨ys,hq2⟩,q⟩
 ·obtain ⟨its1,rv1,p1,hz1⟩:=I1.list hq1
  obtain ⟨its2,rv2,p2,hz2⟩:=I1.list hq2
  have la:a<s1.heap.objs.size:=by obtain ⟨o,e,_⟩:=p1.isList;exact aM e
  have lb:b<s1.heap.objs.size:=by obtain ⟨o,e,_⟩:=p2.isList;exact aM e
  refine call_zip_2 p1.isList p2.isList fun h' b1 b2 b3 b4 b5 hsz hk=>fW b1 ?_
  have I2:Inv X pins σ H1 { s1 with heap:=h' }:=I1.kept (t':=s1.toks) hk
  refine ⟨s1.heap.objs.size+4,[s1.heap.objs.size+4,s1.heap.objs.size+2,s1.heap.objs.size+3,s1.heap.objs.size,s1.heap.objs.size+1],_,_,H1,rfl,I2,V1 a b _ _ _ _ _ (zipApart_new la lb),⟨b1,b2,⟨_,_,b3⟩,b4,b5⟩,fun c hb=>?_,q⟩
  have hb':s1.heap.objs.size<=c:=by
   simp only [aJ,bM,or_false] at hb
   rcases hb with rfl | rfl | rfl | rfl | rfl <;> first | exact aL _ | exact mG _ _
  exact I1.fpOk hb' (I1.hok.fresh hb')
 ·obtain ⟨its1,rv1,p1,hz1⟩:=I1.tuple hq1
  obtain ⟨its2,rv2,p2,hz2⟩:=I1.tuple hq2
  have la:a<s1.heap.objs.size:=by obtain ⟨o,e,_⟩:=p1;exact aM e
  have lb:b<s1.heap.objs.size:=by obtain ⟨o,e,_⟩:=p2;exact aM e
  refine Yh p1 p2 fun h' b1 b2 b3 b4 b5 hk=>fW b1 ?_
  have I2:Inv X pins σ H1 { s1 with heap:=h' }:=I1.kept (t':=s1.toks) hk
  refine ⟨s1.heap.objs.size+4,[s1.heap.objs.size+4,s1.heap.objs.size+2,s1.heap.objs.size+3,s1.heap.objs.size,s1.heap.objs.size+1],_,_,H1,rfl,I2,YG a b _ _ _ _ _ (zipApart_new la lb),⟨b1,b2,⟨_,_,b3⟩,b4,b5⟩,fun c hb=>?_,q⟩
  have hb':s1.heap.objs.size<=c:=by
   simp only [aJ,bM,or_false] at hb
   rcases hb with rfl | rfl | rfl | rfl | rfl <;> first | exact aL _ | exact mG _ _
  exact I1.fpOk hb' (I1.hok.fresh hb')
end
section
variable {X:Cx}{e st:Expr}{te:TE}{lo hi:Option Expr}{tl th ts:TO}{p2 pos:Pos}
end
section
variable {X:Cx}
variable {o e:Expr}{es:List Expr}{to:TE}{t:TA}{name:Str}{apos cpos:Pos}{T id:String}{r:V->List V->Hp->VK->Prop}{K:au}
end
section
variable {X:Cx}{tg:Expr}
end
inductive Dd where
 | take (p:Nat) | move (p g:Nat) | lay (g:Nat)
abbrev RS:=List (Option Int) × Option Int × List Int
noncomputable def inc (mv:List Int)(x:Int):List Int:=mv.set x.toNat (mv.getD x.toNat 0+1)
inductive Do:Dd->RS->RS->Prop
 | take {p:Nat} {row:List (Option Int)} {mv:List Int} {x:Int}:row[p]?=some (some x)->Do (.take p) (row,none,mv) (row.set p none,some x,inc mv x)
 | move {p g:Nat} {row:List (Option Int)} {h:Option Int} {mv:List Int} {x:Int}:row[p]?=some (some x)->row[g]?=some none->Do (.move p g) (row,h,mv) ((row.set p none).set g (some x),h,inc mv x)
 | lay {g:Nat} {row:List (Option Int)} {mv:List Int} {x:Int}:row[g]?=some none->Do (.lay g) (row,some x,mv) (row.set g (some x),none,inc mv x)
inductive Dos:List Dd->RS->RS->Prop
 | nil {s:RS}:Dos [] s s
 | cons {d:Dd} {l:List Dd} {s t u:RS}:Do d s t->Dos l t u->Dos (d :: l) s u
section
variable {X:Cx}{K:au}
end
section
variable {X:Cx}
end
section
variable {X:Cx}
end
section
variable {X:Cx}{e st:Expr}{te:TE}{ts:TO}{p2 pos:Pos}
end
section
variable {X:Cx}
end
def AtM (K:au)(C:aE)(m qual:Str)(st:cn):Prop:=∃ f fd,Fun K m qual st f fd/\XS K C m f
def Dm (P:bf)(w:bC)(K:au)(mg:Str->Option am)(base:Heap)(C:aE)(m:Str)(ps:List Str)(k:Nat)(sp:Sp):Prop:=
 ∃ f fd,qS P w K mg base CX0 k f fd ps sp/\ja K fd ps []/\XS K C m f
variable {C:aE}
theorem Dm.mono {m:Str} (D:Dm P w K mg base C m ps j sp)(h:j<=k):Dm P w K mg base C m ps k sp:=
 let ⟨f,fd,F,r⟩:=D
 ⟨f,fd,F.mono h,r⟩
theorem IA {m qual:Str} (a:AtM K C m qual st)(S:zp N ps (zd st))
  (hb:∀ (kV doc pm:am) (an:Option aE) (cdv ct:am) (us:List am),us.length=ps.length->gi (ck m qual (qq st) (zT st) (zd st) .none kV doc pm an cdv ct) ⟨us,[]⟩=pure (ps.zip us))
  (len:∀ vs H Q E,sp vs H Q E->vs.length=ps.length)
  (hbody:∀ (f:aE) (cdv:am) (A:bo) (outer:List Env) (s:ax) (H:Hp) (vs:List V) (Q:VK) (E:XK),qj k (A.deeper (fF qual (zd st) s.heap.objs.size f cdv))->sp vs H Q E ->
   ∃ t,PSs (kJ CX0 P w K mg base N qual (zd st) f cdv A outer s H E).nox (zT st) t/\t { nx:=fun _ H'=>Q .non H',rt:=Q } (qF N vs) H):Dm P w K mg base C m ps (k+1) sp:=by
 obtain ⟨f,fd,F,mt⟩:=a
 exact ⟨f,fd,F.ok S len fun cdv A outer s H vs Q E=>hbody f cdv A outer s H vs Q E,F.binds hb,mt⟩
section
variable {X:Cx}{k:Nat}{C:aE}{m x:Str}{ps:List Str}{sp:Sp}{p pos apos:Pos}{o e:Expr}{es:List Expr}{t:TA}{to:TE}
variable {pl:Sem Bool}
theorem F3 (c:Cls X.K C)(D:Dm X.prog X.w X.K X.mg X.base C m ps k sp)(hr:qj k X.A)(ho:PE X o to)(ha:PA X (e :: es) t)
  (hst:bi (e :: es) X.env=(false,eval e X.env) :: bi es X.env:=by rfl) (hpl:(cT pos (bi es X.env)).any (·.1)=false:=by rfl)
  (ht:eval (.Call (.Attribute o m apos) (e :: es) [] pos) X.env=(do
   let ov <- eval o X.env
   lh apos.atName
   let (f,first) <- holding [ov] (getMethod ov m pl)
   ie pos f first (cT pos (bi (e :: es) X.env)) (gh pos (dX [] X.env))):=by rfl) :
  PE X (.Call (.Attribute o m apos) (e :: es) [] pos) (wZ C m sp [] E0 to t):=by
 obtain ⟨f,fd,F,b,mt⟩:=D
 exact Dp ho c mt F hr b .nil Ql ha hst hpl ht
theorem GM (c:Cls X.K C)(D:Dm X.prog X.w X.K X.mg X.base C m ps k sp)(hr:qj k X.A)(ho:PE X o to)
  (ht:eval (.Call (.Attribute o m apos) [] [] pos) X.env=(do
   let ov <- eval o X.env
   lh apos.atName
   let (f,first) <- holding [ov] (getMethod ov m pl)
   ie pos f first (cT pos (bi [] X.env)) (gh pos (dX [] X.env))):=by rfl) :
  PE X (.Call (.Attribute o m apos) [] [] pos) (wZ C m sp [] E0 to Qv):=by
 obtain ⟨f,fd,F,b,mt⟩:=D
 exact VU ho c mt F hr b .nil Ql ht
def Mkr (P:bf)(w:bC)(K:au)(mg:Str->Option am)(base:Heap)(x:Str)(C:aE)(ps:List Str)(k:Nat)(sp:Sp):Prop:=
 ∃ f fd,qS P w K mg base CX0 k f fd ps sp/\ja K fd ps []/\Mk K C f/\mg x=some (.ref C)
theorem Ly (D:Mkr X.prog X.w X.K X.mg X.base x C ps k sp)(hr:qj (k+1) X.A)(hg:Gl X x)(ha:PA X (e :: es) t)(hdb:(x == ("__debug__":Str))=false:=by decide)
  (he:bi (e :: es) X.env=(false,eval e X.env) :: bi es X.env:=by rfl) (hpl:(cT pos (bi es X.env)).any (·.1)=false:=by rfl):PE X (.Call (.Name x p) (e :: es) [] pos) (Xe C sp [] E0 t):=by
 obtain ⟨f,fd,F,b,M,hm⟩:=D
 exact EO M F hr hg hm b .nil Ql ha hdb he hpl
end
structure KD (K:au)(w:bC)(a:aE)(kvs:List (Key × V)):Prop where
 ex:∃ es ep,K.lookup a=some ⟨.type "dict",none,.dict es ep,#[]⟩/\∀ P:bf,PySem.KeysOf (jc P w) es/\∃ vs,KV kvs vs/\Pairs (jc P w) es.toList vs/\(vs.map (·.1)).Nodup
 ns:(a == dY)=false
variable {pins:List (aE × Obj)}
theorem KD.at {kvs:List (Key × V)}(d:KD X.K X.w a kvs)(I:Inv X pins σ H s):∃ vs,KV kvs vs/\s.heap.DictOf (jc X.prog X.w) a vs:=by
 obtain ⟨es,ep,hl,h⟩:=d.ex
 obtain ⟨h1,vs,r,h2,h3⟩:=h X.prog
 exact ⟨vs,r,_,es,ep,I.kIn a _ hl,⟨rfl,rfl,rfl⟩,rfl,h1,h2,h3⟩
noncomputable def BI (kvs:List (Key × V))(ty:TE):TE:=fun σ H Q=>ty σ H fun y H2=>∃ k,y=kV k/\Q ((jk kvs k).getD .non) H2
section
variable {X:Cx}{e:Expr}{ty:TE}{p apos cpos:Pos}{x:Str}{a:aE}{kvs:List (Key × V)}
theorem Dh (d:KD X.K X.w a kvs)(hg:Gl X x)(hm:X.mg x=some (.ref a))(he:PE X e ty)(m:M1 X (.Name x p) "get" apos e cpos)(hdb:(x == ("__debug__":Str))=false:=by decide):PE X (.Call (.Attribute (.Name x p) "get" apos) [e] [] cpos) (BI kvs ty):=by
 intro pins s σ H Q I h
 refine wpAny_Call_method m.base m.few m.line PySem.F.plainAttrs_dict iQ PySem.F.type_dict_get (jd I hg hm ?_ hdb)
 obtain ⟨vs0,_,dd0⟩:=d.at I
 refine ⟨dd0.typeIs,fun b q=>?_,?_⟩
 ·cases q
  obtain ⟨ob,_,_,h1,h2,_⟩:=dd0
  exact ⟨ob,h1,h2.2.1⟩
 rw [m.trees]
 refine fJ rfl (gl (Calls.spliced_cons (thn (he pins s σ H _ I h) fun iv s2 ⟨y,H2,I2,ry,k,ey,q2⟩=>Calls.spliced_nil ?_)))
 subst ey
 obtain ⟨vs,rel,dd⟩:=d.at I2
 refine call_meetsIn iQ dd.typeIs PySem.F.entry_dict_get (PySem.F.args_dict_get_2 _ _) (meets_dict_get (jc X.prog X.w) a (BD ry) d.ns) ⟨_,dd.mapOf,?_⟩
 refine ⟨(jk kvs k).getD .non,H2,I2.tok _,?_,q2⟩
 exact (rel.val k).getD rfl
end
section
variable {X:Cx}
end
theorem atm_mk {m qual:Str} {oc kV dc pm cd ct:am} {sl:Array (Option am)}(a1:bz K (.ref C) m=some (some (.ref f)))(i1:eP K (.ref f)=true)
  (l1:K.lookup f=some ⟨oc,od,.func (ck m qual (qq st) (zT st) (zd st) .none kV dc pm an cd ct),sl⟩) (c1:fG K cd qual=true) (k1:cF K (.ref f)=true):AtM K C m qual st:=⟨f,_,fun_mk l1 c1 k1,⟨a1,i1,k1⟩⟩
section
variable {X:Cx}
end
structure ScG (X:Cx)(ts:List Nat)(scope:Scope):Prop where
 kind:scope.kind=.function
 cell:∀ y ∈ scope.names,y.2=.cell->scope.names.lookup y.1=some .cell
 loc:∀ y ∈ scope.names,y.2=.local->scope.names.lookup y.1=some .local
 free:∀ y ∈ scope.names,y.2=.free->X.env.kindOf y.1=some .cell \/ X.env.kindOf y.1=some .free
 ts:∀ (i:Nat) x,X.N[i]?=some x->scope.names.lookup x=some .local \/ scope.names.lookup x=some .cell->i ∈ ts
section
variable {X:Cx}{ts:List Nat}{scope:Scope}{pins:List (aE × Obj)}{σ:St}{H:Hp}{s:ax}{fp:List aE}
end
section
variable {X:Cx}{ts:List Nat}{scope:Scope}{tg iter elt:Expr}{ifs:List Expr}{wi:TI}{g:TG}{tt:TT}{te:TE}{pos:Pos}
end
section
variable {X:Cx}
end
inductive Dat where
 | non | bl (b:Bool) | int (i:Int) | str (x:Str) | ty (n:String) | lst (l:List Dat) | tup (l:List Dat) | rng (lo hi c:Int) | scr (K:au) (l:List Int)
inductive AV where
 | d (x:Dat) | ref (a:aE)
  | tp (l:List (Dat ⊕ aE))
noncomputable def tiA:Dat ⊕ aE->AV
 | .inl d=>.d d
 | .inr a=>.ref a
noncomputable def AV.Has (r:aE):AV->Prop
 | .d _=>False
 | .ref a=>a=r
 | .tp l=>aZ r ∈ l
abbrev NK:=List (Option Int) × Option Int
noncomputable def Bq:Int:=0xFCA86420
noncomputable def Fd:Option Int->Int
 | none=>Bq
 | some i=>hashInt i
noncomputable def Mc (k:NK):Int:=reduceHash (gU [reduceHash (gU (k.1.map Fd)),Fd k.2])
noncomputable def cN:Option Int->V
 | none=>.non
 | some i=>.int i
noncomputable abbrev PN:List (NK × aE × V)->List (NK × aE × am)->Prop:=ir fun p q=>p.1=q.1/\p.2.1=q.2.1/\zC p.2.2 q.2.2
noncomputable def DN (a:aE)(xs:List (NK × aE × V)):HO:=.ext fun h=>xs.length<=aT/\(a == dY)=false/\∃ ys:List (NK × aE × am),PN xs ys /\
 ∃ o es ep,h.get? a=some o/\o.ExactDict/\o.data=.dict es ep/\es.toList=ys.map (fun y=>(⟨Mc y.1,.ref y.2.1,y.2.2⟩:DictEntry))/\(ys.map (·.1)).Nodup
def XC (H:Hp)(O:aE->Prop)(b:aE)(k:NK):Prop:=¬ O b/\∃ c,¬ O c/\H b=some (.tup [.ref c,cN k.2])/\H c=some (.tup (k.1.map cN))
inductive MO where
 | lst (l:List AV) | dK (kvs:List (Key × AV)) | ins (C:aE) (fs:List (Str × AV)) | exc (C:aE) (fs:List (Str × V)) | tb (R:Array am->aE->Obj->Prop) | dT (kvs:List (List Key × AV)) | dN (kvs:List (NK × AV))
noncomputable def Z4 (a C:aE)(d:Option aE):HO:=.ext fun h=>∃ o,h.get? a=some o/\o.cls=.ref C/\o.dict=d/\∃ vs,o.data=.fields vs
abbrev MH:=aE->Option MO
abbrev ASt:=List (Option AV)
noncomputable def mup (M:MH)(a:aE)(o:MO):MH:=fun b=>if b=a then some o else M b
variable {M:MH}
theorem zq {o:MO}:mup M a o a=some o:=if_pos rfl
variable {b:aE}
theorem zG {o:MO}(h:b ≠ a):mup M a o b=M b:=if_neg h
theorem yC {o u:MO}:mup (mup M a o) a u=mup M a u:=by
 funext b;unfold mup;split <;> rfl
abbrev Own:=aE->Prop
inductive Rep (H:Hp) (O:Own):V->Dat->Prop
 | non:Rep H O .non .non
 | bl {b:Bool}:Rep H O (.bl b) (.bl b)
 | int {i:Int}:Rep H O (.int i) (.int i)
 | str {x:Str}:Rep H O (.str x) (.str x)
 | ty {n:String}:Rep H O (.ty n) (.ty n)
 | lst {a:aE} {xs:List V} {l:List Dat}:¬ O a->H a=some (.lst xs)->xs.length=l.length->(∀ (i:Nat) x d,xs[i]?=some x->l[i]?=some d->Rep H O x d)->Rep H O (.ref a) (.lst l)
 | tup {a:aE} {xs:List V} {l:List Dat}:¬ O a->H a=some (.tup xs)->xs.length=l.length->(∀ (i:Nat) x d,xs[i]?=some x->l[i]?=some d->Rep H O x d)->Rep H O (.ref a) (.tup l)
 | rng {a:aE} {lo hi c:Int}:¬ O a->H a=some (Qt a lo hi c)->Rep H O (.ref a) (.rng lo hi c)
 | scr {a:aE} {K:au} {l:List Int}:¬ O a->Rd H a (.lst (l.map V.int))->Rep H O (.ref a) (.scr K l)
 | scrK {a:aE} {K:au} {l:List Int}:SqL K (fun _=>none) a (l.map V.int)->Rep H O (.ref a) (.scr K l)
def JZ (H:Hp)(O:Own)(xs:List V)(l:List Dat):Prop:=xs.length=l.length/\∀ (i:Nat) x d,xs[i]?=some x->l[i]?=some d->Rep H O x d
noncomputable def Lj (H:Hp)(O:Own)(M:MH)(v:V):Dat ⊕ aE->Prop
 | .inl d=>Rep H O v d
 | .inr a=>v=.ref a/\M a ≠ none
def Vj (H:Hp)(O:Own)(M:MH)(xs:List V)(l:List (Dat ⊕ aE)):Prop:=xs.length=l.length/\∀ (i:Nat) x d,xs[i]?=some x->l[i]?=some d->Lj H O M x d
noncomputable def zo (H:Hp)(O:Own)(M:MH)(v:V):AV->Prop
 | .d x=>Rep H O v x
 | .ref a=>v=.ref a/\M a ≠ none
 | .tp l=>∃ a xs,v=.ref a/\¬ O a/\H a=some (.tup xs)/\Vj H O M xs l
theorem zo.has {H:Hp}{O:Own}{M:MH}{v:V}{x:AV}{r:aE}(h:zo H O M v x)(k:x.Has r):M r ≠ none:=by
 cases x with
 | d x=>exact k.elim
 | ref a=>cases k;exact h.2
 | tp l=>
  obtain ⟨a,xs,_,_,_,h⟩:=h
  obtain ⟨i,hi⟩:=df k
  obtain ⟨y,hy⟩:∃ y,xs[i]?=some y:=⟨_,aq (by rw [h.1];exact (aP.mp hi).1)⟩
  exact (h.2 i y _ hy hi).2
def zh (H:Hp)(O:Own)(M:MH)(xs:List V)(l:List AV):Prop:=xs.length=l.length/\∀ (i:Nat) x d,xs[i]?=some x->l[i]?=some d->zo H O M x d
def jK {κ:Type}(H:Hp)(O:Own)(M:MH)(xs:List (κ × V))(l:List (κ × AV)):Prop:=xs.map (·.1)=l.map (·.1)/\zh H O M (xs.map (·.2)) (l.map (·.2))
noncomputable def qA (H:Hp)(O:Own)(M:MH)(a:aE):MO->Prop
 | .lst l=>∃ xs,H a=some (.lst xs)/\zh H O M xs l
 | .dK kvs=>∃ xs,H a=some (.dK xs)/\jK H O M xs kvs
 | .dT kvs=>∃ xs,H a=some (.dT xs)/\jK H O M xs kvs
 | .dN kvs=>∃ xs,H a=some (DN a xs)/\jK H O M (xs.map fun x=>(x.1,x.2.2)) kvs/\∀ x ∈ xs,XC H O x.2.1 x.1
 | .ins C fs=>∃ dx xs,H a=some (.ins C dx xs)/\jK H O M xs fs/\O dx/\M dx=none/\H dx=some (.own a)
 | .exc C fs=>∃ d,H a=some (Z4 a C d)/\(d=none/\fs=[] \/ ∃ dx,d=some dx/\H dx=some (.xd fs)/\O dx/\M dx=none)
 | .tb R=>∃ ps,H a=some (.tbl ps)/\(ps=#[] \/ ∃ c oc u,R ps c oc/\¬ O c/\H c=some (.frz oc u))
structure Wf (H:Hp)(O:Own)(M:MH):Prop where
 mo:∀ a o,M a=some o->qA H O M a o
 own:∀ a,M a ≠ none->O a
 al:∀ a,O a->∃ o,H a=some o/\∀ xs,o ≠ .tup xs
variable {O:Own}
theorem Wf.ne (w:Wf H O M)(a:aE)(h:O a):H a ≠ none:=by obtain ⟨o,e,_⟩:=w.al a h;rw [e];exact fun z=>nomatch z
structure Ext (H:Hp)(O:Own)(M:MH)(H':Hp)(O':Own)(M':MH):Prop where
 fix:∀ a o,¬ O a->H a=some o->H' a=some o/\¬ O' a
 prv:∀ a,O a->M a=none->H' a=H a/\O' a/\M' a=none
 mst:∀ a,M a ≠ none->M' a ≠ none
theorem Ext.refl:Ext H O M H O M:=⟨fun _ _ h e=>⟨e,h⟩,fun _ h e=>⟨rfl,h,e⟩,fun _ h=>h⟩
variable {O1 O2:Own}
theorem Ext.trans {M M1 M2:MH}(a:Ext H O M H1 O1 M1)(b:Ext H1 O1 M1 H2 O2 M2):Ext H O M H2 O2 M2:=
 ⟨fun x o h e=>let ⟨e1,h1⟩:=a.fix x o h e;b.fix x o h1 e1,fun x h e=>by
  obtain ⟨e1,h1,n1⟩:=a.prv x h e
  obtain ⟨e2,h2,n2⟩:=b.prv x h1 n1
  exact ⟨e2.trans e1,h2,n2⟩,fun x h=>b.mst x (a.mst x h)⟩
theorem Rep.imp {H H':Hp}{O O':Own}(k:∀ a o,¬ O a->H a=some o->H' a=some o/\¬ O' a){v:V}{d:Dat}(r:Rep H O v d):Rep H' O' v d:=by
 induction r with
 | non=>exact .non
 | bl=>exact .bl
 | int=>exact .int
 | str=>exact .str
 | ty=>exact .ty
 | lst h e l _ ih=>exact .lst (k _ _ h e).2 (k _ _ h e).1 l ih
 | tup h e l _ ih=>exact .tup (k _ _ h e).2 (k _ _ h e).1 l ih
 | rng h e=>exact .rng (k _ _ h e).2 (k _ _ h e).1
 | scr h e=>
  rcases e with e | ⟨o,e⟩
  ·exact .scr (k _ _ h e).2 (.inl (k _ _ h e).1)
  ·exact .scr (k _ _ h e).2 (.inr ⟨o,(k _ _ h e).1⟩)
 | scrK h=>exact .scrK h
theorem Xg {H:Hp}{O:Own}{K:au}{v:V}{l:List Int}(r:Rep H O v (.scr K l)):∃ a,v=.ref a/\SqL K H a (l.map V.int):=by
 cases r with
 | @scr a _ _ _ h=>exact ⟨a,rfl,.inl h⟩
 | @scrK a _ _ h=>
  rcases h with (h | ⟨o,h⟩) | h
  ·cases h
  ·cases h
  ·exact ⟨a,rfl,.inr h⟩
theorem B2 {l:List Int}(ho:∀ a,¬ O a)(h:SqL K H a (l.map V.int)):Rep H O (.ref a) (.scr K l):=by
 rcases h with h | h
 ·exact .scr (ho a) h
 ·exact .scrK (.inr h)
theorem XC.imp {O O':aE->Prop}(k:∀ a o,¬ O a->H a=some o->H' a=some o/\¬ O' a) {x:NK}(r:XC H O b x):XC H' O' b x:=by
 obtain ⟨h1,c,h2,e1,e2⟩:=r
 exact ⟨(k _ _ h1 e1).2,c,(k _ _ h2 e2).2,(k _ _ h1 e1).1,(k _ _ h2 e2).1⟩
variable {O':Own} {M':MH} {v:V} {d:Dat}
theorem Rep.ext (k:Ext H O M H' O' M') (r:Rep H O v d):Rep H' O' v d:=r.imp k.fix
theorem zo.impT {H H':Hp}{O O':Own}{M M':MH}(k:∀ a o,¬ O a->H a=some o->H' a=some o/\¬ O' a){l:List (Dat ⊕ aE)}(hm:∀ a,M a ≠ none->M' a ≠ none){v:V}(r:zo H O M v (.tp l)):zo H' O' M' v (.tp l):=by
 obtain ⟨a,xs,h1,h2,h3,h4,h5⟩:=r
 refine ⟨a,xs,h1,(k _ _ h2 h3).2,(k _ _ h2 h3).1,h4,fun i x d e1 e2=>?_⟩
 have:=h5 i x d e1 e2
 cases d with
 | inl d=>exact Rep.imp k this
 | inr q=>exact ⟨this.1,hm q this.2⟩
theorem zo.ext {H H':Hp}{O O':Own}{M M':MH}(k:Ext H O M H' O' M'){v:V}{x:AV}(r:zo H O M v x):zo H' O' M' v x:=by
 cases x with
 | d x=>exact Rep.ext k r
 | ref a=>exact ⟨r.1,k.mst a r.2⟩
 | tp l=>exact r.impT k.fix k.mst
variable {l:List AV}
theorem zh.ext (k:Ext H O M H' O' M') (r:zh H O M xs l):zh H' O' M' xs l:=⟨r.1,fun i x d e1 e2=>(r.2 i x d e1 e2).ext k⟩
theorem jK.ext {κ:Type} (k:Ext H O M H' O' M'){xs:List (κ × V)}{l:List (κ × AV)}(r:jK H O M xs l):jK H' O' M' xs l:=⟨r.1,r.2.ext k⟩
theorem zh.nil:zh H O M [] []:=⟨rfl,fun i x d e=>by simp at e⟩
theorem zh.cons {x:V}{d:AV} (h:zo H O M x d)(r:zh H O M xs l):zh H O M (x :: xs) (d :: l):=
 ⟨by simp [r.1],fun i y e h1 h2=>by
  cases i with
  | zero=>simp at h1 h2;subst h1 h2;exact h
  | succ i=>simp at h1 h2;exact r.2 i y e h1 h2⟩
theorem zh.head {x:V}{d:AV} (r:zh H O M (x :: xs) (d :: l)):zo H O M x d/\zh H O M xs l:=
 ⟨r.2 0 x d rfl rfl,by have:=r.1;simpa using this,fun i y e h1 h2=>r.2 (i+1) y e (by simpa using h1) (by simpa using h2)⟩
theorem zh.nil_inv (r:zh H O M xs []):xs=[]:=fv.mp r.1
theorem zh.cons_inv {H:Hp}{O:Own}{M:MH}{xs:List V}{d:AV}{l:List AV}(r:zh H O M xs (d :: l)):∃ x r',xs=x :: r'/\zo H O M x d/\zh H O M r' l:=by
 cases xs with
 | nil=>have:=r.1;simp at this
 | cons x r'=>exact ⟨x,r',rfl,r.head⟩
variable {ys:List V}
theorem zh.append {l m:List AV}(a:zh H O M xs l)(b:zh H O M ys m):zh H O M (xs ++ ys) (l ++ m):=
 ⟨by rw [aQ,aQ,a.1,b.1],fun i x d h1 h2=>by
  by_cases c:i<xs.length
  ·rw [cy c] at h1
   rw [cy (by rw [<- a.1];exact c)] at h2
   exact a.2 i x d h1 h2
  ·rw [cO (by omega)] at h1
   rw [cO (by rw [<- a.1];omega),<- a.1] at h2
   exact b.2 _ x d h1 h2⟩
theorem zh.snoc {x:V}{d:AV}(a:zh H O M xs l)(b:zo H O M x d):zh H O M (xs ++ [x]) (l ++ [d]):=a.append (.cons b .nil)
theorem zh.set {x:V}{d:AV}(a:zh H O M xs l)(b:zo H O M x d)(j:Nat):zh H O M (xs.set j x) (l.set j d):=
 ⟨by rw [bT,bT,a.1],fun i y e h1 h2=>by
  rw [cB] at h1 h2
  by_cases c:j=i
  ·rw [if_pos c] at h1 h2
   split at h1
   ·split at h2
    ·cases h1;cases h2;exact b
    ·cases h2
   ·cases h1
  ·rw [if_neg c] at h1 h2
   exact a.2 i y e h1 h2⟩
theorem zh.get (a:zh H O M xs l) {d:AV}(h:l[i]?=some d):∃ x,xs[i]?=some x/\zo H O M x d:=by
 have hi:=(aP.mp h).1
 have hx:i<xs.length:=by rw [a.1];exact hi
 exact ⟨xs[i],by simp [hx],a.2 i _ _ (by simp [hx]) h⟩
theorem zh.drop (a:zh H O M xs l)(k:Nat):zh H O M (xs.drop k) (l.drop k):=
 ⟨by rw [cW,cW,a.1],fun i x d h1 h2=>by rw [lR] at h1 h2;exact a.2 _ x d h1 h2⟩
theorem zh.take (a:zh H O M xs l)(k:Nat):zh H O M (xs.take k) (l.take k):=
 ⟨by rw [ca,ca,a.1],fun i x d h1 h2=>by
  rw [List.getElem?_take] at h1 h2
  by_cases c:i<k
  ·rw [if_pos c] at h1 h2
   exact a.2 _ x d h1 h2
  ·rw [if_neg c] at h1
   cases h1⟩
theorem JZ.av {l:List Dat}(r:JZ H O xs l):zh H O M xs (l.map .d):=
 ⟨by rw [ap];exact r.1,fun i x d h1 h2=>by
  rw [aK] at h2
  cases e:l[i]? with
  | none=>rw [e] at h2;cases h2
  | some y=>rw [e] at h2;cases h2;exact r.2 i x y h1 e⟩
theorem zh.pure {l:List Dat}(r:zh H O M xs (l.map .d)):JZ H O xs l:=
 ⟨by have:=r.1;rwa [ap] at this,fun i x d h1 h2=>r.2 i x (.d d) h1 (by rw [aK,h2];rfl)⟩
theorem Wf.fresh (w:Wf H O M) (h:H p=none):¬ O p/\M p=none:=by
 have:¬ O p:=fun z=>w.ne p z h
 exact ⟨this,by
  cases e:M p with
  | none=>rfl
  | some o=>exact absurd (w.own p (by rw [e];exact fun z=>nomatch z)) this⟩
theorem qA.ext {H H':Hp}{O O':Own}{M M':MH}(k:Ext H O M H' O' M'){a:aE}{o:MO}(e:H' a=H a)(r:qA H O M a o):qA H' O' M' a o:=by
 cases o with
 | lst l=>obtain ⟨xs,h,r⟩:=r;exact ⟨xs,e.trans h,r.ext k⟩
 | dK l=>obtain ⟨xs,h,r⟩:=r;exact ⟨xs,e.trans h,r.ext k⟩
 | dT l=>obtain ⟨xs,h,r⟩:=r;exact ⟨xs,e.trans h,r.ext k⟩
 | dN l=>obtain ⟨xs,h,r,p⟩:=r;exact ⟨xs,e.trans h,r.ext k,fun x hx=>(p x hx).imp k.fix⟩
 | ins C fs=>obtain ⟨dx,xs,h,r,q1,q2,q3⟩:=r;obtain ⟨x1,x2,x3⟩:=k.prv dx q1 q2;exact ⟨dx,xs,e.trans h,r.ext k,x2,x3,x1.trans q3⟩
 | exc C fs=>
  obtain ⟨d,h,r⟩:=r
  refine ⟨d,e.trans h,?_⟩
  rcases r with r | ⟨dx,e1,h1,h2,h3⟩
  ·exact .inl r
  ·obtain ⟨x1,x2,x3⟩:=k.prv dx h2 h3;exact .inr ⟨dx,e1,x1.trans h1,x2,x3⟩
 | tb R=>obtain ⟨ps,h,r⟩:=r;exact ⟨ps,e.trans h,r.imp id fun ⟨c,oc,u,h1,h2,h3⟩=>⟨c,oc,u,h1,(k.fix c _ h2 h3).2,(k.fix c _ h2 h3).1⟩⟩
theorem qx (w:Wf H O M) (h:H p=none)(o:HO):Ext H O M (upd H p o) O M:=
 ⟨fun a u ha e=>⟨by rw [zg (zj e h)];exact e,ha⟩,fun a ha e=>⟨zg (fun z=>w.ne a ha (by rw [z];exact h)),ha,e⟩,fun _ h=>h⟩
theorem xS (w:Wf H O M) (h:H p=none)(o:HO):Wf (upd H p o) O M:=
 ⟨fun a mo e=>qA.ext (qx w h o) (zg (fun z=>by rw [z,(w.fresh h).2] at e;cases e)) (w.mo a mo e),w.own,fun a ha=>by
  have:a ≠ p:=fun z=>w.ne a ha (by rw [z];exact h)
  rw [zg this];exact w.al a ha⟩
noncomputable def xi (O:Own)(p:aE):Own:=fun a=>a=p \/ O a
noncomputable def EI (O:Own)(p:aE):Own:=fun a=>a ≠ p/\O a
theorem Zl (w:Wf H O M) (h:H p=none)(o:HO)(mo:MO):Ext H O M (upd H p o) (xi O p) (mup M p mo):=
 ⟨fun a u ha e=>⟨by rw [zg (zj e h)];exact e,fun z=>z.elim (zj e h) ha⟩,fun a ha e=>by
  have hne:a ≠ p:=fun z=>w.ne a ha (by rw [z];exact h)
  exact ⟨zg hne,.inr ha,by rw [zG hne];exact e⟩,fun a ha=>by
  by_cases e:a=p
  ·rw [e,zq];exact fun z=>nomatch z
  ·rw [zG e];exact ha⟩
variable {mo:MO}
theorem Wp (w:Wf H O M) (h:H p=none) (ho:∀ xs,o ≠ .tup xs)(r:qA (upd H p o) (xi O p) (mup M p mo) p mo):Wf (upd H p o) (xi O p) (mup M p mo):=by
 refine ⟨fun a u e=>?_,fun a ha=>?_,fun a ha=>?_⟩
 ·by_cases c:a=p
  ·subst c;rw [zq] at e;cases e;exact r
  ·rw [zG c] at e
   exact qA.ext (Zl w h o mo) (zg c) (w.mo a u e)
 ·by_cases c:a=p
  ·exact .inl c
  ·rw [zG c] at ha;exact .inr (w.own a ha)
 ·by_cases c:a=p
  ·rw [c,zi];exact ⟨o,rfl,ho⟩
  ·rw [zg c];exact w.al a (ha.resolve_left c)
theorem kF (w:Wf H O M) (h:M p ≠ none)(o:HO)(mo:MO):Ext H O M (upd H p o) O (mup M p mo):=
 ⟨fun a u ha e=>⟨by rw [zg (fun z=>ha (by rw [z];exact w.own p h))];exact e,ha⟩,fun a ha e=>by
  have hne:a ≠ p:=fun z=>h (by rw [<- z];exact e)
  exact ⟨zg hne,ha,by rw [zG hne];exact e⟩,fun a ha=>by
  by_cases e:a=p
  ·rw [e,zq];exact fun z=>nomatch z
  ·rw [zG e];exact ha⟩
theorem JA (w:Wf H O M) (h:M p ≠ none) (ho:∀ xs,o ≠ .tup xs)(r:qA (upd H p o) O (mup M p mo) p mo):Wf (upd H p o) O (mup M p mo):=by
 refine ⟨fun a u e=>?_,fun a ha=>?_,fun a ha=>?_⟩
 ·by_cases c:a=p
  ·subst c;rw [zq] at e;cases e;exact r
  ·rw [zG c] at e
   exact qA.ext (kF w h o mo) (zg c) (w.mo a u e)
 ·by_cases c:a=p
  ·subst c;exact w.own a h
  ·rw [zG c] at ha;exact w.own a ha
 ·by_cases c:a=p
  ·rw [c,zi];exact ⟨o,rfl,ho⟩
  ·rw [zg c];exact w.al a ha
theorem qw (w:Wf H O M) (h:H p=none)(o:HO):Ext H O M (upd H p o) (xi O p) M:=
 ⟨fun a u ha e=>⟨by rw [zg (zj e h)];exact e,fun z=>z.elim (zj e h) ha⟩,fun a ha e=>by
  have hne:a ≠ p:=fun z=>w.ne a ha (by rw [z];exact h)
  exact ⟨zg hne,.inr ha,e⟩,fun _ h=>h⟩
theorem kU (w:Wf H O M) (h:H p=none)(o:HO)(ho:∀ xs,o ≠ .tup xs):Wf (upd H p o) (xi O p) M:=
 ⟨fun a mo e=>qA.ext (qw w h o) (zg (fun z=>by rw [z,(w.fresh h).2] at e;cases e)) (w.mo a mo e),fun a ha=>.inr (w.own a ha),fun a ha=>by
  by_cases c:a=p
  ·rw [c,zi];exact ⟨o,rfl,ho⟩
  ·rw [zg c];exact w.al a (ha.resolve_left c)⟩
theorem yG (hO:O p)(o:HO):∀ a u,¬ O a->H a=some u->upd H p o a=some u/\¬ O a:=fun a u ha e=>⟨by rw [zg (fun z=>ha (by rw [z];exact hO))];exact e,ha⟩
theorem zo.imp {H H':Hp}{O O':Own}{M M':MH}(k:∀ a o,¬ O a->H a=some o->H' a=some o/\¬ O' a)(hm:∀ a,M a ≠ none->M' a ≠ none){v:V}{x:AV}(r:zo H O M v x):zo H' O' M' v x:=by
 cases x with
 | d x=>exact Rep.imp k r
 | ref a=>exact ⟨r.1,hm a r.2⟩
 | tp l=>exact r.impT k hm
theorem zh.imp (k:∀ a o,¬ O a->H a=some o->H' a=some o/\¬ O' a)(hm:∀ a,M a ≠ none->M' a ≠ none) (r:zh H O M xs l):zh H' O' M' xs l:=⟨r.1,fun i x d e1 e2=>(r.2 i x d e1 e2).imp k hm⟩
theorem qA.imp {H H':Hp}{O O':Own}{M:MH}(k:∀ a o,¬ O a->H a=some o->H' a=some o/\¬ O' a){a:aE}{o:MO}(e:H' a=H a)(hd:∀ dx x,O dx->M dx=none->H dx=some x->((∃ b,x=.own b) \/ ∃ fs,x=.xd fs)->H' dx=some x/\O' dx)(r:qA H O M a o):qA H' O' M a o:=by
 cases o with
 | lst l=>obtain ⟨xs,h,r⟩:=r;exact ⟨xs,e.trans h,r.imp k fun _ z=>z⟩
 | dK l=>obtain ⟨xs,h,r⟩:=r;exact ⟨xs,e.trans h,r.1,r.2.imp k fun _ z=>z⟩
 | dT l=>obtain ⟨xs,h,r⟩:=r;exact ⟨xs,e.trans h,r.1,r.2.imp k fun _ z=>z⟩
 | dN l=>obtain ⟨xs,h,r,p⟩:=r;exact ⟨xs,e.trans h,⟨r.1,r.2.imp k fun _ z=>z⟩,fun x hx=>(p x hx).imp k⟩
 | ins C fs=>obtain ⟨dx,xs,h,r,q1,q2,q3⟩:=r;exact ⟨dx,xs,e.trans h,⟨r.1,r.2.imp k fun _ z=>z⟩,(hd dx _ q1 q2 q3 (.inl ⟨_,rfl⟩)).2,q2,(hd dx _ q1 q2 q3 (.inl ⟨_,rfl⟩)).1⟩
 | exc C fs=>
  obtain ⟨d,h,r⟩:=r
  refine ⟨d,e.trans h,?_⟩
  rcases r with r | ⟨dx,e1,h1,h2,h3⟩
  ·exact .inl r
  ·obtain ⟨x1,x2⟩:=hd dx _ h2 h3 h1 (.inr ⟨_,rfl⟩);exact .inr ⟨dx,e1,x1,x2,h3⟩
 | tb R=>obtain ⟨ps,h,r⟩:=r;exact ⟨ps,e.trans h,r.imp id fun ⟨c,oc,u,h1,h2,h3⟩=>⟨c,oc,u,h1,(k c _ h2 h3).2,(k c _ h2 h3).1⟩⟩
theorem Kw (w:Wf H O M) (hO:O p)(hM:M p=none) (hp:H p=some (.lst xs))(o:HO)(ho:∀ xs,o ≠ .tup xs):Wf (upd H p o) O M:=
 ⟨fun a mo e=>qA.imp (yG hO o) (zg (fun z=>by rw [z,hM] at e;cases e)) (fun dx x h1 _ h3 h4=>⟨by rw [zg (KL h3 hp (by rcases h4 with ⟨_,rfl⟩ | ⟨_,rfl⟩ <;> exact fun z=>nomatch z))];exact h3,h1⟩) (w.mo a mo e),w.own,fun a ha=>by
  by_cases c:a=p
  ·rw [c,zi];exact ⟨o,rfl,ho⟩
  ·rw [zg c];exact w.al a ha⟩
theorem xJ (p:aE):∀ a u,¬ O a->H a=some u->H a=some u/\¬ EI O p a:=fun a u ha e=>⟨e,fun z=>ha z.2⟩
theorem Aw (w:Wf H O M) (hM:M p=none) (hp:H p=some (.lst xs)):Wf H (EI O p) M:=
 ⟨fun a mo e=>qA.imp (xJ p) rfl (fun dx x h1 _ h3 h4=>⟨h3,⟨KL h3 hp (by rcases h4 with ⟨_,rfl⟩ | ⟨_,rfl⟩ <;> exact fun z=>nomatch z),h1⟩⟩) (w.mo a mo e),fun a ha=>⟨fun z=>ha (by rw [z];exact hM),w.own a ha⟩,fun a ha=>w.al a ha.2⟩
abbrev AK:=AV->MH->Prop
abbrev AE:=ASt->MH->AK->Prop
abbrev AT:=ASt->MH->(Bool->MH->Prop)->Prop
abbrev AA:=ASt->MH->(List AV->MH->Prop)->Prop
structure kM where
 nx:ASt->MH->Prop
 rt:AK
 bk:ASt->MH->Prop:=fun _ _=>False
 ct:ASt->MH->Prop:=fun _ _=>False
abbrev AS:=MH->kM->ASt->MH->Prop
abbrev AG:=AV->ASt->MH->(ASt->MH->Prop)->Prop
abbrev AGs:=List AV->ASt->MH->(ASt->MH->Prop)->Prop
abbrev AI:=ASt->MH->(List AV->(MH->Prop)->MH->Prop)->Prop
structure Er (H:Hp)(O:Own)(M:MH)(σ:St)(ρ:ASt):Prop where
 len:σ.length=ρ.length
 get:∀ (i:Nat) x,ρ[i]?=some (some x)->∃ v,σ[i]?=some (some v)/\zo H O M v x
variable {ρ:ASt}
theorem Er.ext (e:Er H O M σ ρ)(k:Ext H O M H' O' M'):Er H' O' M' σ ρ:=⟨e.len,fun i x h=>let ⟨v,h1,h2⟩:=e.get i x h;⟨v,h1,h2.ext k⟩⟩
theorem Er.set (e:Er H O M σ ρ) {x:AV}(r:zo H O M v x)(j:Nat):Er H O M (σ.set j (some v)) (ρ.set j (some x)):=
 ⟨by rw [bT,bT,e.len],fun i y h=>by
  rw [cB] at h ⊢
  by_cases c:j=i
  ·rw [if_pos c] at h ⊢
   by_cases c2:j<ρ.length
   ·rw [if_pos c2] at h;rw [if_pos (by rw [e.len];exact c2)];cases h;exact ⟨v,rfl,r⟩
   ·rw [if_neg c2] at h;cases h
  ·rw [if_neg c] at h ⊢;exact e.get i y h⟩
noncomputable def Ds:List Nat->ASt->ASt
 | [],σ=>σ
 | j :: r,σ=>Ds r (σ.set j none)
theorem Er.clr {H:Hp}{O:Own}{M:MH}:∀ (ts:List Nat) {σ:St} {ρ:ASt},Er H O M σ ρ->Er H O M (clr ts σ) (Ds ts ρ)
  | [],_,_,e=>e
  | j :: r, σ, ρ, e => Er.clr r ⟨by rw [bT, bT, e.len], fun i y h => by
      rw [cB] at h ⊢
      by_cases c:j=i
      · rw [if_pos c] at h
        split at h <;> cases h
      · rw [if_neg c] at h ⊢;exact e.get i y h⟩
structure zz (t:TE)(a:AE):Prop where
 go:∀ {σ:St} {H:Hp} {O:Own} {ρ:ASt} {M:MH} {Q:VK} {Q':AK},Wf H O M->Er H O M σ ρ->a ρ M Q'->(∀ x M' v H' O',Q' x M'->Ext H O M H' O' M'->Wf H' O' M'->zo H' O' M' v x->Q v H')->t σ H Q
structure j9 (t:TT)(a:AT):Prop where
 go:∀ {σ:St} {H:Hp} {O:Own} {ρ:ASt} {M:MH} {Q:Bool->Hp->Prop} {Q':Bool->MH->Prop},Wf H O M->Er H O M σ ρ->a ρ M Q'->(∀ b M' H' O',Q' b M'->Ext H O M H' O' M'->Wf H' O' M'->Q b H')->t σ H Q
structure qW (t:TA)(a:AA):Prop where
 go:∀ {σ:St} {H:Hp} {O:Own} {ρ:ASt} {M:MH} {Q:List V->Hp->Prop} {Q':List AV->MH->Prop},Wf H O M->Er H O M σ ρ->a ρ M Q'->(∀ x M' v H' O',Q' x M'->Ext H O M H' O' M'->Wf H' O' M'->zh H' O' M' v x->Q v H')->t σ H Q
structure Qu (t:TE)(a:ASt->MH->(List AV->MH->Prop)->Prop):Prop where
 go:∀ {σ:St} {H:Hp} {O:Own} {ρ:ASt} {M:MH} {Q:VK} {Q':List AV->MH->Prop},Wf H O M->Er H O M σ ρ->a ρ M Q' ->
  (∀ l M' p xs H' O',Q' l M'->Ext H O M H' O' M'->Wf H' O' M'->O' p->M' p=none->H p=none->H' p=some (.lst xs)->zh H' O' M' xs l->Q (.ref p) H')->t σ H Q
abbrev AR2:=AV->AV->MH->AK->Prop
structure xZ (r:R2)(a:AR2):Prop where
 go:∀ {x y:V} {dx dy:AV} {H:Hp} {O:Own} {M:MH} {Q:VK} {Q':AK},Wf H O M->zo H O M x dx->zo H O M y dy->a dx dy M Q'->(∀ x M' v H' O',Q' x M'->Ext H O M H' O' M'->Wf H' O' M'->zo H' O' M' v x->Q v H')->r x y H Q
structure LH (r:V->Hp->VK->Prop)(a:AV->MH->AK->Prop):Prop where
 go:∀ {x:V} {dx:AV} {H:Hp} {O:Own} {M:MH} {Q:VK} {Q':AK},Wf H O M->zo H O M x dx->a dx M Q'->(∀ x M' v H' O',Q' x M'->Ext H O M H' O' M'->Wf H' O' M'->zo H' O' M' v x->Q v H')->r x H Q
structure xp (r:List V->Hp->VK->Prop)(a:List AV->MH->AK->Prop):Prop where
 go:∀ {vs:List V} {xs:List AV} {H:Hp} {O:Own} {M:MH} {Q:VK} {Q':AK},Wf H O M->zh H O M vs xs->a xs M Q'->(∀ x M' v H' O',Q' x M'->Ext H O M H' O' M'->Wf H' O' M'->zo H' O' M' v x->Q v H')->r vs H Q
noncomputable def QS (i:Nat):AE:=fun ρ M Q=>∃ x,ρ[i]?=some (some x)/\Q x M
noncomputable def aC (d:Dat):AE:=fun _ M Q=>Q (.d d) M
theorem Ec:zz (XR i) (QS i):=⟨fun w e ⟨x,h,q⟩ k=>let ⟨v,h1,h2⟩:=e.get i x h;⟨v,h1,k _ _ _ _ _ q .refl w h2⟩⟩
theorem HN {i:Int}:zz (tC (.int i)) (aC (.int i)):=⟨fun w _ q k=>k _ _ _ _ _ q .refl w .int⟩
theorem GF {i:Bool}:zz (tC (.bl i)) (aC (.bl i)):=⟨fun w _ q k=>k _ _ _ _ _ q .refl w .bl⟩
theorem HL:zz (tC .non) (aC .non):=⟨fun w _ q k=>k _ _ _ _ _ q .refl w .non⟩
theorem Hh {i:Str}:zz (tC (.str i)) (aC (.str i)):=⟨fun w _ q k=>k _ _ _ _ _ q .refl w .str⟩
theorem HQ {i:String}:zz (tC (.ty i)) (aC (.ty i)):=⟨fun w _ q k=>k _ _ _ _ _ q .refl w .ty⟩
noncomputable def aOp (r:AR2)(a b:AE):AE:=fun ρ M Q=>a ρ M fun x M1=>b ρ M1 fun y M2=>r x y M2 Q
theorem Gk {ra:AR2}{t u:TE}{a b:AE}(hr:xZ r ra)(h1:zz t a)(h2:zz u b):zz (tOp r t u) (aOp ra a b):=
 ⟨fun w e q k=>h1.go w e q fun x M1 v H1 O1 q1 k1 w1 r1=>h2.go w1 (e.ext k1) q1 fun y M2 u H2 O2 q2 k2 w2 r2=>hr.go w2 (r1.ext k2) r2 q2 fun z M3 v3 H3 O3 q3 k3 w3 r3=>k z M3 v3 H3 O3 q3 ((k1.trans k2).trans k3) w3 r3⟩
noncomputable def aUn (r:AV->MH->AK->Prop)(a:AE):AE:=fun ρ M Q=>a ρ M fun x M1=>r x M1 Q
theorem GQ {r:V->Hp->VK->Prop}{ra:AV->MH->AK->Prop}{t:TE}{a:AE}(hr:LH r ra)(h1:zz t a):zz (tUn r t) (aUn ra a):=
 ⟨fun w e q k=>h1.go w e q fun x M1 v H1 O1 q1 k1 w1 r1=>hr.go w1 r1 q1 fun z M3 v3 H3 O3 q3 k3 w3 r3=>k z M3 v3 H3 O3 q3 (k1.trans k3) w3 r3⟩
noncomputable def Jy:AA:=fun _ M Q=>Q [] M
noncomputable def xh (a:AE)(b:AA):AA:=fun ρ M Q=>a ρ M fun x M1=>b ρ M1 fun xs M2=>Q (x :: xs) M2
theorem Xp:qW Qv Jy:=⟨fun w _ q k=>k _ _ _ _ _ q .refl w .nil⟩
variable {u:TA}
theorem V6 {t:TE} {a:AE}{b:AA}(h1:zz t a)(h2:qW u b):qW (vA t u) (xh a b):=
 ⟨fun w e q k=>h1.go w e q fun x M1 v H1 O1 q1 k1 w1 r1=>h2.go w1 (e.ext k1) q1 fun y M2 u H2 O2 q2 k2 w2 r2=>k _ _ _ _ _ q2 (k1.trans k2) w2 (.cons (r1.ext k2) r2)⟩
theorem Jv {H:Hp}{O:Own}{M:MH}(is:List Int):zh H O M (is.map V.int) (is.map fun i=>.d (.int i)):=by
 induction is with
 | nil=>exact .nil
 | cons i r ih=>exact .cons .int ih
noncomputable def aCB (r:List AV->MH->AK->Prop)(b:AA):AE:=fun ρ M Q=>b ρ M fun xs M1=>r xs M1 Q
theorem Gn {r:List V->Hp->VK->Prop}{ra:List AV->MH->AK->Prop} {b:AA}(hr:xp r ra)(h2:qW u b):zz (tCB r u) (aCB ra b):=
 ⟨fun w e q k=>h2.go w e q fun x M1 v H1 O1 q1 k1 w1 r1=>hr.go w1 r1 q1 fun z M3 v3 H3 O3 q3 k3 w3 r3=>k z M3 v3 H3 O3 q3 (k1.trans k3) w3 r3⟩
abbrev ASp:=List AV->MH->AK->Prop
noncomputable def cSp (a:ASp):Sp:=fun vs H Q _=>∃ xs M O Q',Wf H O M/\zh H O M vs xs/\a xs M Q'/\∀ x M' v H' O',Q' x M'->Ext H O M H' O' M'->Wf H' O' M'->zo H' O' M' v x->Q v H'
noncomputable def VA (sp:ASp)(b:AA):AE:=fun ρ M Q=>b ρ M fun xs M1=>sp xs M1 Q
theorem VY {sp:ASp} {b:AA}(h:qW u b):zz (Xm (cSp sp) [] E0 u) (VA sp b):=
 ⟨fun w e q k=>h.go w e q fun x M1 v H1 O1 q1 k1 w1 r1=>⟨x,M1,O1,_,w1,by rw [b9];exact r1,q1,fun z M3 v3 H3 O3 q3 k3 w3 r3=>k z M3 v3 H3 O3 q3 (k1.trans k3) w3 r3⟩⟩
noncomputable def pur:List AV->Option (List Dat)
 | []=>some []
 | .d x :: r=>match pur r with | some l=>some (x :: l) | none=>none
 | .ref _ :: _=>none
 | .tp _ :: _=>none
theorem DE:pur []=some []:=rfl
theorem Aa {x:Dat}{r:List AV}{l:List Dat}(h:pur r=some l):pur (.d x :: r)=some (x :: l):=by unfold pur;rw [h]
theorem qd (l:List Dat):pur (l.map .d)=some l:=by
 induction l with
 | nil=>rfl
 | cons x r ih=>exact Aa ih
theorem jA:∀ {xs:List AV} {l:List Dat},pur xs=some l->xs=l.map .d
 | [],l,h=>by cases h;rfl
 | .d x :: r,l,h=>by
  unfold pur at h
  cases e:pur r with
  | none=>rw [e] at h;cases h
  | some m=>rw [e] at h;cases h;rw [jA e];rfl
 | .ref _ :: _,_,h=>by cases h
 | .tp _ :: _,_,h=>by cases h
theorem Ext.shown (w:Wf H O M)(k:Ext H O M H' O' M')(h:H p=none):Ext H O M H' (EI O' p) M':=
 ⟨fun a o ha e=>⟨(k.fix a o ha e).1,fun z=>(k.fix a o ha e).2 z.2⟩,fun a ha e=>⟨(k.prv a ha e).1,⟨fun z=>w.ne a ha (by rw [z];exact h),(k.prv a ha e).2.1⟩,(k.prv a ha e).2.2⟩,k.mst⟩
theorem Ext.owned (w:Wf H O M)(k:Ext H O M H' O' M')(h:H p=none)(mo:MO):Ext H O M H' O' (mup M' p mo):=
 ⟨k.fix,fun a ha e=>⟨(k.prv a ha e).1,(k.prv a ha e).2.1,by rw [zG (fun z=>w.ne a ha (by rw [z];exact h))];exact (k.prv a ha e).2.2⟩,fun a ha=>by
  by_cases e:a=p
  ·rw [e,zq];exact fun z=>nomatch z
  ·rw [zG e];exact k.mst a ha⟩
theorem Je (w:Wf H O M)(hO:O p)(hM:M p=none) (hp:H p=some (.lst xs))(r:zh H O M xs l):Wf H O (mup M p (.lst l)):=by
 have km:∀ a,M a ≠ none->mup M p (.lst l) a ≠ none:=fun a ha=>by
  by_cases e:a=p
  ·rw [e,zq];exact fun z=>nomatch z
  ·rw [zG e];exact ha
 refine ⟨fun a u e=>?_,fun a ha=>?_,w.al⟩
 ·by_cases c:a=p
  ·subst c;rw [zq] at e;cases e;exact ⟨xs,hp,r.imp (fun _ _ z h=>⟨h,z⟩) km⟩
  ·rw [zG c] at e
   have:=w.mo a u e
   cases u with
   | lst m=>obtain ⟨ys,h1,h2⟩:=this;exact ⟨ys,h1,h2.imp (fun _ _ z h=>⟨h,z⟩) km⟩
   | dK m=>obtain ⟨ys,h1,h2⟩:=this;exact ⟨ys,h1,h2.1,h2.2.imp (fun _ _ z h=>⟨h,z⟩) km⟩
   | dT m=>obtain ⟨ys,h1,h2⟩:=this;exact ⟨ys,h1,h2.1,h2.2.imp (fun _ _ z h=>⟨h,z⟩) km⟩
   | dN m=>obtain ⟨ys,h1,h2,h3⟩:=this;exact ⟨ys,h1,⟨h2.1,h2.2.imp (fun _ _ z h=>⟨h,z⟩) km⟩,h3⟩
   | ins C fs=>
    obtain ⟨dx,ys,h1,h2,h3,h4,h5⟩:=this
    exact ⟨dx,ys,h1,⟨h2.1,h2.2.imp (fun _ _ z h=>⟨h,z⟩) km⟩,h3,by rw [zG (KL h5 hp (fun z=>nomatch z))];exact h4,h5⟩
   | exc C fs=>
    obtain ⟨d,h1,h2⟩:=this
    refine ⟨d,h1,?_⟩
    rcases h2 with h2 | ⟨dx,e1,h2,h3,h4⟩
    ·exact .inl h2
    ·exact .inr ⟨dx,e1,h2,h3,by rw [zG (KL h2 hp (fun z=>nomatch z))];exact h4⟩
   | tb R=>exact this
 ·by_cases c:a=p
  ·rw [c];exact hO
  ·rw [zG c] at ha;exact w.own a ha
abbrev AF:=ASt->MH->(List AV->MH->Prop)->Prop
noncomputable def aFz (a:AF):AE:=fun ρ M Q=>a ρ M fun l M'=>∃ ds,pur l=some ds/\Q (.d (.lst ds)) M'
noncomputable def aOw (a:AF):AE:=fun ρ M Q=>a ρ M fun l M'=>∀ p,M p=none->M' p=none->Q (.ref p) (mup M' p (.lst l))
noncomputable def Mj (t:TE):TE:=t
variable {e:Expr}
theorem xM {t:TE}(h:PE X e t):PE X e (Mj t):=h
theorem yE {t:TE}{a:AF}(h:Qu t a):zz t (aFz a):=
 ⟨fun w e q k=>h.go w e q fun l M' p xs H' O' q1 k1 w1 o1 m1 hp hx r1=>by
  obtain ⟨ds,e1,q2⟩:=q1
  rw [jA e1] at r1
  have r2:=r1.pure
  exact k _ _ _ _ _ q2 (k1.shown w hp) (Aw w1 m1 hx) (Rep.lst (fun z=>z.1 rfl) hx r2.1 fun i x d e1 e2=>(r2.2 i x d e1 e2).imp (xJ p))⟩
theorem En {t:TE}{a:AF}(h:Qu t a):zz (Mj t) (aOw a):=
 ⟨fun w e q k=>h.go w e q fun l M' p xs H' O' q1 k1 w1 o1 m1 hp hx r1=>k _ _ _ _ _ (q1 p (w.fresh hp).2 m1) (k1.owned w hp _) (Je w1 o1 m1 hx r1) ⟨rfl,by rw [zq];exact fun z=>nomatch z⟩⟩
noncomputable def Me (b:AA):AF:=fun ρ M Q=>b ρ M fun xs M1=>xs.length<=aT/\Q xs M1
theorem A5 {b:AA}(h:qW u b):Qu (Hn u) (Me b):=
 ⟨fun w e q k=>h.go w e q fun x M1 v H1 O1 q1 k1 w1 r1=>⟨by rw [r1.1];exact q1.1,fun p hp=>
  k x M1 p v _ _ q1.2 (k1.trans (qw w1 hp _)) (kU w1 hp _ (fun _ z=>nomatch z)) (.inl rfl) (w1.fresh hp).2 (by
   cases e0:(_:Hp) p with
   | none=>exact e0
   | some o=>
    exfalso
    rename_i H0 O0 _ M0 _ _
    by_cases c:O0 p
    ·by_cases c2:M0 p=none
     ·exact w1.ne p (k1.prv p c c2).2.1 hp
     ·exact w1.ne p (w1.own p (k1.mst p c2)) hp
    ·rw [(k1.fix p o c e0).1] at hp;cases hp) zi (r1.ext (qw w1 hp _))⟩⟩
noncomputable def D1 (b:AA):AE:=fun ρ M Q=>b ρ M fun xs M1=>xs.length<=aT/\∃ ds,pur xs=some ds/\Q (.d (.tup ds)) M1
theorem E7 {b:AA}(h:qW u b):zz (Wt u) (D1 b):=
 ⟨fun w e q k=>h.go w e q fun x M1 v H1 O1 q1 k1 w1 r1=>⟨by rw [r1.1];exact q1.1,fun p hp=>by
  obtain ⟨_,ds,e1,q2⟩:=q1
  rw [jA e1] at r1
  have r2:=r1.pure
  exact k _ _ _ _ _ q2 (k1.trans (qx w1 hp _)) (xS w1 hp _) (Rep.tup (w1.fresh hp).1 zi r2.1 fun i x d e1 e2=>(r2.2 i x d e1 e2).ext (qx w1 hp _))⟩⟩
noncomputable def aB (a:AE):AT:=fun ρ M Q=>a ρ M fun x M1=>∃ b,x=.d (.bl b)/\Q b M1
theorem j0 {b:Bool}(r:Rep H O v (.bl b)):v=.bl b:=by cases r;rfl
theorem zI {b:Int}(r:Rep H O v (.int b)):v=.int b:=by cases r;rfl
theorem zR {b:Str}(r:Rep H O v (.str b)):v=.str b:=by cases r;rfl
theorem WF {b:String}(r:Rep H O v (.ty b)):v=.ty b:=by cases r;rfl
theorem Zw (r:Rep H O v .non):v=.non:=by cases r;rfl
theorem MK {t:TE}{a:AE}(h:zz t a):j9 (tB t) (aB a):=⟨fun w e q k=>h.go w e q fun x M1 v H1 O1 ⟨b,e1,q1⟩ k1 w1 r1=>by
 subst e1;exact ⟨b,j0 r1,k _ _ _ _ q1 k1 w1⟩⟩
theorem Aj {t:TE}{a:AE}(h:zz t a):j9 (Qp t) (aB a):=⟨fun w e q k=>h.go w e q fun x M1 v H1 O1 ⟨b,e1,q1⟩ k1 w1 r1=>by
 subst e1;exact ⟨b,j0 r1,k _ _ _ _ q1 k1 w1⟩⟩
noncomputable def wL:AT:=fun _ M Q=>Q true M
theorem Vz:j9 A6 wL:=⟨fun w _ q k=>k _ _ _ _ q .refl w⟩
noncomputable def Mo (a b:AT):AT:=fun ρ M Q=>a ρ M fun c M1=>if c=true then b ρ M1 Q else Q false M1
noncomputable def aOr (a b:AT):AT:=fun ρ M Q=>a ρ M fun c M1=>if c=true then Q true M1 else b ρ M1 Q
noncomputable def IJ (a:AT):AT:=fun ρ M Q=>a ρ M fun c M1=>Q (!c) M1
theorem EL {t u:TT}{a b:AT}(h1:j9 t a)(h2:j9 u b):j9 (IY t u) (Mo a b):=⟨fun w e q k=>h1.go w e q fun c M1 H1 O1 q1 k1 w1=>by
 cases c with
 | true=>exact h2.go w1 (e.ext k1) q1 fun c M2 H2 O2 q2 k2 w2=>k _ _ _ _ q2 (k1.trans k2) w2
 | false=>exact k _ _ _ _ q1 k1 w1⟩
theorem Hb {t u:TT}{a b:AT}(h1:j9 t a)(h2:j9 u b):j9 (tOr t u) (aOr a b):=⟨fun w e q k=>h1.go w e q fun c M1 H1 O1 q1 k1 w1=>by
 cases c with
 | false=>exact h2.go w1 (e.ext k1) q1 fun c M2 H2 O2 q2 k2 w2=>k _ _ _ _ q2 (k1.trans k2) w2
 | true=>exact k _ _ _ _ q1 k1 w1⟩
theorem Ex {a:AT}(h1:j9 t a):j9 (Lb t) (IJ a):=⟨fun w e q k=>h1.go w e q fun c M1 H1 O1 q1 k1 w1=>k _ _ _ _ q1 k1 w1⟩
noncomputable def Fz (a b:AE):AE:=fun ρ M Q=>a ρ M fun x M1=>∃ c,x=.d (.bl c)/\if c=true then b ρ M1 Q else Q (.d (.bl false)) M1
noncomputable def LC (a b:AE):AE:=fun ρ M Q=>a ρ M fun x M1=>∃ c,x=.d (.bl c)/\if c=true then Q (.d (.bl true)) M1 else b ρ M1 Q
theorem WL {t u:TE}{a b:AE}(h1:zz t a)(h2:zz u b):zz (W5 t u) (Fz a b):=⟨fun w e q k=>h1.go w e q fun x M1 v H1 O1 ⟨c,e1,q1⟩ k1 w1 r1=>by
 subst e1
 refine ⟨c,j0 r1,?_⟩
 cases c with
 | true=>exact h2.go w1 (e.ext k1) q1 fun c M2 v2 H2 O2 q2 k2 w2 r2=>k _ _ _ _ _ q2 (k1.trans k2) w2 r2
 | false=>exact k _ _ _ _ _ q1 k1 w1 .bl⟩
theorem EK {t u:TE}{a b:AE}(h1:zz t a)(h2:zz u b):zz (HG t u) (LC a b):=⟨fun w e q k=>h1.go w e q fun x M1 v H1 O1 ⟨c,e1,q1⟩ k1 w1 r1=>by
 subst e1
 refine ⟨c,j0 r1,?_⟩
 cases c with
 | false=>exact h2.go w1 (e.ext k1) q1 fun c M2 v2 H2 O2 q2 k2 w2 r2=>k _ _ _ _ _ q2 (k1.trans k2) w2 r2
 | true=>exact k _ _ _ _ _ q1 k1 w1 .bl⟩
noncomputable def aIf (c:AT)(a b:AE):AE:=fun ρ M Q=>c ρ M fun c M1=>if c=true then a ρ M1 Q else b ρ M1 Q
theorem Iv {c:TT}{t u:TE}{ac:AT}{a b:AE}(hc:j9 c ac)(h1:zz t a)(h2:zz u b):zz (tIf c t u) (aIf ac a b):=⟨fun w e q k=>hc.go w e q fun c M1 H1 O1 q1 k1 w1=>by
 cases c with
 | true=>exact h1.go w1 (e.ext k1) q1 fun c M2 v2 H2 O2 q2 k2 w2 r2=>k _ _ _ _ _ q2 (k1.trans k2) w2 r2
 | false=>exact h2.go w1 (e.ext k1) q1 fun c M2 v2 H2 O2 q2 k2 w2 r2=>k _ _ _ _ _ q2 (k1.trans k2) w2 r2⟩
noncomputable def Wk (r r':AR2)(a b c:AE):AE:=fun ρ M Q=>a ρ M fun x M1=>b ρ M1 fun y M2=>r x y M2 fun z M3=>∃ k,z=.d (.bl k)/\if k=true then c ρ M3 fun u M4=>r' y u M4 Q else Q (.d (.bl false)) M3
theorem YJ {r r':R2}{ar ar':AR2}{t u v:TE}{a b c:AE}(hr:xZ r ar)(hr':xZ r' ar')(h1:zz t a)(h2:zz u b)(h3:zz v c):zz (J1 r r' t u v) (Wk ar ar' a b c):=
 ⟨fun w e q k=>h1.go w e q fun x M1 v H1 O1 q1 k1 w1 r1=>h2.go w1 (e.ext k1) q1 fun y M2 u H2 O2 q2 k2 w2 r2=>hr.go w2 (r1.ext k2) r2 q2 fun z M3 v3 H3 O3 ⟨c,e3,q3⟩ k3 w3 r3=>by
  subst e3
  refine ⟨c,j0 r3,?_⟩
  have k13:=(k1.trans k2).trans k3
  cases c with
  | false=>exact k _ _ _ _ _ q3 k13 w3 .bl
  | true=>exact h3.go w3 (e.ext k13) q3 fun z4 M4 v4 H4 O4 q4 k4 w4 r4=>hr'.go w4 ((r2.ext k3).ext k4) r4 q4 fun z5 M5 v5 H5 O5 q5 k5 w5 r5=>k _ _ _ _ _ q5 ((k13.trans k4).trans k5) w5 r5⟩
structure ED (H0:Hp)(O0:Own)(M0:MH)(D:jr)(D':kM):Prop where
 nx:∀ σ H O ρ M,Wf H O M->Er H O M σ ρ->Ext H0 O0 M0 H O M->D'.nx ρ M->D.nx σ H
 rt:∀ v x H O M,Wf H O M->Ext H0 O0 M0 H O M->zo H O M v x->D'.rt x M->D.rt v H
 bk:∀ σ H O ρ M,Wf H O M->Er H O M σ ρ->Ext H0 O0 M0 H O M->D'.bk ρ M->D.bk σ H
 ct:∀ σ H O ρ M,Wf H O M->Er H O M σ ρ->Ext H0 O0 M0 H O M->D'.ct ρ M->D.ct σ H
variable {H0:Hp} {O0:Own}
theorem ED.tr {M0 M1:MH} {D':kM}(E:ED H0 O0 M0 D D')(k:Ext H0 O0 M0 H1 O1 M1):ED H1 O1 M1 D D':=
 ⟨fun σ H O ρ M w e x q=>E.nx σ H O ρ M w e (k.trans x) q,fun v y H O M w x r q=>E.rt v y H O M w (k.trans x) r q,fun σ H O ρ M w e x q=>E.bk σ H O ρ M w e (k.trans x) q,fun σ H O ρ M w e x q=>E.ct σ H O ρ M w e (k.trans x) q⟩
structure qK (t:TS)(a:AS):Prop where
 go:∀ {H0:Hp} {O0:Own} {M0:MH} {D:jr} {D':kM} {σ:St} {H:Hp} {O:Own} {ρ:ASt} {M:MH},Wf H0 O0 M0->Wf H O M->Er H O M σ ρ->Ext H0 O0 M0 H O M->a M0 D' ρ M->ED H0 O0 M0 D D'->t D σ H
noncomputable def Ky:AS:=fun _ D ρ M=>D.nx ρ M
theorem Br:qK WY Ky:=⟨fun _ w e x q E=>E.nx _ _ _ _ _ w e x q⟩
noncomputable def Jp (a b:AS):AS:=fun B D ρ M=>a B { D with nx:=b B D } ρ M
theorem DF {t u:TS}{a b:AS}(h1:qK t a)(h2:qK u b):qK (J3 t u) (Jp a b):=
 ⟨fun w0 w e x q E=>h1.go w0 w e x q ⟨fun σ H O ρ M w e x q=>h2.go w0 w e x q E,E.rt,E.bk,E.ct⟩⟩
noncomputable def Ff (a:AE):AS:=fun _ D ρ M=>a ρ M fun _ M1=>D.nx ρ M1
theorem Bh {t:TE}{a:AE}(h:zz t a):qK (Ao t) (Ff a):=⟨fun _ w e x q E=>h.go w e q fun y M1 v H1 O1 q1 k1 w1 r1=>E.nx _ _ _ _ _ w1 (e.ext k1) (x.trans k1) q1⟩
noncomputable def HM (a:AE):AS:=fun _ D ρ M=>a ρ M D.rt
theorem D8 {t:TE}{a:AE}(h:zz t a):qK (Dn t) (HM a):=⟨fun _ w e x q E=>h.go w e q fun y M1 v H1 O1 q1 k1 w1 r1=>E.rt _ _ _ _ _ w1 (x.trans k1) r1 q1⟩
noncomputable def EH (c:AT)(a b:AS):AS:=fun B D ρ M=>c ρ M fun k M1=>if k=true then a B D ρ M1 else b B D ρ M1
variable {c:TT} {ac:AT}
theorem DA {t u:TS} {a b:AS}(hc:j9 c ac)(h1:qK t a)(h2:qK u b):qK (Fb c t u) (EH ac a b):=
 ⟨fun w0 w e x q E=>hc.go w e q fun k M1 H1 O1 q1 k1 w1=>by
  cases k with
  | true=>exact h1.go w0 w1 (e.ext k1) (x.trans k1) q1 E
  | false=>exact h2.go w0 w1 (e.ext k1) (x.trans k1) q1 E⟩
noncomputable def VS:AS:=fun _ _ _ _=>False
theorem Yl:qK Jx VS:=⟨fun _ _ _ _ q _=>q.elim⟩
structure x9 (g:TG)(a:AG):Prop where
 go:∀ {v:V} {x:AV} {σ:St} {H:Hp} {O:Own} {ρ:ASt} {M:MH} {Q:St->Hp->Prop} {Q':ASt->MH->Prop},Wf H O M->Er H O M σ ρ->zo H O M v x->a x ρ M Q' ->
  (∀ σ' H' O' ρ' M',Q' ρ' M'->Ext H O M H' O' M'->Wf H' O' M'->Er H' O' M' σ' ρ'->Q σ' H')->g v σ H Q
structure Xy (g:TGs)(a:AGs):Prop where
 go:∀ {v:List V} {x:List AV} {σ:St} {H:Hp} {O:Own} {ρ:ASt} {M:MH} {Q:St->Hp->Prop} {Q':ASt->MH->Prop},Wf H O M->Er H O M σ ρ->zh H O M v x->a x ρ M Q' ->
  (∀ σ' H' O' ρ' M',Q' ρ' M'->Ext H O M H' O' M'->Wf H' O' M'->Er H' O' M' σ' ρ'->Q σ' H')->g v σ H Q
noncomputable def jC (i:Nat):AG:=fun x ρ M Q=>Q (ρ.set i (some x)) M
theorem X9:x9 (yq i) (jC i):=⟨fun w e r q k=>k _ _ _ _ _ q .refl w (e.set r i)⟩
noncomputable def Fq:AGs:=fun xs ρ M Q=>xs=[]/\Q ρ M
noncomputable def Jn (a:AG)(b:AGs):AGs:=fun xs ρ M Q=>∃ x r,xs=x :: r/\a x ρ M fun ρ' M'=>b r ρ' M' Q
theorem Bo:Xy Hk Fq:=⟨fun w e r q k=>by obtain ⟨e1,q⟩:=q;subst e1;exact ⟨r.nil_inv,k _ _ _ _ _ q .refl w e⟩⟩
theorem YC {u:TGs}{a:AG}{b:AGs}(h1:x9 g a)(h2:Xy u b):Xy (W0 g u) (Jn a b):=⟨fun w e r q k=>by
 obtain ⟨x,r',e1,q⟩:=q;subst e1
 obtain ⟨v,vr,e2,rv,rr⟩:=r.cons_inv
 subst e2
 exact ⟨v,vr,rfl,h1.go w e rv q fun σ' H' O' ρ' M' q1 k1 w1 e1=>h2.go w1 e1 (rr.ext k1) q1 fun σ2 H2 O2 ρ2 M2 q2 k2 w2 e2=>k _ _ _ _ _ q2 (k1.trans k2) w2 e2⟩⟩
noncomputable def FY (n:Nat)(b:AGs):AG:=fun x ρ M Q=>∃ l,x=.d (.tup l)/\l.length=n/\b (l.map .d) ρ M Q
theorem A3 {K:au}{n:Nat}{u:TGs}{b:AGs}(h:Xy u b):x9 (BS K n u) (FY n b):=⟨fun {v x σ H O ρ M Q Q'} w e r q k=>by
 obtain ⟨l,e1,ln,q⟩:=q;subst e1
 cases (show Rep H O v (.tup l) from r) with
 | @tup a xs _ o1 h1 l1 r1=>exact ⟨a,xs,rfl,SqT.of h1,l1.trans ln,h.go w e (JZ.av ⟨l1,r1⟩) q k⟩⟩
noncomputable def qi (x:AV)(M:MH):Option (List AV):=match x with
 | .d (.lst l)=>some (l.map .d)
 | .ref a=>match M a with
  | some (.lst l)=>some l
  | _=>none
 | _=>none
noncomputable def G0 (x:AV):Option (List AV):=match x with
 | .d (.tup l)=>some (l.map .d)
 | .tp l=>some (l.map tiA)
 | _=>none
noncomputable def qM (x:AV)(M:MH):Option (List AV):=match x with
 | .d (.lst l)=>some (l.map .d)
 | .d (.tup l)=>some (l.map .d)
 | .ref a=>match M a with
  | some (.lst l)=>some l
  | _=>none
 | _=>none
theorem AW (l:List Dat)(M:MH):qi (.d (.lst l)) M=some (l.map .d):=rfl
theorem Ht (l:List Dat):G0 (.d (.tup l))=some (l.map .d):=rfl
theorem Bd (l:List Dat)(M:MH):qM (.d (.lst l)) M=some (l.map .d):=rfl
theorem HF (l:List Dat)(M:MH):qM (.d (.tup l)) M=some (l.map .d):=rfl
theorem qU (h:M a=some (.lst l)):qi (.ref a) M=some l:=by unfold qi;dsimp only;rw [h]
theorem js (h:M a=some (.lst l)):qM (.ref a) M=some l:=by unfold qM;dsimp only;rw [h]
theorem vV {x:AV}{M:MH}{l:List AV}(h:qi x M=some l):(∃ m,x=.d (.lst m)/\l=m.map .d) \/ ∃ a,x=.ref a/\M a=some (.lst l):=by
 cases x with
 | d x=>
  cases x with
  | lst m=>cases h;exact .inl ⟨m,rfl,rfl⟩
  | _=>cases h
 | ref a=>
  unfold qi at h
  dsimp only at h
  cases e:M a with
  | none=>rw [e] at h;cases h
  | some o=>
   rw [e] at h
   cases o with
   | lst m=>cases h;exact .inr ⟨a,rfl,e⟩
   | _=>cases h
 | tp l=>cases h
theorem jg {x:AV}{M:MH}{l:List AV}(h:qM x M=some l):qi x M=some l \/ ∃ m,x=.d (.tup m)/\l=m.map .d:=by
 cases x with
 | d x=>
  cases x with
  | lst m=>cases h;exact .inl rfl
  | tup m=>cases h;exact .inr ⟨m,rfl,rfl⟩
  | _=>cases h
 | ref a=>exact .inl h
 | tp l=>cases h
theorem qg {x:AV} (w:Wf H O M)(r:zo H O M v x)(h:qi x M=some l):∃ a xs,v=.ref a/\H a=some (.lst xs)/\zh H O M xs l:=by
 rcases vV h with ⟨m,rfl,rfl⟩ | ⟨a,rfl,e⟩
 ·cases (show Rep H O v (.lst m) from r) with
  | @lst a xs _ o1 h1 l1 r1=>exact ⟨a,xs,rfl,h1,JZ.av ⟨l1,r1⟩⟩
 ·obtain ⟨xs,h1,r1⟩:=w.mo a _ e
  exact ⟨a,xs,r.1,h1,r1⟩
theorem Vj.av {m:List (Dat ⊕ aE)}(r:Vj H O M xs m):zh H O M xs (m.map tiA):=⟨by rw [ap];exact r.1,fun i x d e1 e2=>by
 rw [aK] at e2
 obtain ⟨t,e3,rfl⟩:=cw.mp e2
 have:=r.2 i x t e1 e3
 cases t <;> exact this⟩
theorem jp {H:Hp}{O:Own}{M:MH}{v:V}{x:AV}{l:List AV}(r:zo H O M v x)(h:G0 x=some l):∃ a xs,v=.ref a/\H a=some (.tup xs)/\zh H O M xs l:=by
 cases x with
 | ref a=>cases h
 | tp m=>
  cases h
  obtain ⟨a,xs,e,_,h1,r1⟩:=r
  exact ⟨a,xs,e,h1,r1.av⟩
 | d x=>
  cases x with
  | tup m=>
   cases h
   cases (show Rep H O v (.tup m) from r) with
   | @tup a xs _ o1 h1 l1 r1=>exact ⟨a,xs,rfl,h1,JZ.av ⟨l1,r1⟩⟩
  | _=>cases h
theorem JW {x:AV} (w:Wf H O M)(r:zo H O M v x)(h:qM x M=some l):∃ a xs,v=.ref a/\(H a=some (.lst xs) \/ H a=some (.tup xs))/\zh H O M xs l:=by
 rcases jg h with e | ⟨m,rfl,rfl⟩
 ·obtain ⟨a,xs,h1,h2,h3⟩:=qg w r e;exact ⟨a,xs,h1,.inl h2,h3⟩
 ·obtain ⟨a,xs,h1,h2,h3⟩:=jp (l:=m.map .d) r rfl;exact ⟨a,xs,h1,.inr h2,h3⟩
structure WV (t:Ww)(a:AV->AV->AV->MH->(MH->Prop)->Prop):Prop where
 go:∀ {o i v:V} {ao ai av:AV} {H:Hp} {O:Own} {M:MH} {Q:Hp->Prop} {Q':MH->Prop},Wf H O M->zo H O M o ao->zo H O M i ai->zo H O M v av->a ao ai av M Q'->(∀ M' H' O',Q' M'->Ext H O M H' O' M'->Wf H' O' M'->Q H')->t o i v H Q
noncomputable def AL (a b:AE)(s:AV->AV->AV->MH->(MH->Prop)->Prop):AG:=fun x ρ M Q=>a ρ M fun o M1=>b ρ M1 fun i M2=>s o i x M2 fun M3=>Q ρ M3
theorem WS {to ti:TE}{t:Ww}{a b:AE}{s:AV->AV->AV->MH->(MH->Prop)->Prop}(h1:zz to a)(h2:zz ti b)(h3:WV t s):x9 (Ii to ti t) (AL a b s):=⟨fun w e r q k=>
 h1.go w e q fun x M1 v H1 O1 q1 k1 w1 r1=>h2.go w1 (e.ext k1) q1 fun y M2 u H2 O2 q2 k2 w2 r2=>h3.go w2 (r1.ext k2) r2 (r.ext (k1.trans k2)) q2 fun M3 H3 O3 q3 k3 w3=>k _ _ _ _ _ q3 ((k1.trans k2).trans k3) w3 (e.ext ((k1.trans k2).trans k3))⟩
theorem je {o:MO}(h:M p=some o):M p ≠ none:=by rw [h];exact fun z=>nomatch z
noncomputable def asL:AV->AV->AV->MH->(MH->Prop)->Prop:=fun o i v M Q=>∃ p l k j,o=.ref p/\i=.d (.int k)/\M p=some (.lst l)/\ixN l.length k=some j/\Q (mup M p (.lst (l.set j v)))
theorem Vt:WV Kz asL:=⟨fun w ro ri rv q k=>by
 obtain ⟨p,l,n,j,rfl,rfl,hm,hj,q⟩:=q
 obtain ⟨xs,hx,rx⟩:=w.mo p _ hm
 have np:=je hm
 refine ⟨n,zI ri,p,ro.1,xs,hx,j,by rw [rx.1];exact hj,k _ _ _ q (kF w np _ _) (JA w np (fun _ z=>nomatch z) ⟨_,zi,(rx.set rv j).ext (kF w np _ _)⟩)⟩⟩
noncomputable def X1 (a:AE)(g:AG):AS:=fun _ D ρ M=>a ρ M fun x M1=>g x ρ M1 D.nx
variable {ag:AG}
theorem DU {t:TE} {a:AE} (h:zz t a)(hg:x9 g ag):qK (vJ t g) (X1 a ag):=⟨fun _ w e x q E=>h.go w e q fun y M1 v H1 O1 q1 k1 w1 r1=>hg.go w1 (e.ext k1) r1 q1 fun σ2 H2 O2 ρ2 M2 q2 k2 w2 e2=>E.nx _ _ _ _ _ w2 e2 ((x.trans k1).trans k2) q2⟩
structure Nh (t:TIp)(a:AR2):Prop where
 go:∀ {x y:V} {dx dy:AV} {H:Hp} {O:Own} {M:MH} {Q:VK} {Q':AK},Wf H O M->zo H O M x dx->zo H O M y dy->a dx dy M Q'->(∀ x M' v H' O',Q' x M'->Ext H O M H' O' M'->Wf H' O' M'->zo H' O' M' v x->Q v H')->t x y H Q
noncomputable def IV (c:AT)(b:AS):AS:=fun B D ρ M=>∃ W:Nat->ASt->MH->Prop,(∃ m,W m ρ M)/\∀ m ρ M,W m ρ M->c ρ M fun k M1=>if k=true then b B { D with nx:=fun ρ' M'=>∃ m',m'<m/\W m' ρ' M',ct:=fun ρ' M'=>∃ m',m'<m/\W m' ρ' M',bk:=D.nx } ρ M1 else D.nx ρ M1
theorem Ya {c:TT}{t:TS}{ac:AT}{a:AS}(hc:j9 c ac)(h:qK t a):qK (JP c t) (IV ac a):=⟨fun {H0 O0 M0 D D' σ H O ρ M} w0 w e x q E=>by
 obtain ⟨W,⟨m,h0⟩,st⟩:=q
 refine ⟨fun m σ H=>∃ O ρ M,Wf H O M/\Er H O M σ ρ/\Ext H0 O0 M0 H O M/\W m ρ M,⟨m,O,ρ,M,w,e,x,h0⟩,?_⟩
 rintro m σ H ⟨O,ρ,M,w,e,x,hw⟩
 refine hc.go w e (st m ρ M hw) fun k M1 H1 O1 q1 k1 w1=>?_
 cases k with
 | false=>exact E.nx _ _ _ _ _ w1 (e.ext k1) (x.trans k1) q1
 | true=>exact ⟨fun σ' H'=>∃ m',m'<m/\∃ O ρ M,Wf H' O M/\Er H' O M σ' ρ/\Ext H0 O0 M0 H' O M/\W m' ρ M,fun σ' H' z=>z,h.go w0 w1 (e.ext k1) (x.trans k1) q1 ⟨fun σ H O ρ M w e x ⟨m',hm,hw⟩=>⟨m',hm,O,ρ,M,w,e,x,hw⟩,E.rt,E.nx,fun σ H O ρ M w e x ⟨m',hm,hw⟩=>⟨m',hm,O,ρ,M,w,e,x,hw⟩⟩⟩⟩
def xy (J:It)(H:Hp)(O:Own)(M:MH)(l:List AV)(G:MH->Prop):Prop:=
 ∀ (H':Hp) (O':Own) (M':MH),(∀ a o,¬ O a->H a=some o->H' a=some o/\¬ O' a)->(∀ a,M a ≠ none->M' a ≠ none)->Wf H' O' M'->G M'->∀ i:Nat,(i=l.length->J.stop i H') /\
  ∀ y,l[i]?=some y->J.go i H'/\∀ x H'',J.yld i H' x H''->Ext H' O' M' H'' O' M'/\Wf H'' O' M'/\zo H'' O' M' x y
structure Zk (wi:TI)(ai:AI):Prop where
 go:∀ {σ:St} {H:Hp} {O:Own} {ρ:ASt} {M:MH} {R:It->Hp->Prop} {R':List AV->(MH->Prop)->MH->Prop},Wf H O M->Er H O M σ ρ->ai ρ M R'->(∀ l G M' J H' O',R' l G M'->Ext H O M H' O' M'->Wf H' O' M'->xy J H' O' M' l G->R J H')->wi σ H R
def FN (ag:AG)(ab:AS)(B:MH)(D:kM)(G:MH->Prop)(l:List AV)(ρ:ASt)(M:MH):Prop:=
 ∃ Pv:Nat->ASt->MH->Prop,Pv 0 ρ M/\(∀ i x ρ M,l[i]?=some x->Pv i ρ M->G M/\ag x ρ M fun ρ' M'=>ab B { D with nx:=Pv (i+1),ct:=Pv (i+1),bk:=D.nx } ρ' M')/\∀ ρ M,Pv l.length ρ M->G M/\D.nx ρ M
noncomputable def HJ (ai:AI)(ag:AG)(ab:AS):AS:=fun _ D ρ M=>ai ρ M fun l G M1=>FN ag ab M1 D G l ρ M1
variable {ai:AI}
theorem EJ {t:TS} {ab:AS}(hi:Zk wi ai)(hg:x9 g ag)(hb:qK t ab):qK (Ea wi g t) (HJ ai ag ab):=⟨fun {H0 O0 M0 D D' σ H O ρ M} w0 w e x q E=>by
 rw [Zd]
 refine hi.go w e q fun l G M1 J H1 O1 q1 k1 w1 hj=>?_
 have E1:=E.tr (x.trans k1)
 obtain ⟨Pv,p0,ps,pd⟩:=q1
 refine ⟨fun i m σ H=>m=l.length - i/\i<=l.length/\∃ O ρ M,Wf H O M/\Er H O M σ ρ/\Ext H1 O1 M1 H O M/\Pv i ρ M,⟨l.length,by simp,cb _,O1,ρ,M1,w1,e.ext k1,.refl,p0⟩,?_⟩
 rintro i m σ H ⟨rfl,hi,O,ρ,M,w,e,x,hf⟩
 by_cases hil:i<l.length
 ·have hy:l[i]?=some l[i]:=aq hil
  obtain ⟨hG,q2⟩:=ps i l[i] ρ M hy hf
  obtain ⟨j1,j2⟩:=(hj H O M x.fix x.mst w hG i).2 l[i] hy
  refine .inr ⟨j1,fun σ' H'=>∃ O ρ M,Wf H' O M/\Er H' O M σ' ρ/\Ext H1 O1 M1 H' O M/\Pv (i+1) ρ M,fun σ' H' z=>⟨l.length - (i+1),by omega,rfl,hil,z⟩,fun v H' hv=>?_⟩
  obtain ⟨k2,w2,r2⟩:=j2 v H' hv
  refine hg.go w2 (e.ext k2) r2 q2 fun σ3 H3 O3 ρ3 M3 q3 k3 w3 e3=>?_
  exact hb.go w1 w3 e3 ((x.trans k2).trans k3) q3 ⟨fun σ H O ρ M w e x q=>⟨O,ρ,M,w,e,x,q⟩,E1.rt,E1.nx,fun σ H O ρ M w e x q=>⟨O,ρ,M,w,e,x,q⟩⟩
 ·have e0:i=l.length:=by omega
  subst e0
  obtain ⟨hG,q2⟩:=pd ρ M hf
  exact .inl ⟨(hj H O M x.fix x.mst w hG l.length).1 rfl,E1.nx _ _ _ _ _ w e x q2⟩⟩
theorem xg {H H1:Hp}{O O1:Own}{M M1:MH}(w1:Wf H1 O1 M1)(k1:Ext H O M H1 O1 M1){p:aE}(hp:H1 p=none):H p=none:=by
 cases e0:H p with
 | none=>rfl
 | some o=>
  exfalso
  by_cases c:O p
  ·by_cases c2:M p=none
   ·exact w1.ne p (k1.prv p c c2).2.1 hp
   ·exact w1.ne p (w1.own p (k1.mst p c2)) hp
  ·rw [(k1.fix p o c e0).1] at hp;cases hp
theorem Y3 {x:AV} (r:zo H O M (.ref a) x)(h:qi x M=some l):xy (Itl K a) H O M l (fun M'=>qi x M'=some l):=by
 intro H' O' M' fix mst w' hG i
 obtain ⟨a',xs,e,h1,r1⟩:=qg w' (r.imp fix mst) hG
 cases e
 refine ⟨fun e=>⟨xs,SqL.of h1,by rw [r1.1];omega⟩,fun y hy=>?_⟩
 obtain ⟨v,hv,rv⟩:=r1.get hy
 refine ⟨⟨xs,v,SqL.of h1,hv⟩,fun z H'' hz=>?_⟩
 obtain ⟨e1,e2⟩:=hz
 subst e1
 have:=e2 xs (SqL.of h1)
 rw [hv] at this;cases this
 exact ⟨.refl,w',rv⟩
theorem Bp {x:AV} (r:zo H O M (.ref a) x)(h:G0 x=some l):xy (Itt K a) H O M l (fun _=>True):=by
 intro H' O' M' fix mst w' hG i
 obtain ⟨a',xs,e,h1,r1⟩:=jp (r.imp fix mst) h
 cases e
 refine ⟨fun e=>⟨xs,SqT.of h1,by rw [r1.1];omega⟩,fun y hy=>?_⟩
 obtain ⟨v,hv,rv⟩:=r1.get hy
 refine ⟨⟨xs,v,SqT.of h1,hv⟩,fun z H'' hz=>?_⟩
 obtain ⟨e1,e2⟩:=hz
 subst e1
 have:=e2 xs (SqT.of h1)
 rw [hv] at this;cases this
 exact ⟨.refl,w',rv⟩
noncomputable def aiS (a:AE):AI:=fun ρ M R=>a ρ M fun x M1=>∃ l,qM x M1=some l/\R l (fun M'=>qM x M'=some l) M1
variable {J:It}
theorem xy.mono {G G':MH->Prop}(h:xy J H O M l G)(k:∀ M,G' M->G M):xy J H O M l G':=fun H' O' M' fix mst w' hG=>h H' O' M' fix mst w' (k _ hG)
theorem HV {t:TE}{a:AE}(h:zz t a):Zk (iLT K t) (aiS a):=⟨fun w e q k=>h.go w e q fun x M1 v H1 O1 ⟨l,hl,q1⟩ k1 w1 r1=>by
 rcases jg hl with hl' | ⟨m,rfl,rfl⟩
 ·obtain ⟨a,xs,rfl,h1,_⟩:=qg w1 r1 hl'
  refine ⟨a,rfl,.inl ⟨⟨xs,SqL.of h1⟩,k _ _ _ _ _ _ q1 k1 w1 ((Y3 r1 hl').mono fun M hM=>?_)⟩⟩
  rcases jg hM with z | ⟨m,rfl,rfl⟩
  ·exact z
  ·cases hl'
 ·obtain ⟨a,xs,rfl,h1,_⟩:=jp (l:=m.map .d) r1 rfl
  exact ⟨a,rfl,.inr ⟨⟨xs,SqT.of h1⟩,k _ _ _ _ _ _ q1 k1 w1 ((Bp r1 rfl).mono fun _ _=>trivial)⟩⟩⟩
noncomputable def J0 (lo c:Int)(n:Nat):List AV:=(bP n).map fun (k:Nat)=>.d (.int (lo+(k:Int) * c))
theorem xD (lo c:Int)(n:Nat):(J0 lo c n).length=n:=by simp [J0]
variable {y:AV}
theorem vU {lo c:Int} (h:(J0 lo c n)[i]?=some y):i<n/\y=.d (.int (lo+(i:Int) * c)):=by
 have hi:=(aP.mp h).1
 rw [xD] at hi
 unfold J0 at h
 rw [aK,dP hi] at h
 cases h
 exact ⟨hi,rfl⟩
theorem Bs (lo:Int)(n:Nat):xy (Itr lo n) H O M (J0 lo 1 n) (fun _=>True):=by
 intro H' O' M' fix mst w' hG i
 refine ⟨fun e=>by rw [xD] at e;exact ma e.symm,fun y hy=>?_⟩
 obtain ⟨hi,rfl⟩:=vU hy
 refine ⟨hi,fun z H'' hz=>?_⟩
 obtain ⟨rfl,rfl⟩:=hz
 rw [iV]
 exact ⟨.refl,w',.int⟩
noncomputable def Lg (a:AA):AI:=fun ρ M R=>a ρ M fun xs M1=>∃ j:Int,xs=[.d (.int j)]/\-(2 ^ 62)<=j/\j<2 ^ 62/\R (J0 0 1 j.toNat) (fun _=>True) M1
theorem DC {t:TA}{a:AA}(h:qW t a):Zk (BO t) (Lg a):=⟨fun w e q k=>h.go w e q fun x M1 v H1 O1 ⟨j,e1,j1,j2,q1⟩ k1 w1 r1=>by
 subst e1
 obtain ⟨v1,r',rfl,a1,r2⟩:=r1.cons_inv
 rw [r2.nil_inv,zI a1]
 exact ⟨j,rfl,j1,j2,k _ _ _ _ _ _ q1 k1 w1 (Bs _ _)⟩⟩
noncomputable def yi (m:List Dat):List AV:=(bP m.length).map fun (i:Nat)=>.d (.tup [.int (i:Int),m.getD i .non])
theorem qN (m:List Dat):(yi m).length=m.length:=by simp [yi]
theorem jJ {m:List Dat} (h:(yi m)[i]?=some y):∃ d,m[i]?=some d/\y=.d (.tup [.int (i:Int),d]):=by
 have hi:=(aP.mp h).1
 rw [qN] at hi
 unfold yi at h
 rw [aK,dP hi] at h
 cases h
 exact ⟨m[i],aq hi,by dsimp only;rw [aA,aq hi];rfl⟩
theorem xv (w:Wf H O M) (hp:H p=none){x y:V}{d e:Dat}(r1:Rep H O x d)(r2:Rep H O y e):Ext H O M (upd H p (.tup [x,y])) O M/\Wf (upd H p (.tup [x,y])) O M/\zo (upd H p (.tup [x,y])) O M (.ref p) (.d (.tup [d,e])):=
 ⟨qx w hp _,xS w hp _,Rep.tup (w.fresh hp).1 zi rfl fun i z f h1 h2=>by
  match i,h1,h2 with
  | 0,h1,h2=>cases h1;cases h2;exact r1.ext (qx w hp _)
  | 1,h1,h2=>cases h1;cases h2;exact r2.ext (qx w hp _)
  | (i+2),h1,_=>cases h1⟩
theorem Yc {x:AV}{m:List Dat}(r:zo H O M (.ref a) x)(h:qi x M=some (m.map .d)):xy (Ite K a) H O M (yi m) (fun M'=>qi x M'=some (m.map .d)):=by
 intro H' O' M' fix mst w' hG i
 obtain ⟨a',xs,e,h1,r1⟩:=qg w' (r.imp fix mst) hG
 cases e
 have l1:=r1.1
 rw [ap] at l1
 refine ⟨fun e=>⟨xs,SqL.of h1,by rw [qN] at e;omega⟩,fun y hy=>?_⟩
 obtain ⟨d,hd,rfl⟩:=jJ hy
 obtain ⟨v,hv,rv⟩:=r1.get (i:=i) (d:=.d d) (by rw [aK,hd];rfl)
 refine ⟨⟨xs,v,SqL.of h1,hv⟩,fun z H'' hz=>?_⟩
 obtain ⟨p,x',hp,rfl,e2,rfl⟩:=hz
 have:=e2 xs (SqL.of h1)
 rw [hv] at this;cases this
 exact xv w' hp .int rv
theorem JD {m:List Dat}(r:zo H O M (.ref a) (.d (.tup m))):xy (G9 K a) H O M (yi m) (fun _=>True):=by
 intro H' O' M' fix mst w' hG i
 obtain ⟨a',xs,e,h1,r1⟩:=jp (l:=m.map .d) (r.imp fix mst) rfl
 cases e
 have l1:=r1.1
 rw [ap] at l1
 refine ⟨fun e=>⟨xs,SqT.of h1,by rw [qN] at e;omega⟩,fun y hy=>?_⟩
 obtain ⟨d,hd,rfl⟩:=jJ hy
 obtain ⟨v,hv,rv⟩:=r1.get (i:=i) (d:=.d d) (by rw [aK,hd];rfl)
 refine ⟨⟨xs,v,SqT.of h1,hv⟩,fun z H'' hz=>?_⟩
 obtain ⟨p,x',hp,rfl,e2,rfl⟩:=hz
 have:=e2 xs (SqT.of h1)
 rw [hv] at this;cases this
 exact xv w' hp .int rv
noncomputable def aiE (a:AA):AI:=fun ρ M R=>a ρ M fun xs M1=>∃ x l m,xs=[x]/\qM x M1=some l/\pur l=some m/\R (yi m) (fun M'=>qM x M'=some l) M1
variable {l':List AV}
theorem JS {x:AV} (h:qi x M=some l)(h':qM x M'=some l'):qi x M'=some l':=by
 rcases jg h' with z | ⟨m,rfl,rfl⟩
 ·exact z
 ·cases h
theorem G8 {t:TA}{a:AA}(h:qW t a):Zk (ZJ K t) (aiE a):=⟨fun w e q k=>h.go w e q fun xs M1 v H1 O1 ⟨x,l,m,e1,hl,hm,q1⟩ k1 w1 r1=>by
 subst e1
 obtain ⟨v1,r',rfl,a1,r2⟩:=r1.cons_inv
 rw [r2.nil_inv]
 rw [jA hm] at hl q1
 rcases jg hl with hl' | ⟨m',rfl,e2⟩
 ·obtain ⟨a,xs,rfl,h1,_⟩:=qg w1 a1 hl'
  exact ⟨a,rfl,.inl ⟨⟨xs,SqL.of h1⟩,k _ _ _ _ _ _ q1 k1 w1 ((Yc a1 hl').mono fun M hM=>JS hl' hM)⟩⟩
 ·obtain rfl:m=m':=by have:=congrArg pur e2;rw [qd,qd] at this;cases this;rfl
  obtain ⟨a,xs,rfl,h1,_⟩:=jp (l:=m.map .d) a1 rfl
  exact ⟨a,rfl,.inr ⟨⟨xs,SqT.of h1⟩,k _ _ _ _ _ _ q1 k1 w1 ((JD a1).mono fun _ _=>trivial)⟩⟩⟩
noncomputable def J8 (m n:List Dat):List AV:=(bP (min m.length n.length)).map fun (i:Nat)=>.d (.tup [m.getD i .non,n.getD i .non])
theorem xm (m n:List Dat):(J8 m n).length=min m.length n.length:=by simp [J8]
theorem vC {m n:List Dat} (h:(J8 m n)[i]?=some y):∃ d e,m[i]?=some d/\n[i]?=some e/\y=.d (.tup [d,e]):=by
 have hi:=(aP.mp h).1
 rw [xm] at hi
 unfold J8 at h
 rw [aK,dP hi] at h
 cases h
 have h1:i<m.length:=by omega
 have h2:i<n.length:=by omega
 exact ⟨m[i],n[i],aq h1,aq h2,by dsimp only;rw [aA,aq h1,aA,aq h2];rfl⟩
theorem Am {x y:AV}{m n:List Dat}(r:zo H O M (.ref a) x)(h:qi x M=some (m.map .d))(r':zo H O M (.ref b) y)(h':qi y M=some (n.map .d)):xy (Itz K a b) H O M (J8 m n) (fun M'=>qi x M'=some (m.map .d)/\qi y M'=some (n.map .d)):=by
 intro H' O' M' fix mst w' hG i
 obtain ⟨a',xs,e,h1,r1⟩:=qg w' (r.imp fix mst) hG.1
 cases e
 obtain ⟨b',ys,e,h2,r2⟩:=qg w' (r'.imp fix mst) hG.2
 cases e
 have l1:=r1.1
 have l2:=r2.1
 rw [ap] at l1 l2
 refine ⟨fun e=>⟨xs,ys,SqL.of h1,SqL.of h2,by rw [xm] at e;omega⟩,fun z hz=>?_⟩
 obtain ⟨d,f,hd,hf,rfl⟩:=vC hz
 obtain ⟨v,hv,rv⟩:=r1.get (i:=i) (d:=.d d) (by rw [aK,hd];rfl)
 obtain ⟨u,hu,ru⟩:=r2.get (i:=i) (d:=.d f) (by rw [aK,hf];rfl)
 refine ⟨⟨xs,ys,v,u,SqL.of h1,SqL.of h2,hv,hu⟩,fun z H'' hz=>?_⟩
 obtain ⟨p,x',y',hp,rfl,e2,e3,rfl⟩:=hz
 have:=e2 xs (SqL.of h1)
 rw [hv] at this;cases this
 have:=e3 ys (SqL.of h2)
 rw [hu] at this;cases this
 exact xv w' hp rv ru
theorem Yg {m n:List Dat}(hmn:m.length<=n.length)(r:zo H O M (.ref a) (.d (.tup m)))(r':zo H O M (.ref b) (.d (.tup n))):xy (HA K a b) H O M (J8 m n) (fun _=>True):=by
 intro H' O' M' fix mst w' hG i
 obtain ⟨a',xs,e,h1,r1⟩:=jp (l:=m.map .d) (r.imp fix mst) rfl
 cases e
 obtain ⟨b',ys,e,h2,r2⟩:=jp (l:=n.map .d) (r'.imp fix mst) rfl
 cases e
 have l1:=r1.1
 have l2:=r2.1
 rw [ap] at l1 l2
 refine ⟨fun e=>⟨xs,SqT.of h1,by rw [xm] at e;omega⟩,fun z hz=>?_⟩
 obtain ⟨d,f,hd,hf,rfl⟩:=vC hz
 obtain ⟨v,hv,rv⟩:=r1.get (i:=i) (d:=.d d) (by rw [aK,hd];rfl)
 obtain ⟨u,hu,ru⟩:=r2.get (i:=i) (d:=.d f) (by rw [aK,hf];rfl)
 refine ⟨⟨xs,ys,v,u,SqT.of h1,SqT.of h2,hv,hu⟩,fun z H'' hz=>?_⟩
 obtain ⟨p,x',y',hp,rfl,e2,e3,rfl⟩:=hz
 have:=e2 xs (SqT.of h1)
 rw [hv] at this;cases this
 have:=e3 ys (SqT.of h2)
 rw [hu] at this;cases this
 exact xv w' hp rv ru
noncomputable def LM (a:AA):AI:=fun ρ M R=>a ρ M fun xs M1=>∃ x y m n,xs=[x,y]/\((qi x M1=some (bQ AV.d m)/\qi y M1=some (bQ AV.d n)) \/ (x=.d (.tup m)/\y=.d (.tup n)/\m.length<=n.length))/\R (J8 m n) (fun M'=>qi x M'=qi x M1/\qi y M'=qi y M1) M1
theorem D3 {t:TA}{a:AA}(h:qW t a):Zk (JQ K t) (LM a):=⟨fun w e q k=>h.go w e q fun xs M1 v H1 O1 ⟨x,y,m,n,e1,hxy,q1⟩ k1 w1 r1=>by
 subst e1
 obtain ⟨v1,r',rfl,a1,r2⟩:=r1.cons_inv
 obtain ⟨v2,r',rfl,a2,r3⟩:=r2.cons_inv
 rw [r3.nil_inv]
 rcases hxy with ⟨hx,hy⟩ | ⟨rfl,rfl,hmn⟩
 ·obtain ⟨a,xs,rfl,h1,_⟩:=qg w1 a1 hx
  obtain ⟨b,ys,rfl,h2,_⟩:=qg w1 a2 hy
  exact ⟨a,b,rfl,.inl ⟨⟨xs,SqL.of h1⟩,⟨ys,SqL.of h2⟩,k _ _ _ _ _ _ q1 k1 w1 ((Am a1 hx a2 hy).mono fun _ z=>⟨z.1.trans hx,z.2.trans hy⟩)⟩⟩
 ·obtain ⟨a,xs,rfl,h1,_⟩:=jp (l:=m.map .d) a1 rfl
  obtain ⟨b,ys,rfl,h2,_⟩:=jp (l:=n.map .d) a2 rfl
  exact ⟨a,b,rfl,.inr ⟨⟨xs,SqT.of h1⟩,⟨ys,SqT.of h2⟩,k _ _ _ _ _ _ q1 k1 w1 ((Yg hmn a1 a2).mono fun _ _=>trivial)⟩⟩⟩
structure yw (D:aE)(H:Hp)(O:Own)(M:MH)(H':Hp)(O':Own)(M':MH):Prop where
 fix:∀ a o,¬ O a->H a=some o->H' a=some o/\¬ O' a
 prv:∀ a,a ≠ D->O a->M a=none->H' a=H a/\O' a/\M' a=none
 mst:∀ a,M a ≠ none->M' a ≠ none
theorem Ext.x {D:aE} (k:Ext H O M H' O' M'):yw D H O M H' O' M':=⟨k.fix,fun a _=>k.prv a,k.mst⟩
theorem yw.trans {D:aE} {M M1 M2:MH}(a:yw D H O M H1 O1 M1)(b:yw D H1 O1 M1 H2 O2 M2):yw D H O M H2 O2 M2:=
 ⟨fun x o h e=>let ⟨e1,h1⟩:=a.fix x o h e;b.fix x o h1 e1,fun x hx h e=>by
  obtain ⟨e1,h1,n1⟩:=a.prv x hx h e
  obtain ⟨e2,h2,n2⟩:=b.prv x hx h1 n1
  exact ⟨e2.trans e1,h2,n2⟩,fun x h=>b.mst x (a.mst x h)⟩
theorem yw.set {D:aE} (hO:O D)(o:HO):yw D H O M (upd H D o) O M:=⟨yG hO o,fun a ha h e=>⟨zg ha,h,e⟩,fun _ h=>h⟩
theorem Er.imp (e:Er H O M σ ρ)(k:∀ a o,¬ O a->H a=some o->H' a=some o/\¬ O' a)(hm:∀ a,M a ≠ none->M' a ≠ none):Er H' O' M' σ ρ:=⟨e.len,fun i x h=>let ⟨v,h1,h2⟩:=e.get i x h;⟨v,h1,h2.imp k hm⟩⟩
abbrev ATR:=List AV->ASt->MH->(List AV->ASt->MH->Prop)->Prop
structure KQ (D:aE)(tr:TR)(a:ATR):Prop where
 go:∀ {σ:St} {H:Hp} {O:Own} {ρ:ASt} {M:MH} {acc:List AV} {ys:List V} {N:St->Hp->Prop} {N':List AV->ASt->MH->Prop},Wf H O M->Er H O M σ ρ->O D->M D=none->H D=some (.lst ys)->zh H O M ys acc->a acc ρ M N' ->
  (∀ acc' ρ' M' σ' H' O' ys',N' acc' ρ' M'->yw D H O M H' O' M'->Wf H' O' M'->Er H' O' M' σ' ρ'->O' D->M' D=none->H' D=some (.lst ys')->zh H' O' M' ys' acc'->N σ' H')->tr σ H N
noncomputable def yN (a:AE):ATR:=fun acc ρ M N=>a ρ M fun x M1=>acc.length<aT/\N (acc ++ [x]) ρ M1
theorem QW {D:aE}{t:TE}{a:AE}(h:zz t a):KQ D (JH t D) (yN a):=⟨fun {σ H O ρ M acc ys N N'} w e o m hd r q k=>h.go w e q fun x M1 v H1 O1 ⟨q0,q1⟩ k1 w1 r1=>by
 obtain ⟨e1,o1,m1⟩:=k1.prv D o m
 have r':=r.ext k1
 refine ⟨ys,e1.trans hd,by rw [r.1];exact q0,k _ _ _ _ _ _ (ys ++ [v]) q1 (k1.x.trans (yw.set o1 _)) (Kw w1 o1 m1 (e1.trans hd) _ (fun _ z=>nomatch z)) ((e.ext k1).imp (yG o1 _) (fun _ z=>z)) o1 m1 zi ((r'.snoc r1).imp (yG o1 _) (fun _ z=>z))⟩⟩
def YR (ag:AG)(at_:AT)(tr:ATR)(G:MH->Prop)(N:List AV->ASt->MH->Prop)(l acc:List AV)(ρ:ASt)(M:MH):Prop:=
 ∃ Pv:Nat->List AV->ASt->MH->Prop,Pv 0 acc ρ M/\(∀ i x acc ρ M,l[i]?=some x->Pv i acc ρ M->G M/\ag x ρ M fun ρ2 M2=>at_ ρ2 M2 fun b M3=>if b=true then tr acc ρ2 M3 (Pv (i+1)) else Pv (i+1) acc ρ2 M3)/\∀ acc ρ M,Pv l.length acc ρ M->G M/\N acc ρ M
variable {at_:AT} {atr:ATR} {G:MH->Prop}
theorem GG {D:aE} {tr:TR} (hg:x9 g ag)(ht:j9 tt at_)(hr:KQ D tr atr) {M1:MH} (hj:xy J H1 O1 M1 l G){N':List AV->ASt->MH->Prop}{N:St->Hp->Prop}
 {acc:List AV} (w:Wf H1 O1 M1) (e:Er H1 O1 M1 σ ρ) (o:O1 D) (m:M1 D=none) (hd:H1 D=some (.lst ys)) (r:zh H1 O1 M1 ys acc) (q:YR ag at_ atr G N' l acc ρ M1)
  (k:∀ acc' ρ' M' σ' H' O' ys',N' acc' ρ' M'->yw D H1 O1 M1 H' O' M'->Wf H' O' M'->Er H' O' M' σ' ρ'->O' D->M' D=none->H' D=some (.lst ys')->zh H' O' M' ys' acc'->N σ' H'):CL J g tt tr N σ H1:=by
 obtain ⟨Pv,p0,ps,pd⟩:=q
 refine ⟨fun i n σ H=>n=l.length - i/\i<=l.length/\∃ O ρ M acc ys,Wf H O M/\Er H O M σ ρ/\yw D H1 O1 M1 H O M/\O D/\M D=none/\H D=some (.lst ys)/\zh H O M ys acc/\Pv i acc ρ M,
  ⟨l.length,by simp,cb _,O1,ρ,M1,acc,ys,w,e,Ext.refl.x,o,m,hd,r,p0⟩,?_⟩
 rintro i n σ H ⟨rfl,hi,O,ρ,M,acc,ys,w,e,x,o,m,hd,r,hf⟩
 by_cases hil:i<l.length
 ·have hy:l[i]?=some l[i]:=aq hil
  obtain ⟨hG,q2⟩:=ps i l[i] acc ρ M hy hf
  obtain ⟨j1,j2⟩:=(hj H O M x.fix x.mst w hG i).2 l[i] hy
  refine .inr ⟨j1,fun σ' H'=>∃ O ρ M acc ys,Wf H' O M/\Er H' O M σ' ρ/\yw D H1 O1 M1 H' O M/\O D/\M D=none/\H' D=some (.lst ys)/\zh H' O M ys acc/\Pv (i+1) acc ρ M,fun σ' H' z=>⟨l.length - (i+1),by omega,rfl,hil,z⟩,fun v H' hv=>?_⟩
  obtain ⟨k2,w2,r2⟩:=j2 v H' hv
  refine hg.go w2 (e.ext k2) r2 q2 fun σ3 H3 O3 ρ3 M3 q3 k3 w3 e3=>?_
  refine ht.go w3 e3 q3 fun b M4 H4 O4 q4 k4 w4=>?_
  have k24:=(k2.trans k3).trans k4
  obtain ⟨d4,o4,m4⟩:=k24.prv D o m
  have r4:=r.ext k24
  cases b with
  | true=>
   exact hr.go w4 (e3.ext k4) o4 m4 (d4.trans hd) r4 q4 fun acc' ρ' M' σ' H' O' ys' q5 k5 w5 e5 o5 m5 d5 r5=>⟨O',ρ',M',acc',ys',w5,e5,(x.trans k24.x).trans k5,o5,m5,d5,r5,q5⟩
  | false=>
   exact ⟨O4,ρ3,M4,acc,ys,w4,e3.ext k4,x.trans k24.x,o4,m4,d4.trans hd,r4,q4⟩
 ·have e0:i=l.length:=by omega
  subst e0
  obtain ⟨hG,q2⟩:=pd acc ρ M hf
  exact .inl ⟨(hj H O M x.fix x.mst w hG l.length).1 rfl,k _ _ _ _ _ _ _ q2 x w e o m hd r⟩
noncomputable def WH (ts:List Nat)(ai:AI)(ag:AG)(at_:AT)(atr:ATR):AF:=fun ρ M Q=>ai ρ M fun l G M1=>YR ag at_ atr G (fun acc _ M'=>Q acc M') l [] (Ds ts ρ) M1
theorem JI {tr:aE->TR} (hi:Zk wi ai)(hg:x9 g ag)(ht:j9 tt at_)(hr:∀ D,KQ D (tr D) atr):Qu (WT ts wi g tt tr) (WH ts ai ag at_ atr):=⟨fun {σ H O ρ M Q Q'} w e q k=>by
 refine hi.go w e q fun l G M1 J H1 O1 q1 k1 w1 hj D hD=>?_
 have kp:=qw w1 hD (.lst [])
 have hj':xy J (upd H1 D (.lst [])) (xi O1 D) M1 l G:=fun H' O' M' fix mst w' hG=>hj H' O' M' (fun a o ha ho=>fix a o (kp.fix a o ha ho).2 (kp.fix a o ha ho).1) mst w' hG
 refine GG hg ht (hr D) hj' (kU w1 hD _ (fun _ z=>nomatch z)) (((e.ext k1).clr ts).ext kp) (.inl rfl) (w1.fresh hD).2 zi .nil q1 fun acc' ρ' M' σ' H' O' ys' q5 k5 w5 e5 o5 m5 d5 r5=>?_
 have hH:=xg w1 k1 hD
 refine k _ _ _ _ _ _ q5 ⟨fun a o ha ho=>?_,fun a ha hm=>?_,fun a hm=>k5.mst a (k1.mst a hm)⟩ w5 o5 m5 hH d5 r5
 ·obtain ⟨x1,x2⟩:=(k1.trans kp).fix a o ha ho
  exact k5.fix a o x2 x1
 ·obtain ⟨x1,x2,x3⟩:=(k1.trans kp).prv a ha hm
  obtain ⟨y1,y2,y3⟩:=k5.prv a (fun z=>w.ne a ha (by rw [z];exact hH)) x2 x3
  exact ⟨y1.trans x1,y2,y3⟩⟩
variable {ae:AE}
theorem YX (hi:Zk wi ai)(hg:x9 g ag)(ht:j9 tt at_)(he:zz te ae):Qu (Q7 ts wi g tt te) (WH ts ai ag at_ (yN ae)):=
 ⟨fun w e q k=>(JI (ts:=ts) (tr:=JH te) hi hg ht fun D=>QW he).go w e q k⟩
noncomputable def aI (C:Int->Int->Prop)(g:Int->Int->Dat):AR2:=fun x y M Q=>∃ i j,x=.d (.int i)/\y=.d (.int j)/\C i j/\Q (.d (g i j)) M
noncomputable def aI0 (g:Int->Int->Dat):AR2:=fun x y M Q=>∃ i j,x=.d (.int i)/\y=.d (.int j)/\Q (.d (g i j)) M
theorem Hv {C:Int->Int->Prop}{f:Int->Int->Int}:xZ (rI C fun i j=>.int (f i j)) (aI C fun i j=>.int (f i j)):=⟨fun w r1 r2 ⟨i,j,e1,e2,c,q⟩ k=>by
 subst e1 e2;exact ⟨i,j,zI r1,zI r2,c,k _ _ _ _ _ q .refl w .int⟩⟩
theorem DD {f:Int->Int->Int}:xZ (rI0 fun i j=>.int (f i j)) (aI0 fun i j=>.int (f i j)):=⟨fun w r1 r2 ⟨i,j,e1,e2,q⟩ k=>by
 subst e1 e2;exact ⟨i,j,zI r1,zI r2,k _ _ _ _ _ q .refl w .int⟩⟩
theorem W9 {f:Int->Int->Bool}:xZ (rI0 fun i j=>.bl (f i j)) (aI0 fun i j=>.bl (f i j)):=⟨fun w r1 r2 ⟨i,j,e1,e2,q⟩ k=>by
 subst e1 e2;exact ⟨i,j,zI r1,zI r2,k _ _ _ _ _ q .refl w .bl⟩⟩
noncomputable def aU (g:Int->Dat):AV->MH->AK->Prop:=fun x M Q=>∃ i,x=.d (.int i)/\Q (.d (g i)) M
theorem Lc {f:Int->Int}:LH (rU fun i=>.int (f i)) (aU fun i=>.int (f i)):=⟨fun w r1 ⟨i,e1,q⟩ k=>by
 subst e1;exact ⟨i,zI r1,k _ _ _ _ _ q .refl w .int⟩⟩
noncomputable def eqS:Dat->Dat->Option Bool
 | .non,.non=>some true | .non,.int _=>some false | .int _,.non=>some false | .non,.bl _=>some false | .bl _,.non=>some false | .non,.str _=>some false | .str _,.non=>some false
 | .int i,.int j=>some (decide (i=j)) | .bl a,.bl b=>some (decide (a=b)) | .str a,.str b=>some (decide (a=b))
 | .int _,.str _=>some false | .str _,.int _=>some false | .bl _,.str _=>some false | .str _,.bl _=>some false
 | _,_=>none
noncomputable def j6:AV->Bool
 | .d .non=>true
 | _=>false
theorem VE {H:Hp}{O:Own}{M:MH}{v:V}{x:AV}(r:zo H O M v x):decide (v=V.non)=j6 x:=by
 cases x with
 | ref a=>rw [r.1];rfl
 | tp l=>obtain ⟨_,_,e,_⟩:=r;rw [e];rfl
 | d x=>cases (show Rep H O v x from r) <;> rfl
noncomputable def MB (f:Bool->Bool):AR2:=fun x y M Q=>y=.d .non/\Q (.d (.bl (f (j6 x)))) M
theorem EY:xZ (fun x y H Q=>y=V.non/\Q (V.bl (decide (x=V.non))) H) (MB id):=⟨fun w r1 r2 ⟨e,q⟩ k=>by
 subst e;exact ⟨Zw r2,by rw [VE r1];exact k _ _ _ _ _ q .refl w .bl⟩⟩
theorem B1 {H:Hp}{O:Own}{M:MH}{xs:List V}{l:List AV}(r:zh H O M xs l){i:Int}{x:AV}(h:atI l i=some x):∃ v,atI xs i=some v/\zo H O M v x:=by
 unfold atI at h ⊢
 rw [r.1]
 cases e:ixN l.length i with
 | none=>rw [e] at h;cases h
 | some j=>rw [e] at h;exact r.get h
noncomputable def aIx (s:AV->MH->Option (List AV)):AR2:=fun x y M Q=>∃ l i z,s x M=some l/\y=.d (.int i)/\atI l i=some z/\Q z M
theorem As:xZ (Xi K) (aIx qM):=⟨fun w r1 r2 ⟨l,i,z,h,e,hz,q⟩ k=>by
 subst e
 obtain ⟨a,xs,rfl,h1,r⟩:=JW w r1 h
 obtain ⟨v,hv,rv⟩:=B1 r hz
 exact ⟨a,xs,i,v,rfl,zI r2,h1.elim (fun h=>.inl (SqL.of h)) (fun h=>.inr (SqT.of h)),hv,k _ _ _ _ _ q .refl w rv⟩⟩
structure BM (r:R2)(a:AV->AV->MH->(List AV->Prop)->Prop):Prop where
 go:∀ {x y:V} {dx dy:AV} {H:Hp} {O:Own} {M:MH} {Q:VK} {Q':List AV->Prop},Wf H O M->zo H O M x dx->zo H O M y dy->a dx dy M Q'->(∀ l ys,Q' l->zh H O M ys l->∀ p,H p=none->Q (.ref p) (upd H p (.lst ys)))->r x y H Q
noncomputable def fOp (r:AV->AV->MH->(List AV->Prop)->Prop)(a b:AE):AF:=fun ρ M Q=>a ρ M fun x M1=>b ρ M1 fun y M2=>r x y M2 fun l=>Q l M2
theorem ZU {ra:AV->AV->MH->(List AV->Prop)->Prop}{t u:TE}{a b:AE}(hr:BM r ra)(h1:zz t a)(h2:zz u b):Qu (tOp r t u) (fOp ra a b):=
 ⟨fun w e q k=>h1.go w e q fun x M1 v H1 O1 q1 k1 w1 r1=>h2.go w1 (e.ext k1) q1 fun y M2 u H2 O2 q2 k2 w2 r2=>hr.go w2 (r1.ext k2) r2 q2 fun l ys q3 r3 p hp=>
  k l M2 p ys _ _ q3 ((k1.trans k2).trans (qw w2 hp _)) (kU w2 hp _ (fun _ z=>nomatch z)) (.inl rfl) (w2.fresh hp).2 (xg w2 (k1.trans k2) hp) zi (r3.ext (qw w2 hp _))⟩
noncomputable def IQ:AV->AV->MH->(List AV->Prop)->Prop:=fun x y M Q=>∃ l m,qi x M=some l/\qi y M=some m/\l.length+m.length<=aT/\Q (l ++ m)
theorem Qf:BM DP IQ:=⟨fun w r1 r2 ⟨l,m,h1,h2,hs,q⟩ k=>by
 obtain ⟨a,xs,rfl,e1,p1⟩:=qg w r1 h1
 obtain ⟨b,ys,rfl,e2,p2⟩:=qg w r2 h2
 exact ⟨a,b,xs,ys,rfl,rfl,e1,e2,by rw [p1.1,p2.1];exact hs,k _ _ q (p1.append p2)⟩⟩
theorem zh.rep {H:Hp}{O:Own}{M:MH}{xs:List V}{l:List AV}(a:zh H O M xs l):∀ k:Nat,zh H O M (aH k xs).flatten (aH k l).flatten
 | 0=>.nil
 | k+1=>by rw [cQ,cQ,dH,dH];exact a.append (zh.rep a k)
noncomputable def GC:AV->AV->MH->(List AV->Prop)->Prop:=fun x y M Q=>∃ l k,qi x M=some l/\y=.d (.int k)/\-(2 ^ 63)<=k/\k<2 ^ 63/\l.length * k.toNat<=aT/\Q (aH k.toNat l).flatten
theorem QQ:BM E2 GC:=⟨fun w r1 r2 ⟨l,n,h1,e,b1,b2,hs,q⟩ k=>by
 subst e
 obtain ⟨a,xs,rfl,e1,p1⟩:=qg w r1 h1
 exact ⟨a,n,xs,rfl,zI r2,e1,b1,b2,by rw [p1.1];exact hs,k _ _ q (p1.rep _)⟩⟩
abbrev AO:=ASt->MH->(Option Int->MH->Prop)->Prop
structure Y2 (t:TO)(a:AO):Prop where
 go:∀ {σ:St} {H:Hp} {O:Own} {ρ:ASt} {M:MH} {Q:Option Int->Hp->Prop} {Q':Option Int->MH->Prop},Wf H O M->Er H O M σ ρ->a ρ M Q'->(∀ x M' H' O',Q' x M'->Ext H O M H' O' M'->Wf H' O' M'->Q x H')->t σ H Q
noncomputable def Lm:AO:=fun _ M Q=>Q none M
noncomputable def F0 (a:AE):AO:=fun ρ M Q=>a ρ M fun x M1=>∃ i,x=.d (.int i)/\Q (some i) M1
theorem Dc:Y2 Z1 Lm:=⟨fun w _ q k=>k _ _ _ _ q .refl w⟩
theorem V8 {t:TE}{a:AE}(h:zz t a):Y2 (Vd t) (F0 a):=⟨fun w e q k=>h.go w e q fun x M1 v H1 O1 ⟨i,e1,q1⟩ k1 w1 r1=>by
 subst e1;exact ⟨i,zI r1,k _ _ _ _ q1 k1 w1⟩⟩
noncomputable def Yb {α:Type}(xs:List α)(lo hi:Option Int):List α:=(xs.drop (HT.sIx xs.length 0 lo)).take (HT.sIx xs.length xs.length hi - HT.sIx xs.length 0 lo)
theorem zh.cut (a:zh H O M xs l)(lo hi:Option Int):zh H O M (Q6 xs lo hi) (Yb l lo hi):=by
 unfold Q6 Yb
 rw [a.1]
 exact (a.drop _).take _
noncomputable def fSl (a:AE)(lo hi:AO):AF:=fun ρ M Q=>a ρ M fun x M1=>lo ρ M1 fun i M2=>hi ρ M2 fun j M3=>∃ l,qi x M3=some l/\Q (Yb l i j) M3
theorem Ek {t:TE}{tl th:TO}{a:AE}{lo hi:AO}(h1:zz t a)(h2:Y2 tl lo)(h3:Y2 th hi):Qu (tSl (HY K) t tl th) (fSl a lo hi):=
 ⟨fun w e q k=>h1.go w e q fun x M1 v H1 O1 q1 k1 w1 r1=>h2.go w1 (e.ext k1) q1 fun i M2 H2 O2 q2 k2 w2=>h3.go w2 (e.ext (k1.trans k2)) q2 fun j M3 H3 O3 ⟨l,hl,q3⟩ k3 w3=>by
  obtain ⟨a,xs,rfl,e1,p1⟩:=qg w3 (r1.ext (k2.trans k3)) hl
  exact ⟨a,xs,rfl,SqL.of e1,fun p hp=>k _ _ p _ _ _ q3 (((k1.trans k2).trans k3).trans (qw w3 hp _)) (kU w3 hp _ (fun _ z=>nomatch z)) (.inl rfl) (w3.fresh hp).2 (xg w3 ((k1.trans k2).trans k3) hp) zi ((p1.cut i j).ext (qw w3 hp _))⟩⟩
theorem DI (w:Wf H O M) (hp:H p=none) {l:List Dat}(r:zh H O M xs (l.map .d)):zo (upd H p (.tup xs)) O M (.ref p) (.d (.tup l)):=
 have r2:=r.pure
 Rep.tup (w.fresh hp).1 zi r2.1 fun i x d e1 e2=>(r2.2 i x d e1 e2).ext (qx w hp _)
mutual
noncomputable def eqD:Dat->Dat->Bool
 | .non,.non=>true
 | .bl a,.bl b=>a == b
 | .bl a,.int b=>(if a then 1 else 0) == b
 | .int a,.bl b=>a == (if b then 1 else 0)
 | .int a,.int b=>a == b
 | .str a,.str b=>a == b
 | .lst a,.lst b=>vK a b
 | .tup a,.tup b=>vK a b
 | _,_=>false
noncomputable def vK:List Dat->List Dat->Bool
 | [],[]=>true
 | a :: r,b :: r'=>eqD a b && vK r r'
 | _,_=>false
end
mutual
noncomputable def dp:Dat->Nat
 | .lst l=>dps l+1
 | .tup l=>dps l+1
 | .rng _ _ _=>1000
 | .scr _ _=>1000
 | .ty _=>1000
 | _=>0
noncomputable def dps:List Dat->Nat
 | []=>0
 | a :: r=>max (dp a) (dps r)
end
theorem Gh {l:List Dat}{n:Nat}(h:∀ d ∈ l,dp d<=n):dps l<=n:=by
 induction l with
 | nil=>exact cb _
 | cons a r ih=>rw [dps];exact fq.mpr ⟨h a (by simp),ih fun d hd=>h d (by simp [hd])⟩
theorem qk {l:List Dat}{d:Dat}(h:d ∈ l):dp d<=dps l:=by
 induction l with
 | nil=>cases h
 | cons a r ih=>
  rw [dps]
  rcases aJ.mp h with rfl | h
  ·exact iN _ _
  ·exact bu (ih h) (ik _ _)
theorem ku:∀ (l m:List Dat),l.length=m.length->vK l m=(bP l.length).all fun j=>eqD (l.getD j .non) (m.getD j .non)
 | [],[],_=>rfl
 | a :: r,b :: r',h=>by
  rw [vK,ku r r' (by simpa using h),aV,List.range_succ_eq_map,List.all_cons,gF];rfl
 | [],_ :: _,h=>by simp at h
 | _ :: _,[],h=>by simp at h
theorem kl:∀ (l m:List Dat),l.length ≠ m.length->vK l m=false
 | [],[],h=>absurd rfl h
 | a :: r,b :: r',h=>by rw [vK,kl r r' (fun z=>h (by simp [z])),gM]
 | [],_ :: _,h=>by simp [vK]
 | _ :: _,[],h=>by simp [vK]
theorem AX (l m:List Dat):eqD (.lst l) (.tup m)=false:=by simp [eqD]
theorem WW (l m:List Dat):eqD (.tup l) (.lst m)=false:=by simp [eqD]
theorem DL {p:Dat->Prop}(h:∀ a,(∀ b,dp b<dp a->p b)->p a)(a:Dat):p a:=by
 have:∀ n a,dp a<=n->p a:=fun n=>by
  induction n with
  | zero=>intro a ha;exact h a fun b hb=>absurd hb (by omega)
  | succ n ih=>intro a ha;exact h a fun b hb=>ih b (by omega)
 exact this (dp a) a (aL _)
theorem wM {l:List Dat}(h:∀ d ∈ l,eqD d d=true):vK l l=true:=by
 induction l with
 | nil=>rfl
 | cons a r ih=>rw [vK,h a (by simp),ih fun d hd=>h d (by simp [hd])];rfl
theorem Qg {a:Dat}:dp a<1000->eqD a a=true:=by
 refine DL (p:=fun a=>dp a<1000->eqD a a=true) (fun a ih ha=>?_) a
 cases a with
 | non=>rfl
 | bl b=>rw [eqD];simp
 | int i=>rw [eqD];simp
 | str x=>rw [eqD];simp
 | lst l=>
  rw [eqD]
  rw [dp] at ha ih
  exact wM fun d hd=>ih d (by have:=qk hd;omega) (by have:=qk hd;omega)
 | tup l=>
  rw [eqD]
  rw [dp] at ha ih
  exact wM fun d hd=>ih d (by have:=qk hd;omega) (by have:=qk hd;omega)
 | rng a b c=>rw [dp] at ha;omega
 | scr _ l=>rw [dp] at ha;omega
 | ty l=>rw [dp] at ha;omega
theorem Rep.fn {H:Hp}{O O':Own}{v:V}{a b:Dat}(r:Rep H O v a):Rep H O' v b->dp a<1000->dp b<1000->a=b:=by
 induction r generalizing b with
 | non=>intro r' _ _;cases r';rfl
 | bl=>intro r' _ _;cases r';rfl
 | int=>intro r' _ _;cases r';rfl
 | str=>intro r' _ _;cases r';rfl
 | ty=>intro r' h _;rw [dp] at h;omega
 | rng _ _=>intro r' h _;rw [dp] at h;omega
 | scr _ _=>intro r' h _;rw [dp] at h;omega
 | scrK _=>intro r' h _;rw [dp] at h;omega
 | @lst a xs l o1 h1 l1 r1 ih=>
  intro r' ha hb
  cases r' with
  | @lst _ ys m o2 h2 l2 r2=>
   rw [h1] at h2;cases h2
   congr 1
   refine fX (l1.symm.trans l2) fun i i1 i2=>?_
   have i0:i<xs.length:=by omega
   rw [dp] at ha hb
   refine ih i xs[i] l[i] (by simp [i0]) (by simp [i1]) (r2 i xs[i] m[i] (by simp [i0]) (by simp [i2])) ?_ ?_
   ·have:=qk (bI i1);omega
   ·have:=qk (bI i2);omega
  | @tup _ ys m o2 h2=>rw [h1] at h2;cases h2
  | rng o2 h2=>rw [dp] at hb;omega
  | scr o2 h2=>rw [dp] at hb;omega
  | scrK _=>rw [dp] at hb;omega
 | @tup a xs l o1 h1 l1 r1 ih=>
  intro r' ha hb
  cases r' with
  | @tup _ ys m o2 h2 l2 r2=>
   rw [h1] at h2;cases h2
   congr 1
   refine fX (l1.symm.trans l2) fun i i1 i2=>?_
   have i0:i<xs.length:=by omega
   rw [dp] at ha hb
   refine ih i xs[i] l[i] (by simp [i0]) (by simp [i1]) (r2 i xs[i] m[i] (by simp [i0]) (by simp [i2])) ?_ ?_
   ·have:=qk (bI i1);omega
   ·have:=qk (bI i2);omega
  | @lst _ ys m o2 h2=>rw [h1] at h2;cases h2
  | rng o2 h2=>rw [dp] at hb;omega
  | scr o2 h2=>rw [dp] at hb;omega
  | scrK _=>rw [dp] at hb;omega
section
variable {X:Cx}{pins:List (aE × Obj)}{s:ax}{σ:St}{H:Hp}
theorem kr {us:List am}(r:zx xs us) (h:j<us.toArray.size):∃ x,xs[j]?=some x/\zC x us.toArray[j]:=by
 have h':j<us.length:=by simpa using h
 have hx:j<xs.length:=by rw [r.length];exact h'
 obtain ⟨u,hu,ru⟩:=r.get (i:=j) (aq hx)
 have e:us.toArray[j]=u:=by
  have:=(aP.mp hu).2
  simpa using this
 exact ⟨xs[j],aq hx,by rw [e];exact ru⟩
theorem VW (I : Inv X pins σ H s){A : bo}{p q : aE}{O O' : Own}{a b : Dat}(ih : ∀ (c d : Dat) (v u : V) (v' u' : am), dp c < dp a -> Rep H O v c -> Rep H O' u d -> dp d < 1000 -> zC v v' -> zC u u' -> eE A.in1 s v' u' (eqD c d))
    (ra:Rep H O (.ref p) a) (rb:Rep H O' (.ref q) b) (ha:dp a<1000) (hb:dp b<1000) (hu:A.units<iK):fY A s (.ref p) (.ref q) (eqD a b):=by
  cases ra with
  | @lst _ xs l o1 h1 l1 r1=>
    obtain ⟨us,u1,p1,z1⟩:=I.list (SqL.of h1)
    cases rb with
    | @lst _ ys m o2 h2 l2 r2=>
      obtain ⟨ws,u2,p2,z2⟩:=I.list (SqL.of h2)
      have s1:us.toArray.size=l.length:=by rw [aR,<- u1.length,l1]
      have s2:ws.toArray.size=m.length:=by rw [aR,<- u2.length,l2]
      by_cases e:l.length=m.length
      · have h := fY.lists (A := A) (e := fun j => eqD (l.getD j .non) (m.getD j .non)) p1.isList p2.isList (by rw [s1, s2, e]) hu (fun j j1 j2 => by
          obtain ⟨x,hx,rx⟩:=kr u1 j1
          obtain ⟨y,hy,ry⟩:=kr u2 j2
          have k1:j<l.length:=by rw [<- s1];exact j1
          have k2:j<m.length:=by rw [<- s2];exact j2
          rw [dp] at ha hb ih
          refine ih _ _ x y _ _ ?_ (r1 j x _ hx ?_) (r2 j y _ hy ?_) ?_ rx ry
          · rw [aA,aq k1]
            have:=qk (bI k1);show dp l[j]<_;omega
          · rw [aA,aq k1];rfl
          · rw [aA,aq k2];rfl
          · rw [aA,aq k2]
            have:=qk (bI k2);show dp m[j]<_;omega)
        rw [s1,<- ku l m e] at h
        rw [eqD];exact h
      · rw [eqD,kl l m e]
        exact fY.lists_lengths p1.isList p2.isList (by rw [s1,s2];simpa using e) hu
    | @tup _ ys m o2 h2 l2 r2=>
      obtain ⟨ws,u2,p2,z2⟩:=I.tuple (SqT.of h2)
      rw [AX]
      exact fY.list_tuple p1.isList p2 hu
    | rng o2 h2=>rw [dp] at hb;omega
    | scr o2 h2=>rw [dp] at hb;omega
    | scrK _=>rw [dp] at hb;omega
  | @tup _ xs l o1 h1 l1 r1=>
    obtain ⟨us,u1,p1,z1⟩:=I.tuple (SqT.of h1)
    cases rb with
    | @tup _ ys m o2 h2 l2 r2=>
      obtain ⟨ws,u2,p2,z2⟩:=I.tuple (SqT.of h2)
      have s1:us.toArray.size=l.length:=by rw [aR,<- u1.length,l1]
      have s2:ws.toArray.size=m.length:=by rw [aR,<- u2.length,l2]
      have h := fY.tuples (A := A) (e := fun j => eqD (l.getD j .non) (m.getD j .non)) (show s.heap.IsTuple p us.toArray from p1) (show s.heap.IsTuple q ws.toArray from p2) hu (fun j j1 j2 => by
          obtain ⟨x,hx,rx⟩:=kr u1 j1
          obtain ⟨y,hy,ry⟩:=kr u2 j2
          have k1:j<l.length:=by rw [<- s1];exact j1
          have k2:j<m.length:=by rw [<- s2];exact j2
          rw [dp] at ha hb ih
          refine ih _ _ x y _ _ ?_ (r1 j x _ hx ?_) (r2 j y _ hy ?_) ?_ rx ry
          · rw [aA,aq k1]
            have:=qk (bI k1);show dp l[j]<_;omega
          · rw [aA,aq k1];rfl
          · rw [aA,aq k2];rfl
          · rw [aA,aq k2]
            have:=qk (bI k2);show dp m[j]<_;omega)
      rw [s1,s2] at h
      rw [eqD]
      by_cases e:l.length=m.length
      · rw [<- e,Nat.min_self,beq_self_eq_true,Bool.and_true,<- ku l m e] at h
        exact h
      · rw [kl l m e]
        rw [show (l.length == m.length)=false by simpa using e,gM] at h
        exact h
    | @lst _ ys m o2 h2 l2 r2=>
      obtain ⟨ws,u2,p2,z2⟩:=I.list (SqL.of h2)
      rw [WW]
      exact fY.tuple_list p1 p2.isList hu
    | rng o2 h2=>rw [dp] at hb;omega
    | scr o2 h2=>rw [dp] at hb;omega
    | scrK _=>rw [dp] at hb;omega
  | rng o2 h2=>rw [dp] at ha;omega
  | scr o2 h2=>rw [dp] at ha;omega
  | scrK _=>rw [dp] at ha;omega
theorem Nf (I:Inv X pins σ H s) (h:H a=some (.lst xs)):∃ us,s.heap.IsList a us:=let ⟨_,_,p,_⟩:=I.list (SqL.of h);⟨_,p.isList⟩
theorem Nb (I:Inv X pins σ H s) (h:H a=some (.tup xs)):∃ us,s.heap.IsTuple a us:=let ⟨_,_,p,_⟩:=I.tuple (SqT.of h);⟨_,p⟩
local macro_rules | `(tactic| walk_at "sc")=>`(tactic| first
 | with_reducible exact .same _ | with_reducible exact .none_none | with_reducible exact .none_bool _ | with_reducible exact .none_int _ _ | with_reducible exact .none_str _ _ | with_reducible exact .bool_none _ | with_reducible exact .bool_bool _ _ | with_reducible exact .bool_int _ _ _ | with_reducible exact .bool_str _ _ _ | with_reducible exact .int_none _ _ | with_reducible exact .int_bool _ _ _ | with_reducible exact .int_int _ _ _ _ | with_reducible exact .int_str _ _ _ _ | with_reducible exact .str_none _ _ | with_reducible exact .str_bool _ _ _ | with_reducible exact .str_int _ _ _ _ | with_reducible exact .str_str _ _ _ _)
theorem ls_ (I:Inv X pins σ H s) (h:H a=some (.lst xs)):s.heap.IsList a (ii (Nf I h)):=fT _
theorem ts_ (I:Inv X pins σ H s) (h:H a=some (.tup xs)):s.heap.IsTuple a (ii (Nb I h)):=fT _
local macro_rules | `(tactic| walk_at "sq")=>`(tactic| first
 | with_reducible exact .none_list (ls_ (by assumption) (by assumption)) (by assumption) | with_reducible exact .bool_list _ (ls_ (by assumption) (by assumption)) (by assumption) | with_reducible exact .int_list _ _ (ls_ (by assumption) (by assumption)) (by assumption) | with_reducible exact .str_list _ _ (ls_ (by assumption) (by assumption)) (by assumption) | with_reducible exact .list_none (ls_ (by assumption) (by assumption)) (by assumption) | with_reducible exact .list_bool _ (ls_ (by assumption) (by assumption)) (by assumption) | with_reducible exact .list_int _ _ (ls_ (by assumption) (by assumption)) (by assumption) | with_reducible exact .list_str _ _ (ls_ (by assumption) (by assumption)) (by assumption)
 | with_reducible exact .none_tuple (ts_ (by assumption) (by assumption)) (by assumption) | with_reducible exact .bool_tuple _ (ts_ (by assumption) (by assumption)) (by assumption) | with_reducible exact .int_tuple _ _ (ts_ (by assumption) (by assumption)) (by assumption) | with_reducible exact .str_tuple _ _ (ts_ (by assumption) (by assumption)) (by assumption) | with_reducible exact .tuple_none (ts_ (by assumption) (by assumption)) (by assumption) | with_reducible exact .tuple_bool _ (ts_ (by assumption) (by assumption)) (by assumption) | with_reducible exact .tuple_int _ _ (ts_ (by assumption) (by assumption)) (by assumption) | with_reducible exact .tuple_str _ _ (ts_ (by assumption) (by assumption)) (by assumption))
theorem Xx (I : Inv X pins σ H s){O O' : Own}(A : bo)(hu : A.units < iK)(a b : Dat)(v u : V)(v' u' : am)(ha : dp a < 1000)(ra : Rep H O v a)(rb : Rep H O' u b)(hb : dp b < 1000)(rv : zC v v')(ru : zC u u')
    (ih:∀ (c d:Dat) (v u:V) (v' u':am),dp c<dp a->Rep H O v c->Rep H O' u d->dp d<1000->zC v v'->zC u u'->eE A.in1 s v' u' (eqD c d)):eE A s v' u' (eqD a b):=by
  by_cases hr:∃ p q,v=.ref p/\u=.ref q
  · obtain ⟨p,q,rfl,rfl⟩:=hr
    cases rv
    cases ru
    by_cases e:p=q
    · subst e
      rw [<- ra.fn rb ha hb,Qg ha]
      exact .same _
    · exact .of_refs e (VW I ih ra rb ha hb hu)
  · cases ra <;> cases rb <;> first
      | with_reducible exact absurd ⟨_,_,rfl,rfl⟩ hr
      | (rw [dp] at ha;omega)
      | (rw [dp] at hb;omega)
      | ((first | (obtain ⟨t0,rfl⟩:=rv) | cases rv);(first | (obtain ⟨t1,rfl⟩:=ru) | cases ru);simp only [eqD,i4,h7];first | walk_at "sc" | walk_at "sq")
theorem BJ (I:Inv X pins σ H s){O O':Own}:∀ (n:Nat) (A:bo),A.units+n<iK->∀ (a b:Dat) (v u:V) (v' u':am),dp a<=n->n<1000->Rep H O v a->Rep H O' u b->dp b<1000->zC v v'->zC u u'->eE A s v' u' (eqD a b):=by
 intro n
 induction n with
 | zero=>
  intro A hu a b v u v' u' ha _ ra rb hb rv ru
  exact Xx I A (by omega) a b v u v' u' (by omega) ra rb hb rv ru fun _ _ _ _ _ _ h=>absurd h (by omega)
 | succ n ih=>
  intro A hu a b v u v' u' ha hn ra rb hb rv ru
  exact Xx I A (by omega) a b v u v' u' (by omega) ra rb hb rv ru fun c d x y x' y' hc rc rd hd rx ry=>ih A.in1 (by show A.units+1+n<_;omega) c d x y x' y' (by omega) (by omega) rc rd hd rx ry
noncomputable def F7 (f:Bool->Bool):R2:=fun x y H Q=>∃ O O' a b,Rep H O x a/\Rep H O' y b/\dp a<=40/\dp b<=40/\Q (.bl (f (eqD a b))) H
theorem Ic (I:Inv X pins σ H s) (A:bo)(hu:A.units+41<iK)(a b:Dat)(v u:V)(v' u':am)(ha:dp a<=40)(ra:Rep H O v a)(rb:Rep H O' u b)(hb:dp b<=40)(rv:zC v v')(ru:zC u u'):fY A s v' u' (eqD a b):=by
  have ih:∀ (c d:Dat) (v u:V) (v' u':am),dp c<dp a->Rep H O v c->Rep H O' u d->dp d<1000->zC v v'->zC u u'->eE A.in1 s v' u' (eqD c d):=fun c d v u v' u' hc rc rd hd rv ru=>BJ I 40 A.in1 (by show A.units+1+40<_;omega) c d v u v' u' (by omega) (by omega) rc rd hd rv ru
  replace hu:A.units<iK:=by omega
  by_cases hr:∃ p q,v=.ref p/\u=.ref q
  · obtain ⟨p,q,rfl,rfl⟩:=hr
    cases rv
    cases ru
    exact VW I ih ra rb (by omega) (by omega) hu
  · cases ra <;> cases rb <;> first
      | with_reducible exact absurd ⟨_,_,rfl,rfl⟩ hr
      | (rw [dp] at ha;omega)
      | (rw [dp] at hb;omega)
      | ((first | (obtain ⟨t0,rfl⟩:=rv) | cases rv);(first | (obtain ⟨t1,rfl⟩:=ru) | cases ru);simp only [eqD,i4,h7];first | walk_at "sc" | walk_at "sq")
theorem Al (I : Inv X pins σ H s){A : bo}{p q : aE}{O O' : Own}{a b : Dat}(ih : ∀ (c d : Dat) (v u : V) (v' u' : am), dp c < dp a -> Rep H O v c -> Rep H O' u d -> dp d < 1000 -> zC v v' -> zC u u' -> eE A.in1 s v' u' (eqD c d))
    (ra:Rep H O (.ref p) a) (rb:Rep H O' (.ref q) b) (ha:dp a<1000) (hb:dp b<1000) (hu:A.units<iK):eR A s (.ref p) (.ref q) (!(eqD a b)):=by
  cases ra with
  | @lst _ xs l o1 h1 l1 r1=>
    obtain ⟨us,u1,p1,z1⟩:=I.list (SqL.of h1)
    cases rb with
    | @lst _ ys m o2 h2 l2 r2=>
      obtain ⟨ws,u2,p2,z2⟩:=I.list (SqL.of h2)
      have s1:us.toArray.size=l.length:=by rw [aR,<- u1.length,l1]
      have s2:ws.toArray.size=m.length:=by rw [aR,<- u2.length,l2]
      by_cases e:l.length=m.length
      · have h := eR.lists (A := A) (e := fun j => eqD (l.getD j .non) (m.getD j .non)) p1.isList p2.isList (by rw [s1, s2, e]) hu (fun j j1 j2 => by
          obtain ⟨x,hx,rx⟩:=kr u1 j1
          obtain ⟨y,hy,ry⟩:=kr u2 j2
          have k1:j<l.length:=by rw [<- s1];exact j1
          have k2:j<m.length:=by rw [<- s2];exact j2
          rw [dp] at ha hb ih
          refine ih _ _ x y _ _ ?_ (r1 j x _ hx ?_) (r2 j y _ hy ?_) ?_ rx ry
          · rw [aA,aq k1]
            have:=qk (bI k1);show dp l[j]<_;omega
          · rw [aA,aq k1];rfl
          · rw [aA,aq k2];rfl
          · rw [aA,aq k2]
            have:=qk (bI k2);show dp m[j]<_;omega)
        rw [s1,<- ku l m e] at h
        rw [eqD];exact h
      · rw [eqD,kl l m e]
        exact eR.lists_lengths p1.isList p2.isList (by rw [s1,s2];simpa using e) hu
    | @tup _ ys m o2 h2 l2 r2=>
      obtain ⟨ws,u2,p2,z2⟩:=I.tuple (SqT.of h2)
      rw [AX]
      exact eR.list_tuple p1.isList p2 hu
    | rng o2 h2=>rw [dp] at hb;omega
    | scr o2 h2=>rw [dp] at hb;omega
    | scrK _=>rw [dp] at hb;omega
  | @tup _ xs l o1 h1 l1 r1=>
    obtain ⟨us,u1,p1,z1⟩:=I.tuple (SqT.of h1)
    cases rb with
    | @tup _ ys m o2 h2 l2 r2=>
      obtain ⟨ws,u2,p2,z2⟩:=I.tuple (SqT.of h2)
      have s1:us.toArray.size=l.length:=by rw [aR,<- u1.length,l1]
      have s2:ws.toArray.size=m.length:=by rw [aR,<- u2.length,l2]
      have h := eR.tuples (A := A) (e := fun j => eqD (l.getD j .non) (m.getD j .non)) (show s.heap.IsTuple p us.toArray from p1) (show s.heap.IsTuple q ws.toArray from p2) hu (fun j j1 j2 => by
          obtain ⟨x,hx,rx⟩:=kr u1 j1
          obtain ⟨y,hy,ry⟩:=kr u2 j2
          have k1:j<l.length:=by rw [<- s1];exact j1
          have k2:j<m.length:=by rw [<- s2];exact j2
          rw [dp] at ha hb ih
          refine ih _ _ x y _ _ ?_ (r1 j x _ hx ?_) (r2 j y _ hy ?_) ?_ rx ry
          · rw [aA,aq k1]
            have:=qk (bI k1);show dp l[j]<_;omega
          · rw [aA,aq k1];rfl
          · rw [aA,aq k2];rfl
          · rw [aA,aq k2]
            have:=qk (bI k2);show dp m[j]<_;omega)
      rw [s1,s2] at h
      rw [eqD]
      by_cases e:l.length=m.length
      · rw [<- e,Nat.min_self,beq_self_eq_true,Bool.and_true,<- ku l m e] at h
        exact h
      · rw [kl l m e]
        rw [show (l.length == m.length)=false by simpa using e,gM] at h
        exact h
    | @lst _ ys m o2 h2 l2 r2=>
      obtain ⟨ws,u2,p2,z2⟩:=I.list (SqL.of h2)
      rw [WW]
      exact eR.tuple_list p1 p2.isList hu
    | rng o2 h2=>rw [dp] at hb;omega
    | scr o2 h2=>rw [dp] at hb;omega
    | scrK _=>rw [dp] at hb;omega
  | rng o2 h2=>rw [dp] at ha;omega
  | scr o2 h2=>rw [dp] at ha;omega
  | scrK _=>rw [dp] at ha;omega
theorem Vn (I:Inv X pins σ H s) (A:bo)(hu:A.units+41<iK)(a b:Dat)(v u:V)(v' u':am)(ha:dp a<=40)(ra:Rep H O v a)(rb:Rep H O' u b)(hb:dp b<=40)(rv:zC v v')(ru:zC u u'):eR A s v' u' (!(eqD a b)):=by
  have ih:∀ (c d:Dat) (v u:V) (v' u':am),dp c<dp a->Rep H O v c->Rep H O' u d->dp d<1000->zC v v'->zC u u'->eE A.in1 s v' u' (eqD c d):=fun c d v u v' u' hc rc rd hd rv ru=>BJ I 40 A.in1 (by show A.units+1+40<_;omega) c d v u v' u' (by omega) (by omega) rc rd hd rv ru
  replace hu:A.units<iK:=by omega
  by_cases hr:∃ p q,v=.ref p/\u=.ref q
  · obtain ⟨p,q,rfl,rfl⟩:=hr
    cases rv
    cases ru
    exact Al I ih ra rb (by omega) (by omega) hu
  · cases ra <;> cases rb <;> first
      | with_reducible exact absurd ⟨_,_,rfl,rfl⟩ hr
      | (rw [dp] at ha;omega)
      | (rw [dp] at hb;omega)
      | ((first | (obtain ⟨t0,rfl⟩:=rv) | cases rv);(first | (obtain ⟨t1,rfl⟩:=ru) | cases ru);simp only [eqD,i4,h7];first | walk_at "sc" | walk_at "sq")
theorem jB (hu:X.A.units+64<iK):OpR X (cP .Eq) (F7 id):=by
 intro pins s σ H x y v u Q I rx ry h
 obtain ⟨O,O',a,b,ra,rb,ha,hb,k⟩:=h
 exact Ic I X.A (by omega) a b x y v u ha ra rb hb rx ry _ _ _ _ ⟨.bl _,H,I,rfl,k⟩
theorem qL (hu:X.A.units+64<iK):OpR X (cP .NotEq) (F7 not):=by
 intro pins s σ H x y v u Q I rx ry h
 obtain ⟨O,O',a,b,ra,rb,ha,hb,k⟩:=h
 exact Vn I X.A (by omega) a b x y v u ha ra rb hb rx ry _ _ _ _ ⟨.bl _,H,I,rfl,k⟩
end
noncomputable def wb (x:AV)(M:MH):Option Dat:=match x with
 | .d x=>some x
 | .ref a=>match M a with
  | some (.lst l)=>(pur l).map .lst
  | _=>none
 | .tp _=>none
theorem G5 (x:Dat)(M:MH):wb (.d x) M=some x:=rfl
theorem Qr {H:Hp}{O:Own}{M:MH}{v:V}{x:AV}{d:Dat}(w:Wf H O M)(r:zo H O M v x)(h:wb x M=some d):∃ O',Rep H O' v d:=by
 cases x with
 | tp l=>cases h
 | d x=>cases h;exact ⟨O,r⟩
 | ref a=>
  unfold wb at h
  dsimp only at h
  cases e:M a with
  | none=>rw [e] at h;cases h
  | some o=>
   rw [e] at h
   cases o with
   | lst l=>
    dsimp only at h
    cases ep:pur l with
    | none=>rw [ep] at h;cases h
    | some ds=>
     rw [ep] at h
     cases h
     obtain ⟨xs,hx,rx⟩:=w.mo a _ e
     rw [jA ep] at rx
     have rp:=rx.pure
     refine ⟨EI O a,?_⟩
     rw [r.1]
     exact Rep.lst (fun z=>z.1 rfl) hx rp.1 fun i x d e1 e2=>(rp.2 i x d e1 e2).imp (xJ a)
   | _=>cases h
noncomputable def Li (f:Bool->Bool):AR2:=fun x y M Q=>∃ a b,wb x M=some a/\wb y M=some b/\dp a<=40/\dp b<=40/\Q (.d (.bl (f (eqD a b)))) M
theorem DG {f:Bool->Bool}:xZ (F7 f) (Li f):=⟨fun w r1 r2 ⟨a,b,e1,e2,h1,h2,q⟩ k=>by
 obtain ⟨O1,p1⟩:=Qr w r1 e1
 obtain ⟨O2,p2⟩:=Qr w r2 e2
 exact ⟨O1,O2,a,b,p1,p2,h1,h2,k _ _ _ _ _ q .refl w .bl⟩⟩
theorem Jr (i:Int):dp (.int i)=0:=by simp [dp]
variable {vs:List V}
theorem qD {x:AV}(r:zh H O M vs [x]):∃ v,vs=[v]/\zo H O M v x:=by
 obtain ⟨v1,r',rfl,a1,r2⟩:=r.cons_inv
 rw [r2.nil_inv];exact ⟨v1,rfl,a1⟩
theorem ya {x y:AV}(r:zh H O M vs [x,y]):∃ v u,vs=[v,u]/\zo H O M v x/\zo H O M u y:=by
 obtain ⟨v1,r',rfl,a1,r2⟩:=r.cons_inv
 obtain ⟨v2,rfl,a2⟩:=qD r2
 exact ⟨v1,v2,rfl,a1,a2⟩
noncomputable def Il:List AV->MH->AK->Prop:=fun xs M Q=>∃ x l,xs=[x]/\qM x M=some l/\Q (.d (.int (l.length:Nat))) M
theorem Eu:xp (fun xs H Q=>∃ p ys,xs=[V.ref p]/\(SqL K H p ys \/ SqT K H p ys)/\Q (V.int ys.length) H) Il:=⟨fun w r ⟨x,l,e,h,q⟩ k=>by
 subst e
 obtain ⟨v,rfl,rv⟩:=qD r
 obtain ⟨a,xs,rfl,h1,r1⟩:=JW w rv h
 exact ⟨a,xs,rfl,h1.elim (fun h=>.inl (SqL.of h)) (fun h=>.inr (SqT.of h)),by rw [r1.1];exact k _ _ _ _ _ q .refl w .int⟩⟩
noncomputable def bI2 (f:Int->Int->Int):List AV->MH->AK->Prop:=fun xs M Q=>∃ i j,xs=[.d (.int i),.d (.int j)]/\Q (.d (.int (f i j))) M
theorem Ge {f:Int->Int->Int}:xp (fun xs H Q=>∃ i j,xs=[V.int i,V.int j]/\Q (V.int (f i j)) H) (bI2 f):=⟨fun w r ⟨i,j,e,q⟩ k=>by
 subst e
 obtain ⟨v,u,rfl,rv,ru⟩:=ya r
 exact ⟨i,j,by rw [zI rv,zI ru],k _ _ _ _ _ q .refl w .int⟩⟩
noncomputable def FV:List AV->MH->AK->Prop:=fun xs M Q=>∃ c,xs=[.d (.bl c)]/\Q (.d (.int (if c=true then 1 else 0))) M
theorem WR:xp (fun xs H Q=>∃ k,xs=[V.bl k]/\Q (V.int (if k=true then 1 else 0)) H) FV:=⟨fun w r ⟨c,e,q⟩ k=>by
 subst e
 obtain ⟨v,rfl,rv⟩:=qD r
 exact ⟨c,by rw [j0 rv],k _ _ _ _ _ q .refl w .int⟩⟩
noncomputable def BF:List AV->MH->AK->Prop:=fun xs M Q=>∃ x l ds,xs=[x]/\qM x M=some l/\pur l=some ds/\Q (.d (.tup ds)) M
theorem Y0:xp (fun xs H Q=>∃ p ys,xs=[V.ref p]/\((SqL K H p ys/\∀ l,H l=none->Q (V.ref l) (upd H l (HO.tup ys))) \/ SqT K H p ys/\Q (V.ref p) H)) BF:=⟨fun w r ⟨x,l,ds,e,h,hp,q⟩ k=>by
 subst e
 obtain ⟨v,rfl,rv⟩:=qD r
 rw [jA hp] at h
 rcases jg h with h' | ⟨m,rfl,e2⟩
 ·obtain ⟨a,xs,rfl,h1,r1⟩:=qg w rv h'
  exact ⟨a,xs,rfl,.inl ⟨SqL.of h1,fun p hp=>k _ _ _ _ _ q (qx w hp _) (xS w hp _) (DI w hp r1)⟩⟩
 ·obtain rfl:ds=m:=by have:=congrArg pur e2;rw [qd,qd] at this;cases this;rfl
  obtain ⟨a,xs,rfl,h1,r1⟩:=jp (l:=ds.map .d) rv rfl
  exact ⟨a,xs,rfl,.inr ⟨SqT.of h1,k _ _ _ _ _ q .refl w rv⟩⟩⟩
structure FM (r:List V->Hp->VK->Prop)(a:List AV->MH->(List AV->Prop)->Prop):Prop where
 go:∀ {vs:List V} {xs:List AV} {H:Hp} {O:Own} {M:MH} {Q:VK} {Q':List AV->Prop},Wf H O M->zh H O M vs xs->a xs M Q'->(∀ l ys,Q' l->zh H O M ys l->∀ p,H p=none->Q (.ref p) (upd H p (.lst ys)))->r vs H Q
noncomputable def fCB (r:List AV->MH->(List AV->Prop)->Prop)(b:AA):AF:=fun ρ M Q=>b ρ M fun xs M1=>r xs M1 fun l=>Q l M1
theorem KY {r:List V->Hp->VK->Prop}{ra:List AV->MH->(List AV->Prop)->Prop} {b:AA}(hr:FM r ra)(h:qW u b):Qu (tCB r u) (fCB ra b):=
 ⟨fun w e q k=>h.go w e q fun x M1 v H1 O1 q1 k1 w1 r1=>hr.go w1 r1 q1 fun l ys q3 r3 p hp=>
  k l M1 p ys _ _ q3 (k1.trans (qw w1 hp _)) (kU w1 hp _ (fun _ z=>nomatch z)) (.inl rfl) (w1.fresh hp).2 (xg w1 k1 hp) zi (r3.ext (qw w1 hp _))⟩
theorem xo {H:Hp}{O:Own}{M:MH}:∀ {ns:List Int} {xs:List V},zh H O M xs (ns.map fun i=>AV.d (.int i))->xs=ns.map V.int
 | [],xs,r=>r.nil_inv
 | i :: ns,xs,r=>by
  obtain ⟨v,r',rfl,a1,r2⟩:=r.cons_inv
  rw [zI a1,xo r2];rfl
noncomputable def tyA (x:AV)(M:MH):Option String:=match x with
 | .d .non=>some "NoneType"
 | .d (.bl _)=>some "bool"
 | .d (.int _)=>some "int"
 | .d (.str _)=>some "str"
 | .d (.lst _)=>some "list"
 | .d (.tup _)=>some "tuple"
 | .tp _=>some "tuple"
 | .ref a=>match M a with
  | some (.lst _)=>some "list"
  | some (.dK _)=>some "dict"
  | some (.dT _)=>some "dict"
  | _=>none
 | _=>none
theorem V0 {K:au}{H:Hp}{O:Own}{M:MH}{v:V}{x:AV}{t:String}(w:Wf H O M)(r:zo H O M v x)(h:tyA x M=some t):kf K H v (.type t):=by
 cases x with
 | tp l=>obtain ⟨a,xs,e,_,h1,_⟩:=r;rw [e];cases h;exact .tup h1
 | d x=>
  cases (show Rep H O v x from r) with
  | non=>cases h;exact .non
  | bl=>cases h;exact .bl _
  | int=>cases h;exact .int _
  | str=>cases h;exact .str _
  | lst o e=>cases h;exact .lst e
  | tup o e=>cases h;exact .tup e
  | ty=>cases h
  | rng _ _=>cases h
  | scr _ _=>cases h
  | scrK _=>cases h
 | ref a=>
  unfold tyA at h
  dsimp only at h
  rw [r.1]
  cases e:M a with
  | none=>rw [e] at h;cases h
  | some o=>
   rw [e] at h
   have:=w.mo a o e
   cases o with
   | lst l=>cases h;obtain ⟨xs,hx,_⟩:=this;exact .lst hx
   | dK l=>cases h;obtain ⟨xs,hx,_⟩:=this;exact .dK hx
   | dT l=>cases h;obtain ⟨xs,hx,_⟩:=this;exact .dT hx
   | dN l=>cases h
   | ins C fs=>cases h
   | exc C fs=>cases h
   | tb R=>cases h
noncomputable def Mp:List AV->MH->AK->Prop:=fun xs M Q=>∃ x t c b,xs=[x,.d (.ty c)]/\tyA x M=some t/\isT t c=some b/\Q (.d (.bl b)) M
theorem ET:xp (fun xs H Q=>∃ x t c b,xs=[x,V.ty c]/\kf K H x (am.type t)/\isT t c=some b/\Q (V.bl b) H) Mp:=⟨fun w r ⟨x,t,c,b,e,h,hb,q⟩ k=>by
 subst e
 obtain ⟨v,u,rfl,rv,ru⟩:=ya r
 exact ⟨v,t,c,b,by rw [WF ru],V0 w rv h,hb,k _ _ _ _ _ q .refl w .bl⟩⟩
theorem XH {H:Hp}{O:Own}{M:MH}:∀ {ns:List String} {xs:List V},zh H O M xs ((ns.map Dat.ty).map .d)->xs=ns.map V.ty
 | [],xs,r=>r.nil_inv
 | i :: ns,xs,r=>by
  obtain ⟨v,r',rfl,a1,r2⟩:=r.cons_inv
  rw [WF a1,XH r2];rfl
noncomputable def QX:List Dat->Option (List String)
 | []=>some []
 | .ty n :: r=>(QX r).map (n :: ·)
 | _=>none
theorem K7:∀ {l:List Dat} {cs:List String},QX l=some cs->l=cs.map Dat.ty
 | [],cs,h=>by cases h;rfl
 | .ty n :: r,cs,h=>by
  unfold QX at h
  cases e:QX r with
  | none=>rw [e] at h;cases h
  | some m=>rw [e] at h;cases h;rw [K7 e];rfl
 | .non :: _,_,h=>by cases h
 | .bl _ :: _,_,h=>by cases h
 | .int _ :: _,_,h=>by cases h
 | .str _ :: _,_,h=>by cases h
 | .lst _ :: _,_,h=>by cases h
 | .tup _ :: _,_,h=>by cases h
 | .rng _ _ _ :: _,_,h=>by cases h
 | .scr _ _ :: _,_,h=>by cases h
noncomputable def F4:List AV->MH->AK->Prop:=fun xs M Q=>∃ x t l cs b,xs=[x,.d (.tup l)]/\QX l=some cs/\tyA x M=some t/\vw t cs=some b/\Q (.d (.bl b)) M
theorem WQ:xp (fun xs H Q=>∃ x t p cs b,xs=[x,V.ref p]/\H p=some (HO.tup (bQ V.ty cs))/\kf K H x (am.type t)/\vw t cs=some b/\Q (V.bl b) H) F4:=⟨fun w r ⟨x,t,l,cs,b,e,hc,h,hb,q⟩ k=>by
 subst e
 obtain ⟨v,u,rfl,rv,ru⟩:=ya r
 rw [K7 hc] at ru
 obtain ⟨a,xs,rfl,h1,r1⟩:=jp (l:=(cs.map Dat.ty).map .d) ru rfl
 rw [XH r1] at h1
 exact ⟨v,t,a,cs,b,rfl,h1,V0 w rv h,hb,k _ _ _ _ _ q .refl w .bl⟩⟩
noncomputable def FK:List AV->MH->AK->Prop:=fun xs M Q=>∃ i:Int,xs=[.d (.int i)]/\i.natAbs.log2<1920/\Q (.d (.str (aj (toString i)))) M
theorem Vq:xp (fun xs H Q=>∃ i:Int,xs=[V.int i]/\i.natAbs.log2<1920/\Q (V.str (aj (toString i))) H) FK:=⟨fun w r ⟨i,e,h,q⟩ k=>by
 subst e
 obtain ⟨v,rfl,rv⟩:=qD r
 exact ⟨i,by rw [zI rv],h,k _ _ _ _ _ q .refl w .str⟩⟩
theorem K3 {H:Hp}{O:Own}{M:MH}:∀ {ns:List Bool} {xs:List V},zh H O M xs (ns.map fun i=>AV.d (.bl i))->xs=ns.map V.bl
 | [],xs,r=>r.nil_inv
 | i :: ns,xs,r=>by
  obtain ⟨v,r',rfl,a1,r2⟩:=r.cons_inv
  rw [j0 a1,K3 r2];rfl
noncomputable def L9 (f:List Bool->Bool):List AV->MH->AK->Prop:=fun xs M Q=>∃ x bs,xs=[x]/\qi x M=some (bQ (fun b=>AV.d (.bl b)) bs)/\Q (.d (.bl (f bs))) M
theorem B5 {f:List Bool->Bool}:xp (fun xs H Q=>∃ p bs,xs=[V.ref p]/\SqL K H p (bQ V.bl bs)/\Q (V.bl (f bs)) H) (L9 f):=⟨fun w r ⟨x,bs,e,h,q⟩ k=>by
 subst e
 obtain ⟨v,rfl,rv⟩:=qD r
 obtain ⟨a,xs,rfl,h1,r1⟩:=qg w rv h
 rw [K3 r1] at h1
 exact ⟨a,bs,rfl,SqL.of h1,k _ _ _ _ _ q .refl w .bl⟩⟩
noncomputable def FZ:List AV->MH->AK->Prop:=fun xs M Q=>∃ b,xs=[.d (.int b)]/\Q (.d (.rng 0 b 1)) M
theorem W1:xp (fun xs H Q=>∃ b,xs=[V.int b]/\∀ (p:aE),H p=none->Q (V.ref p) (upd H p (Qt p 0 b 1))) FZ:=⟨fun w r ⟨b,e,q⟩ k=>by
 subst e
 obtain ⟨v,rfl,rv⟩:=qD r
 exact ⟨b,by rw [zI rv],fun p hp=>k _ _ _ _ _ q (qx w hp _) (xS w hp _) (Rep.rng (w.fresh hp).1 zi)⟩⟩
noncomputable def VN:List AV->MH->(List AV->Prop)->Prop:=fun xs M Q=>∃ a b c n,xs=[.d (.rng a b c)]/\eW a b c=true/\dh a b c=((n:Nat):Int)/\n<=100000/\Q ((jQ a c n).map fun i=>AV.d (.int i))
theorem wy:FM (fun xs H Q=>∃ p a b c n,xs=[.ref p]/\H p=some (Qt p a b c)/\eW a b c=true/\dh a b c=((n:Nat):Int)/\n<=100000/\∀ l,H l=none->Q (.ref l) (upd H l (.lst ((jQ a c n).map V.int)))) VN:=⟨fun {vs xs H O M Q Q'} w r ⟨a,b,c,n,e,h1,h2,h3,q⟩ k=>by
 subst e
 obtain ⟨v,rfl,rv⟩:=qD r
 cases (show Rep H O v (.rng a b c) from rv) with
 | rng o h=>exact ⟨_,a,b,c,n,rfl,h,h1,h2,h3,k _ _ q (Jv _)⟩⟩
structure Qq (r:V->List V->Hp->VK->Prop)(a:AV->List AV->MH->AK->Prop):Prop where
 go:∀ {x:V} {dx:AV} {vs:List V} {xs:List AV} {H:Hp} {O:Own} {M:MH} {Q:VK} {Q':AK},Wf H O M->zo H O M x dx->zh H O M vs xs->a dx xs M Q'->(∀ x M' v H' O',Q' x M'->Ext H O M H' O' M'->Wf H' O' M'->zo H' O' M' v x->Q v H')->r x vs H Q
noncomputable def aBM (r:AV->List AV->MH->AK->Prop)(a:AE)(b:AA):AE:=fun ρ M Q=>a ρ M fun x M1=>(∃ l,qi x M1=some l)/\b ρ M1 fun xs M2=>r x xs M2 Q
variable {ra:AV->List AV->MH->AK->Prop}
theorem Hy {r:V->List V->Hp->VK->Prop} {t:TE} {a:AE}{b:AA}(hr:Qq r ra)(h1:zz t a)(h2:qW u b):zz (tBM K "list" r t u) (aBM ra a b):=
 ⟨fun w e q k=>h1.go w e q fun x M1 v H1 O1 ⟨⟨l,hl⟩,q1⟩ k1 w1 r1=>⟨by
  obtain ⟨a,xs,rfl,hx,_⟩:=qg w1 r1 hl
  exact .inl ⟨rfl,xs,SqL.of hx⟩,h2.go w1 (e.ext k1) q1 fun y M2 u H2 O2 q2 k2 w2 r2=>hr.go w2 (r1.ext k2) r2 q2 fun z M3 v3 H3 O3 q3 k3 w3 r3=>k z M3 v3 H3 O3 q3 ((k1.trans k2).trans k3) w3 r3⟩⟩
noncomputable def LF (r:AV->List AV->MH->AK->Prop)(a:AE):AE:=fun ρ M Q=>a ρ M fun x M1=>(∃ l,qi x M1=some l)/\r x [] M1 Q
theorem DJ {r:V->List V->Hp->VK->Prop} {t:TE}{a:AE}(hr:Qq r ra)(h1:zz t a):zz (HS K "list" r t) (LF ra a):=
 ⟨fun w e q k=>h1.go w e q fun x M1 v H1 O1 ⟨⟨l,hl⟩,q1⟩ k1 w1 r1=>⟨by
  obtain ⟨a,xs,rfl,hx,_⟩:=qg w1 r1 hl
  exact .inl ⟨rfl,xs,SqL.of hx⟩,hr.go w1 r1 .nil q1 fun z M3 v3 H3 O3 q3 k3 w3 r3=>k z M3 v3 H3 O3 q3 (k1.trans k3) w3 r3⟩⟩
theorem Qe {xs':List V}(w:Wf H O M)(hm:M p=some (.lst l))(r:zh H O M xs' l'):Ext H O M (upd H p (.lst xs')) O (mup M p (.lst l'))/\Wf (upd H p (.lst xs')) O (mup M p (.lst l')):=
 have np:=je hm
 ⟨kF w np _ _,JA w np (fun _ z=>nomatch z) ⟨_,zi,r.ext (kF w np _ _)⟩⟩
noncomputable def K5:AV->List AV->MH->AK->Prop:=fun x xs M Q=>∃ p l y,x=.ref p/\xs=[y]/\M p=some (.lst l)/\l.length<aT/\Q (.d .non) (mup M p (.lst (l ++ [y])))
theorem JO:Qq yK K5:=⟨fun w r1 r2 ⟨p,l,y,e1,e2,hm,hs,q⟩ k=>by
 subst e1 e2
 obtain ⟨v,rfl,rv⟩:=qD r2
 obtain ⟨xs,hx,rx⟩:=w.mo p _ hm
 obtain ⟨k1,w1⟩:=Qe w hm (rx.snoc rv)
 exact ⟨p,xs,v,r1.1,rfl,hx,by rw [rx.1];exact hs,k _ _ _ _ _ q k1 w1 .non⟩⟩
noncomputable def LQ:AV->List AV->MH->AK->Prop:=fun x xs M Q=>∃ p l y,x=.ref p/\xs=[]/\M p=some (.lst l)/\l[l.length - 1]?=some y/\Q y (mup M p (.lst l.dropLast))
theorem zh.dropLast (a:zh H O M xs l):zh H O M xs.dropLast l.dropLast:=by
 rw [iR,iR,a.1];exact a.take _
theorem EM:Qq GT LQ:=⟨fun w r1 r2 ⟨p,l,y,e1,e2,hm,hy,q⟩ k=>by
 subst e1 e2
 obtain ⟨xs,hx,rx⟩:=w.mo p _ hm
 obtain ⟨v,hv,rv⟩:=rx.get hy
 obtain ⟨k1,w1⟩:=Qe w hm rx.dropLast
 exact ⟨p,xs,v,r1.1,r2.nil_inv,hx,by rw [rx.1];exact hv,k _ _ _ _ _ q k1 w1 (rv.ext k1)⟩⟩
noncomputable def WC (r:aE):MO->Prop
 | .lst l=>∃ x ∈ l,x.Has r
 | .dK kvs=>∃ x ∈ kvs.map (·.2),x.Has r
 | .dT kvs=>∃ x ∈ kvs.map (·.2),x.Has r
 | .dN kvs=>∃ x ∈ kvs.map (·.2),x.Has r
 | .ins _ fs=>∃ x ∈ fs.map (·.2),x.Has r
 | .exc _ _=>False
 | .tb _=>False
inductive Dee (M M2:MH):AV->Dat->Prop
 | d {x:Dat}:Dee M M2 (.d x) x
 | lst {p:aE} {l:List AV} {ds:List Dat}:M p=some (.lst l)->M2 p=none->l.length=ds.length->(∀ (i:Nat) a b,l[i]?=some a->ds[i]?=some b->Dee M M2 a b)->Dee M M2 (.ref p) (.lst ds)
structure Qj (M0 M':MH)(x x':AV)(M'':MH):Prop where
 sub:∀ q,M'' q=M' q \/ (M0 q=none/\M'' q=none)
 cl:∀ q o,M'' q=some o->M0 q=some o \/ ∀ r,WC r o->M'' r ≠ none
 res:(x'=x/\∀ p,x.Has p->M'' p ≠ none) \/ (∃ p l ds,x=.ref p/\M' p=some (.lst l)/\pur l=some ds/\M'' p=none/\x'=.d (.lst ds)) \/ ∃ d,Dee M' M'' x d/\x'=.d d
theorem Dee.rep {H:Hp}{O:Own}{M M2:MH}(w:Wf H O M){x:AV}{d:Dat}(h:Dee M M2 x d):∀ {v:V},zo H O M v x->Rep H (fun a=>O a/\¬ (M a ≠ none/\M2 a=none)) v d:=by
 induction h with
 | d=>exact fun r=>Rep.imp (fun a u h e=>⟨e,fun z=>h z.1⟩) r
 | @lst p l ds hm hn hl _ ih=>
  intro v r
  obtain ⟨xs,hx,rx⟩:=w.mo p _ hm
  rw [r.1]
  refine Rep.lst (fun z=>z.2 ⟨je hm,hn⟩) hx (rx.1.trans hl) fun i x d e1 e2=>?_
  have hi:=(aP.mp e2).1
  have ha:l[i]?=some (l[i]'(by omega)):=aq (by omega)
  exact ih i _ d ha e2 (rx.2 i x _ e1 ha)
theorem KG {H0 H : Hp}{O0 O : Own}{M0 M' M'' : MH}{x x' : AV}{v : V}(w0 : Wf H0 O0 M0)(w : Wf H O M')(k : Ext H0 O0 M0 H O M')(r : zo H O M' v x)(f : Qj M0 M' x x' M'') :
    ∃ O'',Wf H O'' M''/\Ext H0 O0 M0 H O'' M''/\zo H O'' M'' v x'/\∀ a,O a->M' a=none->O'' a/\M'' a=none:=by
  have ks:∀ a u,¬ O a->H a=some u->H a=some u/\¬ (O a/\¬ (M' a ≠ none/\M'' a=none)):=fun a u h e=>⟨e,fun z=>h z.1⟩
  have k0:∀ a,M0 a ≠ none->M'' a=M' a:=fun a h=>(f.sub a).elim (fun z=>z) (fun z=>absurd z.1 h)
  have m0:∀ a,M0 a ≠ none->M'' a ≠ none:=fun a h=>by rw [k0 a h];exact k.mst a h
  have tpk:∀ {v:V} {m:List (Dat ⊕ aE)},zo H O M' v (.tp m)->(∀ r,aZ r ∈ m->M'' r ≠ none)->zo H (fun a=>O a/\¬ (M' a ≠ none/\M'' a=none)) M'' v (.tp m):=fun {v m} ⟨a,xs,h1,h2,h3,h4,h5⟩ hr=>⟨a,xs,h1,fun z=>h2 z.1,h3,h4,fun i y d e1 e2=>by
    have:=h5 i y d e1 e2
    cases d with
    | inl d=>exact Rep.imp ks this
    | inr q=>exact ⟨this.1,hr q (br e2)⟩⟩
  have avs:∀ {xs:List V} {l:List AV},zh H O M' xs l->(∀ r,(∃ x ∈ l,x.Has r)->M'' r ≠ none)->zh H (fun a=>O a/\¬ (M' a ≠ none/\M'' a=none)) M'' xs l:=fun {xs l} rr hr=>⟨rr.1,fun i y d e1 e2=>by
    have:=rr.2 i y d e1 e2
    cases d with
    | d d=>exact Rep.imp ks this
    | ref a=>exact ⟨this.1,hr a ⟨_,br e2,rfl⟩⟩
    | tp m=>exact tpk this fun r h=>hr r ⟨_,br e2,h⟩⟩
  have refs0:∀ q o,M0 q=some o->∀ r,WC r o->M0 r ≠ none:=fun q o e r hr=>by
    have:=w0.mo q o e
    cases o with
    | lst l=>
      obtain ⟨xs,_,rr⟩:=this
      obtain ⟨x,hx,hh⟩:=hr
      obtain ⟨i,hi⟩:=df hx
      obtain ⟨y,_,ry⟩:=rr.get hi
      exact ry.has hh
    | dK l=>
      obtain ⟨xs,_,rr⟩:=this
      obtain ⟨x,hx,hh⟩:=hr
      obtain ⟨i,hi⟩:=df hx
      obtain ⟨y,_,ry⟩:=rr.2.get hi
      exact ry.has hh
    | dN l=>
      obtain ⟨xs,_,rr,_⟩:=this
      obtain ⟨x,hx,hh⟩:=hr
      obtain ⟨i,hi⟩:=df hx
      obtain ⟨y,_,ry⟩:=rr.2.get hi
      exact ry.has hh
    | dT l=>
      obtain ⟨xs,_,rr⟩:=this
      obtain ⟨x,hx,hh⟩:=hr
      obtain ⟨i,hi⟩:=df hx
      obtain ⟨y,_,ry⟩:=rr.2.get hi
      exact ry.has hh
    | ins C l=>
      obtain ⟨dx,xs,_,rr,_⟩:=this
      obtain ⟨x,hx,hh⟩:=hr
      obtain ⟨i,hi⟩:=df hx
      obtain ⟨y,_,ry⟩:=rr.2.get hi
      exact ry.has hh
    | exc C l=>exact hr.elim
    | tb R=>exact hr.elim
  refine ⟨fun a=>O a/\¬ (M' a ≠ none/\M'' a=none),⟨fun q o e=>?_,fun a h=>?_,fun a h=>w.al a h.1⟩,⟨fun a u h e=>?_,fun a h e=>?_,m0⟩,?_,fun a h e=>⟨⟨h,fun z=>z.1 e⟩,(f.sub a).elim (fun z=>z.trans e) (fun z=>z.2)⟩⟩
  · have e' : M' q = some o := by
      rcases f.sub q with z | z
      · rw [<- z];exact e
      · rw [z.2] at e;cases e
    have hr:∀ r,WC r o->M'' r ≠ none:=by
      rcases f.cl q o e with z | z
      · exact fun r hr=>m0 r (refs0 q o z r hr)
      · exact z
    have:=w.mo q o e'
    cases o with
    | lst l=>obtain ⟨xs,h1,rr⟩:=this;exact ⟨xs,h1,avs rr hr⟩
    | dK l=>obtain ⟨xs,h1,rr⟩:=this;exact ⟨xs,h1,rr.1,avs rr.2 hr⟩
    | dT l=>obtain ⟨xs,h1,rr⟩:=this;exact ⟨xs,h1,rr.1,avs rr.2 hr⟩
    | dN l=>obtain ⟨xs,h1,rr,hp⟩:=this;exact ⟨xs,h1,⟨rr.1,avs rr.2 hr⟩,fun x hx=>(hp x hx).imp ks⟩
    | ins C l=>
      obtain ⟨dx,xs,h1,rr,h2,h3,h4⟩:=this
      refine ⟨dx,xs,h1,⟨rr.1,avs rr.2 hr⟩,⟨h2,fun z=>z.1 h3⟩,?_,h4⟩
      rcases f.sub dx with z | z
      · rw [z];exact h3
      · exact z.2
    | exc C l=>
      obtain ⟨d,h1,h2⟩:=this
      refine ⟨d,h1,?_⟩
      rcases h2 with h2 | ⟨dx,e1,h2,h3,h4⟩
      · exact .inl h2
      · refine .inr ⟨dx,e1,h2,⟨h3,fun z=>z.1 h4⟩,?_⟩
        rcases f.sub dx with z | z
        · rw [z];exact h4
        · exact z.2
    | tb R=>obtain ⟨ps,h1,h2⟩:=this;exact ⟨ps,h1,h2.imp id fun ⟨c,oc,u,a1,a2,a3⟩=>⟨c,oc,u,a1,fun z=>a2 z.1,a3⟩⟩
  · refine ⟨w.own a ?_,fun z=>h z.2⟩
    rcases f.sub a with z | z
    · rw [<- z];exact h
    · exact absurd z.2 h
  · obtain ⟨x1,x2⟩:=k.fix a u h e
    exact ⟨x1,fun z=>x2 z.1⟩
  · obtain ⟨x1,x2,x3⟩:=k.prv a h e
    refine ⟨x1,⟨x2,fun z=>z.1 x3⟩,?_⟩
    rcases f.sub a with z | z
    · rw [z];exact x3
    · exact z.2
  · rcases f.res with ⟨rfl,hp⟩ | ⟨p,l,ds,rfl,hm,hp,hn,rfl⟩ | ⟨d,hd,rfl⟩
    · cases x' with
      | d d=>exact Rep.imp ks r
      | ref a=>exact ⟨r.1,hp a rfl⟩
      | tp m=>exact tpk r hp
    · obtain ⟨xs,hx,rx⟩:=w.mo p _ hm
      rw [jA hp] at rx
      have rp:=rx.pure
      rw [r.1]
      exact Rep.lst (fun z=>z.2 ⟨je hm,hn⟩) hx rp.1 fun i x d e1 e2=>(rp.2 i x d e1 e2).imp ks
    · exact hd.rep w r
theorem xK {M0 M' M'':MH}{x x':AV} (w0:Wf H0 O0 M0)(w:Wf H O M')(k:Ext H0 O0 M0 H O M')(r:zo H O M' v x)(f:Qj M0 M' x x' M'') :
  ∃ O'',Wf H O'' M''/\Ext H0 O0 M0 H O'' M''/\zo H O'' M'' v x':=let ⟨O2,a,b,c,_⟩:=KG w0 w k r f;⟨O2,a,b,c⟩
def Fr (M0 M:MH):Prop:=∀ q,M0 q ≠ none->M q=M0 q
theorem Fr.refl:Fr M M:=fun _ _=>rfl
theorem Fr.mup {M0 M:MH}(f:Fr M0 M){p:aE}(h:M0 p=none)(o:MO):Fr M0 (mup M p o):=fun q hq=>by rw [zG (fun z=>hq (by rw [z];exact h))];exact f q hq
theorem Fr.sub {M0 M:MH}(f:Fr M0 M)(q:aE):M0 q=M q \/ (M0 q=none/\M0 q=none):=by
 cases e:M0 q with
 | none=>exact .inr ⟨rfl,rfl⟩
 | some o=>exact .inl (by rw [f q (by rw [e];exact fun z=>nomatch z),e])
variable {M0:MH}
theorem wt (f:Fr M0 M)(d:Dat):Qj M0 M (.d d) (.d d) M0:=⟨f.sub,fun q o e=>.inl e,.inl ⟨rfl,fun p z=>nomatch z⟩⟩
variable {ds:List Dat}
theorem ZS (f:Fr M0 M) (h0:M0 p=none)(h:M p=some (.lst l))(hp:pur l=some ds):Qj M0 M (.ref p) (.d (.lst ds)) M0:=⟨f.sub,fun q o e=>.inl e,.inr (.inl ⟨p,l,ds,rfl,h,hp,h0,rfl⟩)⟩
theorem D7 (h:pur l=some ds)(r:aE):¬ ∃ x ∈ l,x.Has r:=by
 rw [jA h];rintro ⟨x,z,k⟩
 obtain ⟨d,_,e⟩:=cv.mp z
 subst e;exact k
noncomputable def zA (N:List Str)(xs:List AV):ASt:=xs.map some ++ aH (N.length - xs.length) none
theorem vE {xs:List AV}(r:zh H O M vs xs)(N:List Str):Er H O M (qF N vs) (zA N xs):=by
 unfold qF zA
 refine ⟨by simp [r.1],fun i x h=>?_⟩
 by_cases c:i<xs.length
 ·rw [cy (by simpa using c),aK] at h
  cases e:xs[i]? with
  | none=>rw [e] at h;cases h
  | some y=>
   rw [e] at h
   cases h
   obtain ⟨v,hv,rv⟩:=r.get e
   exact ⟨v,by rw [cy (by rw [ap,r.1];exact c),aK,hv];rfl,rv⟩
 ·rw [cO (by simp;omega),dQ] at h
  split at h <;> cases h
noncomputable def rtA (M0:MH)(Q:AK):AK:=fun x M'=>∃ x' M'',Qj M0 M' x x' M''/\Q x' M''
theorem dfA {x:Str} {a:ASp}(at_:At K mg x st)(S:zp N ps (zd st))
  (hb:∀ (kV doc pm:am) (an:Option aE) (cdv ct:am) (us:List am),us.length=ps.length->gi (ck x x (qq st) (zT st) (zd st) .none kV doc pm an cdv ct) ⟨us,[]⟩=pure (ps.zip us))
  (len:∀ xs M Q,a xs M Q->xs.length=ps.length)
  (hbody:∀ (f:aE) (cdv:am) (A:bo) (outer:List Env) (s:ax) (H:Hp) (E:XK),qj k (A.deeper (fF x (zd st) s.heap.objs.size f cdv)) ->
   ∃ t,PSs (kJ CX0 P w K mg base N x (zd st) f cdv A outer s H E).nox (zT st) t/\∃ b,qK t b/\∀ xs M Q,a xs M Q->b M { nx:=fun _ M'=>rtA M Q (.d .non) M',rt:=rtA M Q } (zA N xs) M):Df P w K mg base x ps (k+1) (cSp a):=by
 refine vi at_ S hb (fun vs H Q E h=>?_) (fun f cdv A outer s H vs Q E hr h=>?_)
 ·obtain ⟨xs,M,O,Q',w,r,q,_⟩:=h
  rw [r.1];exact len xs M Q' q
 ·obtain ⟨t,ht,b,hb,hq⟩:=hbody f cdv A outer s H E hr
  refine ⟨t,ht,?_⟩
  obtain ⟨xs,M,O,Q',w,r,q,kk⟩:=h
  refine hb.go w w (vE r N) .refl (hq xs M Q' q) ⟨fun σ H' O' ρ M' w' e' x' q'=>?_,fun v y H' O' M' w' x' r' q'=>?_,fun _ _ _ _ _ _ _ _ z=>z.elim,fun _ _ _ _ _ _ _ _ z=>z.elim⟩
  ·obtain ⟨y',M'',f,q2⟩:=q'
   obtain ⟨O'',w2,k2,r2⟩:=xK w w' x' (show zo H' O' M' .non (.d .non) from .non) f
   exact kk _ _ _ _ _ q2 k2 w2 r2
  ·obtain ⟨y',M'',f,q2⟩:=q'
   obtain ⟨O'',w2,k2,r2⟩:=xK w w' x' r' f
   exact kk _ _ _ _ _ q2 k2 w2 r2
structure MY (tr:aE->TR)(a:ATR):Prop where
 go:∀ D,KQ D (tr D) a
theorem Be {t u:TE}{a b:AE}(h1:zz t a)(h2:zz u b):zz (tOp DP t u) (aFz (fOp IQ a b)):=yE (ZU Qf h1 h2)
theorem Vp {t u:TE}{a b:AE}(h1:zz t a)(h2:zz u b):zz (tOp E2 t u) (aFz (fOp GC a b)):=yE (ZU QQ h1 h2)
theorem YW {b:AA}(h:qW u b):zz (tCB (fun xs H Q=>∃ p a b c n,xs=[.ref p]/\H p=some (Qt p a b c)/\eW a b c=true/\dh a b c=((n:Nat):Int)/\n<=100000/\∀ l,H l=none->Q (.ref l) (upd H l (.lst ((jQ a c n).map V.int)))) u) (aFz (fCB VN b)):=yE (KY wy h)
variable {q:AS->Prop}
theorem ex2 {t:TS} {b:AS}(h:qK t b)(k:q b):∃ b,qK t b/\q b:=⟨b,h,k⟩
section
variable {X:Cx}{K:au}
end
theorem Ih {τ:Type}(R:τ->ASt)(f:AV->AV) {N:List AV->ASt->MH->Prop} (h0:∃ o,ρ=R o)(hG:G M)(hl:l.length<=100000)
  (hs:∀ (o:τ) (x:AV) (Q:AV->ASt->MH->Prop),x ∈ l->(∀ o',Q (f x) (R o') M)->ag x (R o) M fun ρ2 M2=>ae ρ2 M2 fun y M3=>Q y ρ2 M3) (hN:∀ o,N (l.map f) (R o) M):YR ag wL (yN ae) G N l [] ρ M:=by
 have hsl:100000<aT:=by rw [bY];decide
 refine ⟨fun i acc ρ' M'=>i<=l.length/\acc=(l.take i).map f/\M'=M/\∃ o,ρ'=R o,⟨cb _,rfl,rfl,h0⟩,?_,?_⟩
 ·rintro i x acc ρ' M' hx ⟨hi,rfl,rfl,o,rfl⟩
  have hil:=(aP.mp hx).1
  refine ⟨hG,?_⟩
  refine hs o x (fun y ρ2 M3=>((l.take i).map f).length<aT/\(i+1<=l.length/\(l.take i).map f ++ [y]=(l.take (i+1)).map f/\M3=M'/\∃ o,ρ2=R o)) (br hx) fun o'=>⟨by rw [ap,ca];omega,hil,?_,rfl,o',rfl⟩
  rw [hV,hx,bU];rfl
 ·rintro acc ρ' M' ⟨_,rfl,rfl,o,rfl⟩
  rw [eS]
  exact ⟨hG,hN o⟩
theorem B3 {τ:Type}(R:τ->ASt)(f:Nat->AV) {N:List AV->ASt->MH->Prop} (h0:∃ o,ρ=R o)(hG:G M)(hl:l.length<=100000)
  (hs:∀ (o:τ) (i:Nat) (x:AV) (Q:AV->ASt->MH->Prop),l[i]?=some x->(∀ o',Q (f i) (R o') M)->ag x (R o) M fun ρ2 M2=>ae ρ2 M2 fun y M3=>Q y ρ2 M3) (hN:∀ o,N ((bP l.length).map f) (R o) M):YR ag wL (yN ae) G N l [] ρ M:=by
 have hsl:100000<aT:=by rw [bY];decide
 refine ⟨fun i acc ρ' M'=>i<=l.length/\acc=(bP i).map f/\M'=M/\∃ o,ρ'=R o,⟨cb _,rfl,rfl,h0⟩,?_,?_⟩
 ·rintro i x acc ρ' M' hx ⟨hi,rfl,rfl,o,rfl⟩
  have hil:=(aP.mp hx).1
  refine ⟨hG,?_⟩
  refine hs o i x (fun y ρ2 M3=>((bP i).map f).length<aT/\(i+1<=l.length/\(bP i).map f ++ [y]=(bP (i+1)).map f/\M3=M'/\∃ o,ρ2=R o)) hx fun o'=>⟨by rw [ap,cC];omega,hil,?_,rfl,o',rfl⟩
  rw [fh,bU];rfl
 ·rintro acc ρ' M' ⟨_,rfl,rfl,o,rfl⟩
  exact ⟨hG,hN o⟩
theorem qC {α:Type}(F:α->Dat)(l:List α):pur (l.map fun a=>AV.d (F a))=some (l.map F):=by
 have:(l.map fun a=>AV.d (F a))=(l.map F).map .d:=by rw [bH];rfl
 rw [this,qd]
theorem Hc:isT "int" "int"=some true:=by decide +kernel
theorem Iy:isT "int" "bool"=some false:=by decide +kernel
theorem He:isT "int" "str"=some false:=by decide +kernel
theorem GK:isT "int" "list"=some false:=by decide +kernel
theorem Ik:isT "int" "tuple"=some false:=by decide +kernel
theorem F8:isT "bool" "int"=some true:=by decide +kernel
theorem G6:isT "bool" "bool"=some true:=by decide +kernel
theorem GN:isT "bool" "str"=some false:=by decide +kernel
theorem HB:isT "bool" "list"=some false:=by decide +kernel
theorem Gc:isT "bool" "tuple"=some false:=by decide +kernel
theorem Iu:isT "str" "int"=some false:=by decide +kernel
theorem GI:isT "str" "bool"=some false:=by decide +kernel
theorem Ij:isT "str" "str"=some true:=by decide +kernel
theorem IN:isT "str" "list"=some false:=by decide +kernel
theorem GX:isT "str" "tuple"=some false:=by decide +kernel
theorem Hl:isT "NoneType" "int"=some false:=by decide +kernel
theorem G4:isT "NoneType" "bool"=some false:=by decide +kernel
theorem Io:isT "NoneType" "str"=some false:=by decide +kernel
theorem Ib:isT "NoneType" "list"=some false:=by decide +kernel
theorem IX:isT "NoneType" "tuple"=some false:=by decide +kernel
theorem Gf:isT "list" "int"=some false:=by decide +kernel
theorem GD:isT "list" "bool"=some false:=by decide +kernel
theorem IH:isT "list" "str"=some false:=by decide +kernel
theorem IF:isT "list" "list"=some true:=by decide +kernel
theorem Hd:isT "list" "tuple"=some false:=by decide +kernel
theorem Gi:isT "tuple" "int"=some false:=by decide +kernel
theorem Iz:isT "tuple" "bool"=some false:=by decide +kernel
theorem Hx:isT "tuple" "str"=some false:=by decide +kernel
theorem Gp:isT "tuple" "list"=some false:=by decide +kernel
theorem Ho:isT "tuple" "tuple"=some true:=by decide +kernel
theorem ID:vw "int" ["list","tuple"]=some false:=by decide +kernel
theorem G7:vw "bool" ["list","tuple"]=some false:=by decide +kernel
theorem HK:vw "str" ["list","tuple"]=some false:=by decide +kernel
theorem GV:vw "NoneType" ["list","tuple"]=some false:=by decide +kernel
theorem BP:vw "list" ["list","tuple"]=some true:=by decide +kernel
theorem WG:vw "tuple" ["list","tuple"]=some true:=by decide +kernel
theorem BB:QX []=some []:=rfl
theorem Yo {n:String}{r:List Dat}:QX (.ty n :: r)=(QX r).map (n :: ·):=rfl
theorem Mt (M:MH):tyA (.d .non) M=some "NoneType":=rfl
theorem LB (b:Bool)(M:MH):tyA (.d (.bl b)) M=some "bool":=rfl
theorem Ln (i:Int)(M:MH):tyA (.d (.int i)) M=some "int":=rfl
theorem L6 (s:Str)(M:MH):tyA (.d (.str s)) M=some "str":=rfl
theorem Ma (l:List Dat)(M:MH):tyA (.d (.lst l)) M=some "list":=rfl
theorem MF (l:List Dat)(M:MH):tyA (.d (.tup l)) M=some "tuple":=rfl
theorem X7 (x:Dat)(r:List AV):pur (.d x :: r)=match pur r with | some l=>some (x :: l) | none=>none:=rfl
theorem F5 (i j:Int):eqS (.int i) (.int j)=some (decide (i=j)):=rfl
theorem HH (i j:Bool):eqS (.bl i) (.bl j)=some (decide (i=j)):=rfl
theorem Hj (i j:Str):eqS (.str i) (.str j)=some (decide (i=j)):=rfl
theorem EV:j6 (.d .non)=true:=rfl
theorem DR (i:Int):j6 (.d (.int i))=false:=rfl
theorem El (i:List Dat):j6 (.d (.lst i))=false:=rfl
theorem Dk (i:List Dat):j6 (.d (.tup i))=false:=rfl
theorem EB (i:aE):j6 (.ref i)=false:=rfl
theorem EF (i:Str):j6 (.d (.str i))=false:=rfl
theorem E8 (i:Bool):j6 (.d (.bl i))=false:=rfl
theorem JM (w:Wf H O M)(k:Kp [] H H'):Ext H O M H' O M/\Wf H' O M:=by
 have e:Ext H O M H' O M:=⟨fun a o h e=>⟨k a o (by simp) e,h⟩,fun a h e=>⟨by
  obtain ⟨o,ho,_⟩:=w.al a h
  rw [ho];exact k a o (by simp) ho,h,e⟩,fun _ h=>h⟩
 refine ⟨e,⟨fun a o h=>qA.ext e ?_ (w.mo a o h),w.own,fun a h=>?_⟩⟩
 ·obtain ⟨u,hu,_⟩:=w.al a (w.own a (by rw [h];exact fun z=>nomatch z))
  rw [hu];exact k a u (by simp) hu
 ·obtain ⟨o,ho,hn⟩:=w.al a h
  exact ⟨o,k a o (by simp) ho,hn⟩
theorem GU (w:Wf H O M) (hb:M b=some (.lst l))(k:Kp [b] H H') (h:H' b=some (.lst (ns.map V.int))) :
  Ext H O M H' O (mup M b (.lst (ns.map fun i=>.d (.int i))))/\Wf H' O (mup M b (.lst (ns.map fun i=>.d (.int i)))):=by
 have hOb:=w.own b (je hb)
 have kk:∀ a o,a ≠ b->H a=some o->H' a=some o:=fun a o ha e=>k a o (by simpa using ha) e
 have e:Ext H O M H' O (mup M b (.lst (ns.map fun i=>.d (.int i)))):=⟨fun a o h e=>⟨kk a o (fun z=>h (by rw [z];exact hOb)) e,h⟩,fun a ha e=>by
  have hne:a ≠ b:=fun z=>by rw [z,hb] at e;cases e
  obtain ⟨o,ho,_⟩:=w.al a ha
  exact ⟨by rw [ho];exact kk a o hne ho,ha,by rw [zG hne];exact e⟩,fun a ha=>by
  by_cases c:a=b
  ·rw [c,zq];exact fun z=>nomatch z
  ·rw [zG c];exact ha⟩
 refine ⟨e,⟨fun a o ho=>?_,fun a ha=>?_,fun a ha=>?_⟩⟩
 ·by_cases c:a=b
  ·subst c;rw [zq] at ho;cases ho;exact ⟨_,h,Jv ns⟩
  ·rw [zG c] at ho
   refine qA.ext e ?_ (w.mo a o ho)
   obtain ⟨u,hu,_⟩:=w.al a (w.own a (je ho))
   rw [hu];exact kk a u c hu
 ·by_cases c:a=b
  ·rw [c];exact hOb
  ·rw [zG c] at ha;exact w.own a ha
 ·by_cases c:a=b
  ·rw [c];exact ⟨_,h,fun xs z=>nomatch z⟩
  ·obtain ⟨o,ho,hn⟩:=w.al a ha
   exact ⟨o,kk a o c ho,hn⟩
theorem Qx (ho:¬ O p)(h:H p=some (.lst (ns.map V.int))):Rep H O (.ref p) (.lst (ns.map .int)):=
 Rep.lst ho h (by simp) fun i x d e1 e2=>by
  rw [aK] at e1 e2
  cases e:ns[i]? with
  | none=>rw [e] at e1;cases e1
  | some n=>rw [e] at e1 e2;cases e1;cases e2;exact .int
theorem WK {x:AV} (w:Wf H O M)(r:zo H O M v x)(h:qM x M=some (ns.map fun i=>.d (.int i))):∃ a,v=.ref a/\(H a=some (.lst (ns.map V.int)) \/ H a=some (.tup (ns.map V.int))):=by
 obtain ⟨a,xs,rfl,h1,r1⟩:=JW w r h
 rw [xo r1] at h1
 exact ⟨a,rfl,h1⟩
theorem A1 {x:AV} (w:Wf H O M)(r:zo H O M v x)(h:qi x M=some (ns.map fun i=>.d (.int i))):∃ a,v=.ref a/\H a=some (.lst (ns.map V.int)):=by
 obtain ⟨a,xs,rfl,h1,r1⟩:=qg w r h
 rw [xo r1] at h1
 exact ⟨a,rfl,h1⟩
theorem Df.imp' {x:Str} {sp sp':Sp} (D:Df P w K mg base x ps k sp)(h:∀ vs H Q E,sp' vs H Q E->sp vs H Q E):Df P w K mg base x ps k sp':=
 let ⟨f,fd,F,r⟩:=D
 ⟨f,fd,F.imp h,r⟩
mutual
noncomputable def wdt:Dat->Nat
 | .lst l=>max l.length (Km l)
 | .tup l=>max l.length (Km l)
 | _=>0
noncomputable def Km:List Dat->Nat
 | []=>0
 | a :: r=>max (wdt a) (Km r)
end
theorem DM {l:List Dat}{n:Nat}(h:∀ d ∈ l,wdt d<=n):Km l<=n:=by
 induction l with
 | nil=>exact cb _
 | cons a r ih=>rw [Km];exact fq.mpr ⟨h a (by simp),ih fun d hd=>h d (by simp [hd])⟩
theorem KU {l:List Dat}{d:Dat}(h:d ∈ l):wdt d<=Km l:=by
 induction l with
 | nil=>cases h
 | cons a r ih=>
  rw [Km]
  rcases aJ.mp h with rfl | h
  ·exact iN _ _
  ·exact bu (ih h) (ik _ _)
def xA (n:Nat)(d:Dat):Prop:=dp d<=n/\wdt d<=100000
theorem xA.mono (h:xA n d)(k:n<=m):xA m d:=⟨bu h.1 k,h.2⟩
theorem WU {l:List Dat}(hl:l.length<=100000)(h:∀ d ∈ l,xA n d):xA (n+1) (.lst l):=⟨by rw [dp];exact im (Gh fun d hd=>(h d hd).1),by rw [wdt];exact fq.mpr ⟨hl,DM fun d hd=>(h d hd).2⟩⟩
theorem Ak (n:Nat)(i:Int):xA n (.int i):=⟨by simp [dp],by simp [wdt]⟩
theorem XN (h:ns.length<=100000):xA 1 (.lst (ns.map .int)):=WU (by simpa using h) fun d hd=>by obtain ⟨i,_,rfl⟩:=cv.mp hd;exact Ak 0 i
theorem xA.lst {l:List Dat}(h:xA (n+1) (.lst l)):l.length<=100000/\∀ d ∈ l,xA n d:=by
 obtain ⟨h1,h2⟩:=h
 rw [dp] at h1
 rw [wdt] at h2
 exact ⟨(fq.mp h2).1,fun d hd=>⟨by have:=qk hd;omega,bu (KU hd) (fq.mp h2).2⟩⟩
theorem xA.tup {l:List Dat}(h:xA (n+1) (.tup l)):l.length<=100000/\∀ d ∈ l,xA n d:=by
 obtain ⟨h1,h2⟩:=h
 rw [dp] at h1
 rw [wdt] at h2
 exact ⟨(fq.mp h2).1,fun d hd=>⟨by have:=qk hd;omega,bu (KU hd) (fq.mp h2).2⟩⟩
theorem We {x:AV}{M:MH}{l:List Dat}(h:wb x M=some (.lst l)):qi x M=some (l.map .d)/\qM x M=some (l.map .d)/\tyA x M=some "list"/\j6 x=false:=by
 cases x with
 | tp l=>cases h
 | d x=>cases h;exact ⟨rfl,rfl,rfl,rfl⟩
 | ref a=>
  unfold wb at h
  dsimp only at h
  cases e:M a with
  | none=>rw [e] at h;cases h
  | some o=>
   rw [e] at h
   cases o with
   | lst m=>
    dsimp only at h
    cases ep:pur m with
    | none=>rw [ep] at h;cases h
    | some ds=>
     rw [ep] at h
     cases h
     rw [jA ep] at e
     exact ⟨qU e,js e,by unfold tyA;dsimp only;rw [e],rfl⟩
   | _=>cases h
theorem jI {x:AV}{M:MH}{d:Dat}(h:wb x M=some d)(hd:∀ l,d ≠ .lst l):x=.d d:=by
 cases x with
 | tp l=>cases h
 | d x=>cases h;rfl
 | ref a=>
  unfold wb at h
  dsimp only at h
  cases e:M a with
  | none=>rw [e] at h;cases h
  | some o=>
   rw [e] at h
   cases o with
   | lst m=>
    dsimp only at h
    cases ep:pur m with
    | none=>rw [ep] at h;cases h
    | some ds=>rw [ep] at h;cases h;exact absurd rfl (hd ds)
   | _=>cases h
theorem Mg (b:Bool):dp (.bl b)=0:=by simp [dp]
theorem ZL (b:Str):dp (.str b)=0:=by simp [dp]
theorem WE:dp .non=0:=by simp [dp]
theorem GB (a b:Bool):eqD (.bl a) (.bl b)=decide (a=b):=by rw [eqD];cases a <;> cases b <;> rfl
theorem Kg (a b:Int):eqD (.int a) (.int b)=decide (a=b):=by rw [eqD];by_cases h:a=b <;> simp [h]
theorem ZC (a b:Str):eqD (.str a) (.str b)=decide (a=b):=by rw [eqD];by_cases h:a=b <;> simp [h]
theorem GR:eqD .non .non=true:=by simp [eqD]
theorem VF (i:Int):eqD .non (.int i)=false:=by simp [eqD]
theorem Gg (i:Int):eqD (.int i) .non=false:=by simp [eqD]
theorem Iq (i:Int)(s:Str):eqD (.int i) (.str s)=false:=by simp [eqD]
theorem Gr (i:Int)(s:Str):eqD (.str s) (.int i)=false:=by simp [eqD]
theorem Ia (s:Str):eqD (.str s) .non=false:=by simp [eqD]
theorem Hi (s:Str):eqD .non (.str s)=false:=by simp [eqD]
theorem Vl {x:AV} (h:qi x M=some l) (hp:M p=none)(o:MO):qi x (mup M p o)=some l:=by
 rcases vV h with ⟨m,rfl,rfl⟩ | ⟨a,rfl,e⟩
 ·rfl
 ·exact qU (by rw [zG (fun z=>by rw [z,hp] at e;cases e)];exact e)
theorem vk {x:AV} (h:qM x M=some l) (hp:M p=none)(o:MO):qM x (mup M p o)=some l:=by
 rcases jg h with h' | ⟨m,rfl,rfl⟩
 ·have:=Vl h' hp o
  rcases vV h' with ⟨m,rfl,rfl⟩ | ⟨a,rfl,e⟩
  ·rfl
  ·exact this
 ·rfl
theorem wG (ns:List Int):bQ AV.d (bQ Dat.int ns)=bQ (fun i=>AV.d (.int i)) ns:=by rw [bH];rfl
theorem FT (ns:List Bool):bQ AV.d (bQ Dat.bl ns)=bQ (fun i=>AV.d (.bl i)) ns:=by rw [bH];rfl
theorem jh (ns:List Int):pur (bQ (fun i=>AV.d (.int i)) ns)=some (ns.map Dat.int):=by rw [<- wG,qd]
theorem DZ (ns:List Bool):pur (bQ (fun i=>AV.d (.bl i)) ns)=some (ns.map Dat.bl):=by rw [<- FT,qd]
theorem Xc {α β:Type}(f:α->β)(l:List α)(i:Int):atI (l.map f) i=(atI l i).map f:=by
 unfold atI
 rw [ap]
 cases ixN l.length i with
 | none=>rfl
 | some j=>exact aK ..
theorem kP {i:Int}(h0:0<=i)(h1:i<n):ixN n i=some i.toNat:=by unfold ixN;rw [if_pos h0,if_pos h1]
theorem Wg {α:Type}{l:List α}{i:Int}(h0:0<=i)(h1:i<l.length)(d:α):atI l i=some (l.getD i.toNat d):=by
 unfold atI
 rw [kP h0 h1]
 show l[i.toNat]?=_
 rw [aA,aq (by omega)];rfl
theorem Ae {i:Int}(h0:0<=i)(h1:i<ns.length):atI (ns.map fun i=>AV.d (.int i)) i=some (.d (.int (ns.getD i.toNat 0))):=by rw [Xc,Wg h0 h1 0];rfl
theorem Yj {α:Type}(xs:List α)(k:Nat):Yb xs (some (k:Int)) none=xs.drop k:=by
 unfold Yb
 rw [HT.sIx_nat,HT.sIx_none,List.take_of_length_le (by rw [cW];omega)]
 by_cases h:k<=xs.length
 ·rw [iO h]
 ·rw [mH (by omega),mI,iB (by omega)]
theorem zk {a qh:AS}{B:MH}{D:kM} (h:∀ r,r=qh->Jp a r B D ρ M):Jp a qh B D ρ M:=h qh rfl
theorem Fr.non {M M':MH}(f:Fr M M'){p:aE}(h:M' p=none):M p=none:=by
 cases e:M p with
 | none=>rfl
 | some o=>rw [f p (by rw [e];exact fun z=>nomatch z),e] at h;cases h
noncomputable abbrev ilD (os:List Int):Dat:=.lst (os.map .int)
theorem DW (ns:List Int)(M:MH):qi (.d (ilD ns)) M=some (ns.map fun i=>.d (.int i)):=by rw [AW,wG]
theorem E3 (ns:List Int)(M:MH):qM (.d (ilD ns)) M=some (ns.map fun i=>.d (.int i)):=by rw [Bd,wG]
noncomputable def FC (K:au)(u:TA):TE:=tCB (fun xs H Q=>∃ p ys,xs=[V.ref p]/\(SqL K H p ys \/ SqT K H p ys)/\Q (V.int ys.length) H) u
theorem Dg (h:PE X e (tCB (fun xs H Q=>∃ p ys,xs=[V.ref p]/\(SqL X.K H p ys \/ SqT X.K H p ys)/\Q (V.int ys.length) H) u)):PE X e (FC X.K u):=h
noncomputable def F2 (K:au)(b:AA):AE:=fun ρ M Q=>b ρ M fun xs M1=>∃ l,xs=[.d (.scr K l)]/\Q (.d (.int (l.length:Nat))) M1
theorem Bk {b:AA}(h:qW u b):zz (FC K u) (F2 K b):=⟨fun w e q k=>h.go w e q fun xs M1 v H1 O1 ⟨l,e1,q1⟩ k1 w1 r1=>by
 subst e1
 obtain ⟨v,rfl,rv⟩:=qD r1
 obtain ⟨a,rfl,hs⟩:=Xg rv
 exact ⟨a,_,rfl,.inl hs,by rw [ap];exact k _ _ _ _ _ q1 k1 w1 .int⟩⟩
def BxM (M:MH)(b:aE)(N:Nat):Prop:=∃ x y z:Int,M b=some (.lst [.d (.int x),.d (.int y),.d (.int z)])/\0<=x/\0<=y/\y<2147483648/\0<=z/\z<=N
theorem BxM.mono {N N':Nat}(h:BxM M b N)(hn:N<=N'):BxM M b N':=by
 obtain ⟨x,y,z,h1,h2,h3,h4,h5,h6⟩:=h
 exact ⟨x,y,z,h1,h2,h3,h4,h5,by omega⟩
theorem BxM.ne {N:Nat}(h:BxM M b N):M b ≠ none:=by obtain ⟨x,y,z,h1,_⟩:=h;exact je h1
theorem BxM.bx {N:Nat}(w:Wf H O M)(h:BxM M b N):Bx H b N:=by
 obtain ⟨x,y,z,h1,h2⟩:=h
 obtain ⟨xs,hx,rx⟩:=w.mo b _ h1
 rw [xo (ns:=[x,y,z]) rx] at hx
 exact ⟨x,y,z,hx,h2⟩
def BxS (M M':MH)(b:aE)(N:Nat):Prop:=BxM M' b N/\∃ o,M'=mup M b o
theorem BxS.at {N:Nat}(h:BxS M M' b N){q:aE}(hq:q ≠ b):M' q=M q:=by
 obtain ⟨_,o,rfl⟩:=h
 exact zG hq
theorem IS (w:Wf H O M) {N N':Nat}(hb:BxM M b N)(k:Kp [b] H H')(h:Bx H' b N'):∃ M',BxS M M' b N'/\Ext H O M H' O M'/\Wf H' O M':=by
 obtain ⟨x,y,z,h1,_⟩:=hb
 obtain ⟨x',y',z',g1,g2⟩:=h
 obtain ⟨e1,e2⟩:=GU w h1 k (ns:=[x',y',z']) g1
 exact ⟨_,⟨⟨x',y',z',zq,g2⟩,_,rfl⟩,e1,e2⟩
mutual
noncomputable def pdD:Dat->dq
 | .bl b=>.bool b
 | .int i=>.int i
 | .str x=>.str x
 | .lst l=>.list (ZE l)
 | .tup l=>.tuple (ZE l)
 | _=>.none
noncomputable def ZE:List Dat->List dq
 | []=>[]
 | a :: r=>pdD a :: ZE r
end
section
variable {X:Cx}{pins:List (aE × Obj)}{s:ax}{σ:St}{H:Hp}{O:Own}
mutual
theorem Gq:∀ d:Dat,(pdD d).hasDict=false
 | .non=>by simp [pdD,dg]
 | .bl _=>by simp [pdD,dg]
 | .int _=>by simp [pdD,dg]
 | .str _=>by simp [pdD,dg]
 | .ty _=>by simp [pdD,dg]
 | .rng _ _ _=>by simp [pdD,dg]
 | .scr _ _=>by simp [pdD,dg]
 | .lst l=>by rw [pdD,dg];exact ZH l
 | .tup l=>by rw [pdD,dg];exact ZH l
theorem ZH:∀ l:List Dat,dq.hasDictAll (ZE l)=false
 | []=>by simp [ZE,dq.hasDictAll]
 | a :: r=>by rw [ZE,dq.hasDictAll,Gq a,ZH r];rfl
end
mutual
theorem BE:∀ d:Dat,(pdD d).depth<=dp d
 | .non=>by simp [pdD,dq.depth]
 | .bl _=>by simp [pdD,dq.depth]
 | .int _=>by simp [pdD,dq.depth]
 | .str _=>by simp [pdD,dq.depth]
 | .ty _=>by simp [pdD,dq.depth]
 | .rng _ _ _=>by simp [pdD,dq.depth]
 | .scr _ _=>by simp [pdD,dq.depth]
 | .lst l=>by rw [pdD,dq.depth,dp];exact im (xN l)
 | .tup l=>by rw [pdD,dq.depth,dp];exact im (xN l)
theorem xN:∀ l:List Dat,dq.depthAll (ZE l)<=dps l
 | []=>by simp [ZE,dq.depthAll]
 | a :: r=>by rw [ZE,dq.depthAll,dps];exact fq.mpr ⟨bu (BE a) (iN _ _),bu (xN r) (ik _ _)⟩
end
end
noncomputable def stD:Dat->Str
 | .str x=>x
 | d=>(pdD d).shown
section
variable {X:Cx}
end
structure Sh (b:Nat)(d:Dat):Prop where
 s:(pdD d).showable=true
 l:(pdD d).shown.length<=b
structure SB (M0 M:MH)(b:aE)(N:Nat):Prop where
 bx:BxM M b N
 fr:∀ q,M0 q ≠ none->q ≠ b->M q=M0 q
 b0:M0 b ≠ none
theorem SB.refl {N:Nat}(h:BxM M b N):SB M M b N:=⟨h,fun _ _ _=>rfl,h.ne⟩
theorem SB.go {N N':Nat}(s:SB M0 M b N)(t:BxS M M' b N'):SB M0 M' b N':=⟨t.1,fun q hq hb=>(t.at hb).trans (s.fr q hq hb),s.b0⟩
theorem SB.mono {N N':Nat}(s:SB M0 M b N)(h:N<=N'):SB M0 M b N':=⟨s.bx.mono h,s.fr,s.b0⟩
theorem BxM.put {N:Nat}(h:BxM M b N)(n:b ≠ p)(o:MO):BxM (mup M p o) b N:=by
 obtain ⟨x,y,z,h1,h2⟩:=h
 exact ⟨x,y,z,by rw [zG n];exact h1,h2⟩
theorem SB.new {M0 M:MH}{b p:aE}{N:Nat}(s:SB M0 M b N)(hp:M p=none):M0 p=none/\p ≠ b:=by
 have hb:p ≠ b:=fun z=>s.bx.ne (by rw [<- z];exact hp)
 refine ⟨?_,hb⟩
 cases e:M0 p with
 | none=>rfl
 | some o=>rw [s.fr p (by rw [e];exact fun z=>nomatch z) hb,e] at hp;cases hp
theorem SB.put {N:Nat}(s:SB M0 M b N)(h0:M0 p=none)(hb:p ≠ b)(o:MO):SB M0 (mup M p o) b N:=
 ⟨s.bx.put (Ne.symm hb) o,fun q hq hqb=>by rw [zG (fun z=>hq (by rw [z];exact h0))];exact s.fr q hq hqb,s.b0⟩
theorem SB.fin {N:Nat}(s:SB M0 M b N)(d:Dat):∃ M'',Qj M0 M (.d d) (.d d) M''/\BxS M0 M'' b N:=by
 obtain ⟨x,y,z,h1,h2⟩:=s.bx
 refine ⟨mup M0 b (.lst [.d (.int x),.d (.int y),.d (.int z)]),⟨fun q=>?_,fun q o e=>?_,.inl ⟨rfl,fun p z=>nomatch z⟩⟩,⟨x,y,z,zq,h2⟩,_,rfl⟩
 ·by_cases c:q=b
  ·rw [c,zq,h1];exact .inl rfl
  ·rw [zG c]
   cases e:M0 q with
   | none=>exact .inr ⟨rfl,rfl⟩
   | some o=>exact .inl (by rw [s.fr q (by rw [e];exact fun z=>nomatch z) c,e])
 ·by_cases c:q=b
  ·rw [c,zq] at e
   cases e
   exact .inr fun r hr=>absurd hr (D7 (ds:=[.int x,.int y,.int z]) rfl r)
  ·rw [zG c] at e;exact .inl e
theorem SB.rt {N:Nat}{Q:AK} (s:SB M0 M b N)(q:∀ M',BxS M0 M' b N->Q (.d d) M'):rtA M0 Q (.d d) M:=by
 obtain ⟨M'',f,t⟩:=s.fin d
 exact ⟨_,_,f,q M'' t⟩
theorem qa {Q:AK} (f:Fr M0 M)(q:Q (.d d) M0):rtA M0 Q (.d d) M:=⟨_,_,wt f d,q⟩
theorem SB.frm {M M2 M':MH} {N:Nat}(f:Fr M M2)(hb:M b=none)(s:SB M2 M' b N):Fr M M':=fun q hq=>by
 have h1:q ≠ b:=fun z=>hq (by rw [z];exact hb)
 rw [s.fr q (by rw [f q hq];exact hq) h1,f q hq]
section
variable {X:Cx}
end
section
open PySem.SeqAt
open PySem.AutoSeq1 (wpAny_loadPart')
open PySem.MeetsSeq PySem.MeetsSeq2 PySem.MeetsSeq3 PySem.SeqRoads2
end
section
variable {X:Cx}
end
section
variable {X:Cx}{pins:List (aE × Obj)}{σ:St}{H:Hp}{s:ax}{a b:aE}{kvs:List (List Key × V)}{k:List Key}{v:V}{r:am}{A:bo}{E:am->ax->Prop}
end
section
variable {prog:bf}{w:bC}{A:bo}{E:am->ax->Prop}{s:ax}
end
section
variable {X:Cx}
end
theorem IT:MtR X "list.pop" GT:=GY
theorem kE {α τ:Type}(R:τ->ASt)(g f:α->AV)(xs:List α) {N:List AV->ASt->MH->Prop} (h0:∃ o,ρ=R o)(hG:G M)(hl:xs.length<=100000)
  (hs:∀ (o:τ) (x:α) (Q:AV->ASt->MH->Prop),x ∈ xs->(∀ o',Q (f x) (R o') M)->ag (g x) (R o) M fun ρ2 M2=>ae ρ2 M2 fun y M3=>Q y ρ2 M3) (hN:∀ o,N (xs.map f) (R o) M):YR ag wL (yN ae) G N (xs.map g) [] ρ M:=by
 have hsl:100000<aT:=by rw [bY];decide
 refine ⟨fun i acc ρ' M'=>i<=xs.length/\acc=(xs.take i).map f/\M'=M/\∃ o,ρ'=R o,⟨cb _,rfl,rfl,h0⟩,?_,?_⟩
 ·rintro i x acc ρ' M' hx ⟨hi,rfl,rfl,o,rfl⟩
  rw [aK] at hx
  cases e:xs[i]? with
  | none=>rw [e] at hx;cases hx
  | some y=>
   rw [e] at hx
   cases hx
   have hil:=(aP.mp e).1
   refine ⟨hG,?_⟩
   refine hs o y (fun z ρ2 M3=>((xs.take i).map f).length<aT/\(i+1<=xs.length/\(xs.take i).map f ++ [z]=(xs.take (i+1)).map f/\M3=M'/\∃ o,ρ2=R o)) (br e) fun o'=>⟨by rw [ap,ca];omega,hil,?_,rfl,o',rfl⟩
   rw [hV,e,bU];rfl
 ·rintro acc ρ' M' ⟨_,rfl,rfl,o,rfl⟩
  rw [ap,eS]
  exact ⟨hG,hN o⟩
noncomputable def fl2 (o:Obj):Option am:=match o.data with
 | .fields vs=>vs[2]?
 | _=>none
def SmD (h h':Heap):Prop:=∀ b o,h.get? b=some o->∃ o',h'.get? b=some o'/\o'.dict=o.dict/\fl2 o'=fl2 o
theorem SmD.refl (h:Heap):SmD h h:=fun _ o e=>⟨o,e,rfl,rfl⟩
theorem SmD.trans {h h1 h2:Heap}(a:SmD h h1)(b:SmD h1 h2):SmD h h2:=fun c o e=>
 let ⟨_,e1,d1,f1⟩:=a c o e
 let ⟨o2,e2,d2,f2⟩:=b c _ e1
 ⟨o2,e2,d2.trans d1,f2.trans f1⟩
theorem SmD.push (h:Heap)(o:Obj):SmD h (h.push o):=fun _ u e=>⟨u,aG _ e,rfl,rfl⟩
theorem SmD.up {f:Obj->Obj}(k:∀ o,(f o).dict=o.dict/\fl2 (f o)=fl2 o/\(o.isFreed=false->(f o).isFreed=false)):SmD h (h.update a f):=fun b o e=>by
 by_cases c:a=b
 ·subst c
  exact ⟨_,bZ f e ((k o).2.2 (Heap.get?_some_iff.mp e).2),(k o).1,(k o).2.1⟩
 ·exact ⟨o,(fH _ _ c).trans e,rfl,rfl⟩
structure Kd {α:Type}(t:Sem α):Prop where
 out:∀ (M:mM) (G:PySem.Ctx) (R:α->Pos->ax->Prop) (Ee:am->Pos->ax->Prop) (p:Pos) (s:ax),Sem.wp M G t R Ee p s->Sem.wp M G t (fun a p' s'=>R a p' s'/\SmD s.heap s'.heap) Ee p s
section
variable {α β:Type}
theorem Zo (a:α):Kd (Pure.pure a:Sem α):=⟨fun _ _ _ _ _ s h=>⟨h,SmD.refl _⟩⟩
theorem IM (x:String):Kd (unsupported x:Sem α):=⟨fun _ _ _ _ _ _ h=>h⟩
theorem Xf {m:Sem α}{f:α->Sem β}(hm:Kd m)(hf:∀ a,Kd (f a)):Kd (m >>= f):=⟨fun M G R Ee p s h=>by
 rw [Sem.wp_bind'] at h ⊢
 refine Sem.wp_mono M G m (fun a p1 s1 h1=>?_) (fun _ _ _ z=>z) p s (hm.out M G _ Ee p s h)
 refine Sem.wp_mono M G (f a) (fun b p2 s2 h2=>⟨h2.1,h1.2.trans h2.2⟩) (fun _ _ _ z=>z) p1 s1 ((hf a).out M G R Ee p1 s1 h1.1)⟩
theorem GP {c:Prop}[Decidable c]{t u:Sem α}(ht:Kd t)(hu:Kd u):Kd (if c then t else u):=by split <;> assumption
theorem Em (a:aE):Kd (PySem.load a):=⟨fun _ _ R _ p s h=>by
 unfold PySem.load at h ⊢
 rw [Sem.wp_load] at h ⊢
 obtain ⟨o,e,h⟩:=h
 exact ⟨o,e,h,SmD.refl _⟩⟩
theorem Yy {f:Obj->Obj}(k:∀ o,(f o).dict=o.dict/\fl2 (f o)=fl2 o/\(o.isFreed=false->(f o).isFreed=false)):Kd (PySem.update a f):=⟨fun _ _ R _ p s h=>by
 unfold PySem.update at h ⊢
 rw [Sem.wp_update] at h ⊢
 exact ⟨h.1,h.2,SmD.up k⟩⟩
theorem V3:Kd PySem.stack:=⟨fun M G R Ee p s h=>by
 unfold PySem.stack at h ⊢
 rw [Sem.wp_stack] at h ⊢
 exact ⟨h,SmD.refl _⟩⟩
theorem Wr (o:Obj):Kd (PySem.alloc o):=⟨fun _ _ R _ p s h=>by
 unfold PySem.alloc at h ⊢
 rw [Sem.wp_alloc] at h ⊢
 exact ⟨h,SmD.push _ _⟩⟩
theorem Vm (v:am)(i:Nat):Kd (PySem.field v i):=⟨fun _ G R Ee p s h=>by
 obtain ⟨a,o,vs,x,e1,e2,e3,e4,q⟩:=(wp_field_iff G v i R Ee p s).mp h
 exact (wp_field_iff G v i _ Ee p s).mpr ⟨a,o,vs,x,e1,e2,e3,e4,q,SmD.refl _⟩⟩
theorem YE (hi:i ≠ 2)(x:am)(o:Obj):(bV (·.setIfInBounds i x) o).dict=o.dict/\fl2 (bV (·.setIfInBounds i x) o)=fl2 o/\(o.isFreed=false->(bV (·.setIfInBounds i x) o).isFreed=false):=by
 obtain ⟨c,d,dt,sl⟩:=o
 cases dt
 case fields vs=>exact ⟨rfl,Array.getElem?_setIfInBounds_ne hi,fun h=>h⟩
 all_goals exact ⟨rfl,rfl,fun h=>h⟩
theorem Qb (v:am)(i:Nat)(x:am)(hi:i ≠ 2):Kd (PySem.setField v i x):=⟨fun _ G R Ee p s h=>by
 obtain ⟨a,o,vs,e1,e2,e3,e4,q⟩:=(wp_setField_iff G v i x R Ee p s).mp h
 exact (wp_setField_iff G v i x _ Ee p s).mpr ⟨a,o,vs,e1,e2,e3,e4,q,SmD.up (YE hi x)⟩⟩
end
local macro_rules | `(tactic| walk_at "kd")=>`(tactic| repeat' with_reducible first
  | assumption
  | exact Zo _
  | exact IM _
  | exact Vm _ _
  | exact Qb _ _ _ (by decide)
  | exact Em _
  | exact V3
  | exact Wr _
  | apply GP
  | apply Xf
  | intro _
  | split)
theorem X6 (env:Env)(outer:List Env):Kd (behindIsImport env outer):=by
 unfold behindIsImport
 walk_at "kd"
theorem Yr:Kd underTheClaimsCaller:=by
 unfold underTheClaimsCaller
 walk_at "kd"
theorem D4 (env:Env)(i:Bool)(l:List Env):Kd (keptBack env i l):=by
 have:=Yr
 cases l <;> unfold keptBack <;> walk_at "kd"
theorem Jd:∀ l:List Env,Kd (readyFrames l)
 | []=>Zo _
 | env :: outer=>by
  have ih:=Jd outer
  have h1:=X6 env outer
  have h2:=fun i=>D4 env i outer
  unfold readyFrames
  walk_at "kd"
  all_goals first | exact h2 _ | exact Yy fun o=>⟨rfl,rfl,fun z=>by obtain ⟨c,d,dt,sl⟩:=o;cases dt <;> exact z⟩ | skip
theorem QY (l:List Env):Kd (frameObject l):=by
 cases l with
 | nil=>exact Zo _
 | cons env outer=>
  have:=Jd (env :: outer)
  unfold frameObject
  walk_at "kd"
theorem Zs:Kd frameEnvs:=by
 unfold frameEnvs
 walk_at "kd"
theorem JJ (env:Env):Kd (PySem.frameOf env):=by
 have h1:=Zs
 have h2:=QY
 unfold PySem.frameOf
 walk_at "kd"
 all_goals first | exact h2 _ | skip
theorem VG (f:aE)(b:Bool):Kd (entryPlaceOf f b):=by
 unfold entryPlaceOf
 walk_at "kd"
theorem Wu (a b c d e:am)(l:List am):Kd (EntryCells.newEntry a b c d e l):=by
 unfold EntryCells.newEntry newFields newObj newObjAsIs
 walk_at "kd"
theorem KP (e:am)(env:Env):Kd (mD e env):=by
 have h1:=JJ env
 have h2:=VG
 have h3:=Wu
 unfold mD
 walk_at "kd"
 all_goals first | exact h2 _ _ | exact h3 _ _ _ _ _ _ | skip
theorem xY (e:am)(f:Option aE):Kd (mJ e f):=by
 unfold mJ
 walk_at "kd"
theorem yR (env:Env)(e:am):Kd (leaving env e):=Xf (KP e env) fun _=>xY e none
theorem Kd.any {α:Type}{t:Sem α}(k:Kd t){M:mM} {Q:α->ax->Prop}{E:am->ax->Prop} (h:bg M A t Q E s):bg M A t (fun a s'=>Q a s'/\SmD s.heap s'.heap) E s:=
 fun G p hG=>k.out M G _ _ p s (h G p hG)
theorem zS.here {P:bf}{w:bC}{H:Hp}{h:Heap}{a:aE}{o:HO}(x:zS P w H h a o):∃ u,h.get? a=some u:=by
 cases o with
 | lst xs=>obtain ⟨_,_,_,_,e⟩:=x;exact ⟨_,e⟩
 | tup xs=>obtain ⟨_,_,_,o,e,_⟩:=x;exact ⟨_,e⟩
 | dK kvs=>obtain ⟨_,_,_,_,o,_,_,e,_⟩:=x;exact ⟨_,e⟩
 | dT kvs=>obtain ⟨_,_,_,_,o,_,_,e,_⟩:=x;exact ⟨_,e⟩
 | set S n=>obtain ⟨o,_,_,_,e,_⟩:=x;exact ⟨_,e⟩
 | ins C dx fs=>obtain ⟨_,_,_,e,_⟩:=x;exact ⟨_,e⟩
 | own y=>exact x
 | xd fs=>obtain ⟨_,⟨_,_,_,e,_⟩,_⟩:=x;exact ⟨_,e⟩
 | rng lo hi=>obtain ⟨_,_,_,e⟩:=x;exact ⟨_,e⟩
 | frz ob u=>obtain ⟨e,_⟩:=x;exact ⟨_,e⟩
 | tbl ps=>exact ⟨_,x⟩
 | met f y=>exact ⟨_,x⟩
 | ext φ=>exact x.2.1
structure xC (P:bf)(w:bC)(outer:List Env)(H:Hp)(s:ax)(B:Heap)(H':Hp)(s':ax):Prop where
 os:s'.os=s.os
 bare:gD s'.gens
 stay:B.StaysIn s'.heap
 cov:∀ b o,s.heap.get? b=some o->b ∉ frs outer->∃ o',B.get? b=some o'/\(H b=none->o'=o)
 slot:∀ b o,s.heap.get? b=some o->b ∈ frs outer->∃ sl,s'.heap.get? b=some { o with slots:=sl }
 frf:∀ b ∈ frs outer,H b=none
 free:∀ b o,s.heap.get? b=some o->H b=none->H' b=none
 tups:∀ b xs,H b=some (.tup xs)->H' b=some (.tup xs)
 frzs:∀ b o u,H b=some (.frz o u)->H' b=some (.frz o u)
 tbls:∀ b ps,H b=some (.tbl ps)->∃ more,H' b=some (.tbl (ps ++ more))
 hok:HOk P w H' B
section
variable {P:bf}{w:bC}{outer:List Env}{H H':Hp}{s s':ax}{B h':Heap}
theorem xC.un (a:xC P w outer H s B H' s'):Un (frs outer) [] H H' s.heap s'.heap where
 keep:=fun b o e n hb _=>by
  obtain ⟨o',e1,e2⟩:=a.cov b o e hb
  rw [e2 n] at e1
  exact a.stay b o e1
 slot:=fun b o e _ hb _=>a.slot b o e hb
 free:=fun b o e n _=>a.free b o e n
 there:=fun b o e _=>by
  by_cases hb:b ∈ frs outer
  ·obtain ⟨sl,z⟩:=a.slot b o e hb
   exact ⟨_,z⟩
  ·obtain ⟨o',e1,_⟩:=a.cov b o e hb
   exact ⟨_,a.stay b o' e1⟩
 tups:=a.tups
 frzs:=a.frzs
 tbls:=a.tbls
theorem xC.ok (a:xC P w outer H s B H' s'):HOk P w H' s'.heap:=a.hok.kept a.stay
theorem xC.step (a:xC P w outer H s B H' s'){B0:Heap}(fr:s'.heap.FunFrames B0 outer)(k:B.StaysIn h')(u:s'.heap.UpToSlots h'):xC P w outer H s B H' { s' with heap:=h' }:=
 ⟨a.os,a.bare,k,a.cov,fun b o e hb=>by
  obtain ⟨sl,z⟩:=a.slot b o e hb
  obtain ⟨_,o2,e2,nf⟩:=fr.mem hb
  rw [z] at e2;cases e2
  obtain ⟨sl2,z2⟩:=u b _ z nf
  exact ⟨sl2,z2⟩,a.frf,a.free,a.tups,a.frzs,a.tbls,a.hok⟩
end
section
variable {X:Cx}{pins:List (aE × Obj)}{σ:St}{H H':Hp}{s s':ax}{B h':Heap}
theorem Inv.ltS (I:Inv X pins σ H s) {o:Obj}(e:X.s₀.heap.get? b=some o):b ≠ X.env.locals:=fun z=>by
 have h:=bt (aM e) I.ok.above
 rw [z] at h
 exact cY _ h
theorem Inv.notStk (I:Inv X pins σ H s) {o:Obj}(e:X.s₀.heap.get? b=some o)(hb:b ∉ frs X.outer):b ∉ frs X.stack:=fun z=>(aJ.mp (I.stkSub b z)).elim (I.ltS e) hb
theorem wQ {X:Cx}(hs:X.stack=X.env :: X.outer){b:aE}(hb:b ∈ frs X.outer):b ∈ frs X.stack:=by
 rw [hs];unfold frs;rw [eU]
 cases X.env.frame with
 | none=>exact hb
 | some f=>exact ba _ hb
theorem xC.out (I:Inv X pins σ H s)(hs:X.stack=X.env :: X.outer)(hex:X.ex=[])(a:xC X.prog X.w X.stack H s B H' s'):xC X.prog X.w X.outer X.H₀ X.s₀ B H' s':=by
 have nx:∀ b,b ∉ X.ex:=fun b=>by rw [hex];simp
 refine ⟨a.os.trans I.os,a.bare,a.stay,fun b o e hb=>?_,fun b o e hb=>?_,I.ok.frf,fun b o e n=>?_,fun b xs e=>a.tups b xs (I.base.tups b xs e),fun b o u e=>a.frzs b o u (I.base.frzs b o u e),fun b ps e=>?_,a.hok⟩
 ·obtain ⟨o1,e1⟩:=I.base.there b o e (nx b)
  obtain ⟨o',e2,e3⟩:=a.cov b o1 e1 (I.notStk e hb)
  refine ⟨o',e2,fun n=>?_⟩
  have:=I.base.keep b o e n hb (nx b)
  rw [e1] at this;cases this
  exact e3 (I.base.free b o e n (nx b))
 ·obtain ⟨sl,e1⟩:=I.base.slot b o e (I.ok.frf b hb) hb (nx b)
  obtain ⟨sl2,e2⟩:=a.slot b _ e1 (wQ hs hb)
  exact ⟨sl2,e2⟩
 ·obtain ⟨o1,e1⟩:=I.base.there b o e (nx b)
  exact a.free b o1 e1 (I.base.free b o e n (nx b))
 ·obtain ⟨m1,e1⟩:=I.base.tbls b ps e
  obtain ⟨m2,e2⟩:=a.tbls b _ e1
  exact ⟨m1 ++ m2,by rw [e2,lH]⟩
noncomputable def yz (X:Cx)(s:ax)(x:aE):Heap:=PySem.W.hideAll s.heap (x :: frs X.stack)
theorem ER (I:Inv X pins σ H s){x:aE}(hx:H x=none):HOk X.prog X.w H (yz X s x):=fun a o e=>by
 refine (I.hok a o e).stay (fun b u hb q=>gz _ q fun z=>?_) (fun _ q=>q) fun _ _ q=>q
 have:H b=none:=by
  rcases aJ.mp z with rfl | z
  ·exact hx
  ·exact I.stkFree b z
 rcases hb with rfl | hb
 ·rw [e] at this;cases this
 ·rw [hb] at this;cases this
theorem J5 (I:Inv X pins σ H s)(hs:X.stack=X.env :: X.outer)(hex:X.ex=[]){x:aE}(hx0:X.s₀.heap.get? x=none)(hx:H x=none)(st:(yz X s x).StaysIn h')(us:s.heap.UpToSlots h') :
  xC X.prog X.w X.outer X.H₀ X.s₀ (yz X s x) H { s with heap:=h' }:=by
 have nx:∀ b,b ∉ X.ex:=fun b=>by rw [hex];simp
 have hid:∀ b o o',X.s₀.heap.get? b=some o->b ∉ frs X.outer->s.heap.get? b=some o'->(yz X s x).get? b=some o':=fun b o o' e hb e1=>gz _ e1 fun z=>by
  rcases aJ.mp z with rfl | z
  ·rw [hx0] at e;cases e
  ·exact I.notStk e hb z
 refine ⟨I.os,I.bare,st,fun b o e hb=>?_,fun b o e hb=>?_,I.ok.frf,fun b o e n=>I.base.free b o e n (nx b),I.base.tups,I.base.frzs,I.base.tbls,ER I hx⟩
 ·obtain ⟨o1,e1⟩:=I.base.there b o e (nx b)
  refine ⟨o1,hid b o o1 e hb e1,fun n=>?_⟩
  have:=I.base.keep b o e n hb (nx b)
  rw [e1] at this;cases this;rfl
 ·obtain ⟨sl,e1⟩:=I.base.slot b o e (I.ok.frf b hb) hb (nx b)
  obtain ⟨_,o2,e2,nf⟩:=I.stack.mem (wQ hs hb)
  rw [e1] at e2;cases e2
  obtain ⟨sl2,e3⟩:=us b _ e1 nf
  exact ⟨sl2,e3⟩
end
def Two (d:Option aE)(H:Hp):Prop:=∃ dx fs,d=some dx/\H dx=some (.xd fs)/\2<=fs.length
structure Air (P:bf)(w:bC)(outer:List Env)(H:Hp)(s:ax)(x C:aE)(d:Option aE)(H':Hp)(s':ax):Prop where
 ex:∃ B a0,xC P w outer H s B H' s'/\fL B outer x (.ref C) a0 s'.heap
 dct:∃ o,s'.heap.get? x=some o/\o.dict=d/\(fl2 o=some .none \/ Two d H')
noncomputable def CX1 (P:bf)(w:bC):CXT:=fun outer H s E e s'=>∃ x C d H',e=.ref x/\Air P w outer H s x C d H' s'/\E (.ref C) d H'
theorem CX1.imp {s s':ax}{E E':XK}{e:am}(h:CX1 P w outer H s E e s')(k:∀ c d H',E c d H'->E' c d H'):CX1 P w outer H s E' e s':=
 let ⟨x,C,d,H',e1,a,q⟩:=h
 ⟨x,C,d,H',e1,a,k _ _ _ q⟩
structure DX (X:Cx)(E:XK):Prop where
 stk:X.stack=X.env :: X.outer
 ex:X.ex=[]
 fr:X.env.frame=some X.env.locals
 xe:X.xe=fun e s'=>bg (bc X.prog X.w) X.A (leaving X.env e) (fun _ s''=>CX1 X.prog X.w X.outer X.H₀ X.s₀ E e s'') (fun e' s''=>CX1 X.prog X.w X.outer X.H₀ X.s₀ E e' s'') s'
section
variable {X:Cx}{E:XK}{pins:List (aE × Obj)}{σ:St}{H H':Hp}{s s':ax}
theorem DX.pass (D:DX X E):ki (CX1 X.prog X.w) X E:=by
 intro pins σ H s e s' I h
 obtain ⟨x,C,d,H',rfl,⟨⟨B,a0,a,fl⟩,o,ho,hd,h2⟩,q⟩:=h
 rw [D.xe]
 have hs:=D.stk
 rw [hs] at fl
 refine bF ((yR X.env (.ref x)).any (wpAny_leaves_onW (E:=fun _ _=>False) (Q:=fun _ s2=>∃ h',s2={ s' with heap:=h' }/\fL B X.outer x (.ref C) a0 h'/\s'.heap.UpToSlots h') (by rw [<- hs];exact I.ok.frames) D.fr fl fun h' f1 us=>⟨h',rfl,f1,us⟩)) (fun _ s2 h2=>?_) fun _ _ z=>z.elim
 obtain ⟨⟨h',rfl,f1,us⟩,sd⟩:=h2
 obtain ⟨o',ho',hd',hf'⟩:=sd x o ho
 exact ⟨x,C,d,H',rfl,⟨⟨B,a0,(a.out I hs D.ex).step (B0:=B) (by
  obtain ⟨_,_,f3,_⟩:=fl
  exact f3.2.2) f1.1 us,f1⟩,o',ho',hd'.trans hd,h2.imp (fun z=>hf'.trans z) id⟩,q⟩
theorem DX.raise (D:DX X E)(I:Inv X pins σ H s){x C:aE}{d:Option aE}{oe:Obj}{vs:Array am}{a0:am}{h1:Heap}(k:∀ b o,b ≠ x->s.heap.get? b=some o->h1.get? b=some o)(kx:∀ o,s.heap.get? x=some o->∃ vs,o.data=.fields vs)
  (he:h1.get? x=some oe) (hc:oe.cls=.ref C) (hd:oe.dict=d) (hf:oe.data=.fields vs) (hv1:vs[1]?=some .none) (hv0:vs[0]?=some a0) (hv2:vs[2]?=some .none \/ Two d H) (hx0:X.s₀.heap.get? x=none) (hx:H x=none) (q:E (.ref C) d H):X.xe (.ref x) { s with heap:=h1 }:=by
 rw [D.xe]
 have hs:=D.stk
 have st1:(yz X s x).StaysIn h1:=fun b o e=>k b o (fun z=>by rw [z,yz,gg _ (cK)] at e;cases e) (lG _ e)
 have us1:s.heap.UpToSlots h1:=fun b o e nf=>by
  by_cases c:b=x
  ·rw [c] at e
   obtain ⟨vs,z⟩:=kx o e
   exact absurd z (nf vs)
  ·exact ⟨o.slots,k b o c e⟩
 have fr0:s.heap.FunFrames (yz X s x) (X.env :: X.outer):=by
  have:=I.stack
  rw [hs] at this
  exact PySem.W.funFrames_hide this fun env he b hb=>ba _ (by rw [hs];exact gI.mpr ⟨env,he,hb⟩)
 have fr1:h1.FunFrames (yz X s x) (X.env :: X.outer):=fr0.of_keeps fun b o e nf=>by
  obtain ⟨sl,z⟩:=us1 b o e nf
  exact ⟨_,z,rfl⟩
 have xn:(yz X s x).get? x=none:=gg _ cK
 refine bF ((yR X.env (.ref x)).any (wpAny_leaving_firstW (s:={ s with heap:=h1 }) (E:=fun _ _=>False) (base:=yz X s x) (Q:=fun _ s2=>∃ h',s2={ s with heap:=h' }/\Heap.LeftW (yz X s x) (X.env :: X.outer) x oe.cls a0 h1 h') (by rw [<- hs];exact I.ok.frames) fr1 D.fr he st1 xn hf hv1 hv0 fun h' hl=>⟨h',rfl,hl⟩)) (fun _ s2 h2=>?_) fun _ _ z=>z.elim
 obtain ⟨⟨h',rfl,l1,l2,l3,l4⟩,sd⟩:=h2
 obtain ⟨o',ho',hd',hf'⟩:=sd x oe he
 have hff:fl2 oe=vs[2]?:=by unfold fl2;rw [hf]
 rw [hc] at l3
 exact ⟨x,C,d,H,rfl,⟨⟨yz X s x,a0,J5 I hs D.ex hx0 hx l1 (us1.trans l4),l1,xn,l2.2.2,l3⟩,o',ho',hd'.trans hd,hv2.imp (fun z=>(hf'.trans hff).trans z) id⟩,q⟩
end
def wY (CX:CXT)(X:Cx)(E:St->XK):Prop:=∀ (pins:List (aE × Obj)) (σ:St) (H:Hp) (s:ax) (e:am) (s':ax),Inv X pins σ H s->CX X.stack H s (E σ) e s'->X.xe e s'
noncomputable def xF (sp:Sp)(E:St->XK)(t:TA):TE:=fun σ H Q=>t σ H fun vs H1=>sp vs H1 Q (E σ)
def DfX (P:bf)(w:bC)(K:au)(mg:Str->Option am)(base:Heap)(x:Str)(ps:List Str)(k:Nat)(sp:Sp):Prop:=
 ∃ f fd,qS P w K mg base (CX1 P w) k f fd ps sp/\ja K fd ps []/\cF K (.ref f)=true/\mg x=some (.ref f)
theorem DfX.mono {x:Str} (D:DfX P w K mg base x ps j sp)(h:j<=k):DfX P w K mg base x ps k sp:=
 let ⟨f,fd,F,r⟩:=D
 ⟨f,fd,F.mono h,r⟩
section
variable {X:Cx}{k:Nat}{x:Str}{ps:List Str}{sp:Sp}{E:St->XK}{p pos:Pos}{e:Expr}{es:List Expr}{t:TA}
theorem EE {CX:CXT}{f:aE}{fd:dv}{pins:List (aE × Obj)}{σ:St}{H:Hp}{s:ax}{Q:VK}{us:List am}{vs:List V}(F:qS X.prog X.w X.K X.mg X.base CX k f fd ps sp)(hr:qj k X.A)(hb:ja X.K fd ps [])(hx:wY CX X E)
  (I:Inv X pins σ H s) (r:zx vs us) (h:sp vs H Q (E σ)):bg (bc X.prog X.w) X.A (call (.ref f) us) (EP X pins σ Q) X.xe s:=by
 have hl:(us ++ []).length=ps.length:=by rw [b9,<- r.length];exact F.len _ _ _ _ h
 have b1:=hb s us I.kIn hl
 rw [b9] at b1
 refine iw (fE (F.run X.A X.stack s H ⟨us,[]⟩ us vs Q (E σ) hr I.env0 b1 r h) fun r s' hq=>?_)
 cases r with
 | error e=>exact hx pins σ H s e s' I hq
 | ok fl=>
  cases fl with
  | ret u=>exact I.after hq
  | next=>exact cg hq
  | brk=>exact cg hq
  | cont=>exact cg hq
theorem Vf (D:DfX X.prog X.w X.K X.mg X.base x ps k sp)(hr:qj k X.A)(hg:Gl X x)(hx:wY (CX1 X.prog X.w) X E)(ha:PA X (e :: es) t)(hdb:(x == ("__debug__":Str))=false:=by decide)
  (he:bi (e :: es) X.env=(false,eval e X.env) :: bi es X.env:=by rfl) (hpl:(cT pos (bi es X.env)).any (·.1)=false:=by rfl):PE X (.Call (.Name x p) (e :: es) [] pos) (xF sp E t):=by
 obtain ⟨f,fd,F,b,kp,m⟩:=D
 intro pins s σ H Q I h
 refine dw (jd I hg m ?_ hdb)
 refine d8 (h₀:=X.base) I.ok.mod.kin kp (thn (ha pos pins s σ H _ I h) fun us s1 ⟨vs,H1,I1,r,q⟩=>⟨I1.kIn,?_⟩) he hpl
 exact EE F hr b hx I1 r q
theorem DX.passX {E0:XK}(D:DX X E0):wY (CX1 X.prog X.w) X fun _=>E0:=fun pins σ H s e s' I h=>D.pass pins σ H s e s' I h
end
theorem Gx {x:Str} (a:At K mg x st)(S:zp N ps (zd st))
  (hb:∀ (kV doc pm:am) (an:Option aE) (cdv ct:am) (us:List am),us.length=ps.length->gi (ck x x (qq st) (zT st) (zd st) .none kV doc pm an cdv ct) ⟨us,[]⟩=pure (ps.zip us))
  (len:∀ vs H Q E,sp vs H Q E->vs.length=ps.length)
  (hbody:∀ (f:aE) (cdv:am) (A:bo) (outer:List Env) (s:ax) (H:Hp) (vs:List V) (Q:VK) (E:XK),qj k (A.deeper (fF x (zd st) s.heap.objs.size f cdv))->sp vs H Q E ->
   ∃ t,(DX (kJ (CX1 P w) P w K mg base N x (zd st) f cdv A outer s H E) E->PSs (kJ (CX1 P w) P w K mg base N x (zd st) f cdv A outer s H E) (zT st) t)/\t { nx:=fun _ H'=>Q .non H',rt:=Q } (qF N vs) H):DfX P w K mg base x ps (k+1) sp:=by
 obtain ⟨f,fd,F,m⟩:=a
 refine ⟨f,fd,?_,F.binds hb,F.kp,m⟩
 obtain ⟨oc,od,kV,doc,pm,an,cdv,ct,osl,rfl,lk,hcd⟩:=F.ex
 refine FJ lk hcd S len fun A outer s H vs Q E hr hsp=>?_
 obtain ⟨t,ht,q⟩:=hbody f cdv A outer s H vs Q E hr hsp
 exact ⟨t,ht ⟨rfl,rfl,rfl,rfl⟩,q⟩
abbrev Y6:List am:=[.type "ValueError",.type "Exception",.type "BaseException",.type "object"]
section
variable {X:Cx}{E:XK}{C:aE}{x:Str}{np cpos pos:Pos}{e:Expr}{es:List Expr}{t:TA}
end
theorem Ed {d:Option aE}{o:Obj}{vs:Array am}(e:h.get? a=some o)(hc:o.cls=.ref C)(hd:o.dict=d)(hf:o.data=.fields vs):zS P w H h a (Z4 a C d):=
 ⟨⟨o,e,hc,hd,vs,hf⟩,⟨o,e⟩,fun _ _ ⟨o,e,r⟩ k=>⟨o,k o e,r⟩⟩
section
variable {X:Cx}{pins:List (aE × Obj)}{σ:St}{H H':Hp}{s s':ax}
theorem Inv.track (I:Inv X pins σ H s){x:aE} (hx:H x=none)(h0:X.s₀.heap.get? x=none)(hl:x ≠ X.env.locals)(hc:∀ y c,X.env.cells.lookup y=some c->c ≠ x)(hp:∀ p ∈ X.pn ++ pins,p.1 ≠ x)(ok:zS X.prog X.w (upd H x o) s.heap x o):Inv X pins σ (upd H x o) s:=by
 refine ⟨I.ok,I.os,I.bare,⟨I.base.keep,I.base.slot,fun b u e n hb=>?_,I.base.there,fun b xs e=>?_,fun b u v e=>?_,fun b ps e=>?_⟩,I.loc,I.cell,?_,fun y c e=>?_,fun p hp'=>?_,fun b u e=>?_,I.len⟩
 ·rw [zg (fun z=>by rw [z,h0] at e;cases e)];exact I.base.free b u e n hb
 ·have:=I.base.tups b xs e;rw [zg (zj this hx)];exact this
 ·have:=I.base.frzs b u v e;rw [zg (zj this hx)];exact this
 ·obtain ⟨m,this⟩:=I.base.tbls b ps e;exact ⟨m,by rw [zg (zj this hx)];exact this⟩
 ·rw [zg (Ne.symm hl)];exact I.free
 ·rw [zg (hc y c e)];exact I.freeC y c e
 ·obtain ⟨e1,e2,e3⟩:=I.pin p hp'
  exact ⟨e1,by rw [zg (hp p hp')];exact e2,e3⟩
 ·by_cases c:b=x
  ·subst c;rw [zi] at e;cases e;exact ok
  ·rw [zg c] at e
   exact (I.hok b u e).stay (fun _ _ _ q=>q) (fun d q=>by rw [zg (zj q hx)];exact q) fun d xs q=>by rw [zg (zj q hx)];exact q
theorem Inv.goes (I:Inv X pins σ H s) {n:Str}{m:Str->Option am}{v:Option am}{h':Heap}{t':Nat}(nd:X.N.Nodup)(hi:X.N[i]?=some n)(hm:s.heap.Ns X.env.locals m)(hn:h'.Ns X.env.locals fun y=>if y=n then v else m y)(sb:b8 X.env.locals s.heap h'):Inv X pins (σ.set i none) H { s with heap:=h',toks:=t' }:=by
  have kp:∀ b o,b ≠ X.env.locals->s.heap.get? b=some o->h'.get? b=some o:=fun b o hb e=>(sb.2 b hb).trans e
  refine ⟨I.ok,I.os,I.bare,⟨fun b o e n hb hx=>kp b o (I.ltS e) (I.base.keep b o e n hb hx),fun b o e n hb hx=>?_,I.base.free,fun b o e hx=>?_,I.base.tups,I.base.frzs,I.base.tbls⟩,⟨_,hn,fun j y u e1 e2 e3=>?_⟩,fun y c e=>?_,I.free,I.freeC,fun p hp=>?_,fun b u e=>?_,by rw [bT];exact I.len⟩
  · obtain ⟨sl,e1⟩:=I.base.slot b o e n hb hx
    exact ⟨sl,kp b _ (I.ltS e) e1⟩
  · obtain ⟨o',e1⟩:=I.base.there b o e hx
    exact ⟨o',kp b o' (I.ltS e) e1⟩
  · have ij : j ≠ i := fun z => by
      rw [z,cB] at e2
      simp only [if_true] at e2
      split at e2 <;> cases e2
    rw [eG (Ne.symm ij)] at e2
    obtain ⟨m',hm',hl⟩:=I.loc
    have em:∀ y,m' y=m y:=fun y=>by
      obtain ⟨o1,es1,ep1,g1,g2,_,g4⟩:=hm'
      obtain ⟨o2,es2,ep2,g1',g2',_,g4'⟩:=hm
      rw [g1] at g1';cases g1'
      rw [g2] at g2';cases g2'
      rw [<- g4 y,g4' y]
    obtain ⟨w,rw1,lk⟩:=hl j y u e1 e2 e3
    refine ⟨w,rw1,?_⟩
    have yn:y ≠ n:=fun z=>ij (vv nd e1 (z ▸ hi))
    rcases lk with ⟨k,z⟩ | ⟨k,c,e,z⟩
    · refine .inl ⟨k,?_⟩
      show (if y=n then v else m y)=_
      rw [if_neg yn,<- em];exact z
    · refine .inr ⟨k,c,e,?_⟩
      obtain ⟨o,ho,hd⟩:=z
      exact ⟨o,kp c o (I.cne y c e) ho,hd⟩
  · obtain ⟨v',o,ho,hd⟩:=I.cell y c e
    exact ⟨v',o,kp c o (I.cne y c e) ho,hd⟩
  · obtain ⟨e,n,ne,nf,d⟩:=I.pin p hp
    exact ⟨kp _ _ ne e,n,ne,nf,d⟩
  · refine (I.hok b u e).stay (fun c v hc q=>kp c v (fun z=>?_) q) (fun _ q=>q) fun _ _ q=>q
    have:=I.free
    rw [<- z] at this
    rcases hc with rfl | hc
    · rw [e] at this;cases this
    · rw [hc] at this;cases this
end
noncomputable abbrev Cx.tried (X:Cx)(pins:List (aE × Obj))(xe:am->ax->Prop):Cx:={ X with pn:=X.pn ++ pins,xe:=xe }
noncomputable abbrev Cx.inside (X:Cx)(x:aE):Cx:={ X with A:=X.A.mark (some (.ref x)),calm:=false,xe:=fun _ _=>False }
theorem Cx.Ok.tried (ok:X.Ok)(pins:List (aE × Obj))(xe:am->ax->Prop):(X.tried pins xe).Ok:=
 ⟨ok.mod,ok.kind,ok.glob,ok.blt,ok.above,ok.inj,ok.has,ok.cab,ok.hd,ok.frames,ok.stk,ok.exf,ok.bs,ok.bsz,ok.noex,ok.exfs,ok.funs,ok.frf⟩
variable {xe:am->ax->Prop}
theorem Cx.Ok.untried (ok:(X.tried pins xe).Ok):X.Ok:=
 ⟨ok.mod,ok.kind,ok.glob,ok.blt,ok.above,ok.inj,ok.has,ok.cab,ok.hd,ok.frames,ok.stk,ok.exf,ok.bs,ok.bsz,ok.noex,ok.exfs,ok.funs,ok.frf⟩
theorem Cx.Ok.inside (ok:X.Ok)(x:aE):(X.inside x).Ok:=
 ⟨ok.mod,ok.kind,ok.glob,ok.blt,ok.above,ok.inj,ok.has,ok.cab,(fun z=>nomatch z),ok.frames,ok.stk,ok.exf,ok.bs,ok.bsz,ok.noex,ok.exfs,ok.funs,ok.frf⟩
section
variable {X:Cx}{pins pins':List (aE × Obj)}{σ:St}{H:Hp}{s s':ax}{xe:am->ax->Prop}
theorem Inv.tried (I:Inv X pins σ H s)(xe:am->ax->Prop):Inv (X.tried pins xe) [] σ H s:=⟨I.ok.tried pins xe,I.os,I.bare,I.base,I.loc,I.cell,I.free,I.freeC,fun p hp=>I.pin p (by rw [b9] at hp;exact hp),I.hok,I.len⟩
theorem Inv.untried (I:Inv (X.tried pins xe) pins' σ H s):Inv X pins σ H s:=⟨I.ok.untried,I.os,I.bare,I.base,I.loc,I.cell,I.free,I.freeC,fun p hp=>I.pin p (dE _ hp),I.hok,I.len⟩
theorem Inv.inside (I:Inv X pins σ H s)(x:aE):Inv (X.inside x) pins σ H s:=⟨I.ok.inside x,I.os,I.bare,I.base,I.loc,I.cell,I.free,I.freeC,I.pin,I.hok,I.len⟩
theorem Inv.outside {x:aE}(ok:X.Ok)(I:Inv (X.inside x) pins σ H s):Inv X pins σ H s:=⟨ok,I.os,I.bare,I.base,I.loc,I.cell,I.free,I.freeC,I.pin,I.hok,I.len⟩
theorem SP.untried {D:jr}{f:Flow}(h:SP (X.tried pins xe) [] D f s'):SP X pins D f s':=by
 cases f with
 | next=>obtain ⟨σ',H',I,q⟩:=h;exact ⟨σ',H',I.untried,q⟩
 | brk=>obtain ⟨σ',H',I,q⟩:=h;exact ⟨σ',H',I.untried,q⟩
 | cont=>obtain ⟨σ',H',I,q⟩:=h;exact ⟨σ',H',I.untried,q⟩
 | ret u=>obtain ⟨v,σ',H',I,r,q⟩:=h;exact ⟨v,σ',H',I.untried,r,q⟩
theorem Air.here (I:Inv X pins σ H s)(hs:X.stack=X.env :: X.outer)(hf:X.env.frame=some X.env.locals)(hex:X.ex=[]){B:Heap}{a0:am}{x C:aE}{d:Option aE} (a:xC X.prog X.w X.stack H s B H' s')(fl:fL B X.stack x (.ref C) a0 s'.heap)(hd:∃ o,s'.heap.get? x=some o/\o.dict=d/\(fl2 o=some .none \/ Two d H')) :
  H' x=none/\Inv X pins σ (upd H' x (Z4 x C d)) s':=by
 obtain ⟨f1,f2,f3,oe,vs,T,oT,ts,he,⟨hc,_⟩,hdt,_⟩:=fl
 obtain ⟨o',ho',hd',_⟩:=hd
 rw [he] at ho';cases ho'
 have hx:H' x=none:=by
  cases z:H' x with
  | none=>rfl
  | some o=>obtain ⟨u,e⟩:=(a.hok x o z).here;rw [f2] at e;cases e
 have I1:Inv X pins σ H' s':=I.call' (ch:=[]) a.os a.un a.ok a.bare (fun b z=>absurd z (by simp))
 have nB:∀ b o,s.heap.get? b=some o->b ∉ frs X.stack->b ≠ x:=fun b o e hb z=>by
  obtain ⟨o',e1,_⟩:=a.cov b o e hb
  rw [z,f2] at e1;cases e1
 refine ⟨hx,I1.track hx ?_ (fun z=>?_) (fun y c e z=>?_) (fun p hp z=>?_) (Ed he hc hd' hdt)⟩
 ·cases z:X.s₀.heap.get? x with
  | none=>rfl
  | some o=>
   obtain ⟨o1,e1⟩:=I.base.there x o z (by rw [hex];simp)
   by_cases hb:x ∈ frs X.stack
   ·obtain ⟨_,o2,e2,nf⟩:=f3.mem hb
    rw [he] at e2;cases e2
    exact absurd hdt (nf vs)
   ·exact absurd rfl (nB x o1 e1 hb)
 ·obtain ⟨m,⟨o,es,ep,ho,hdd,_⟩,_⟩:=I1.loc
  rw [<- z,he] at ho;cases ho
  rw [hdt] at hdd;cases hdd
 ·obtain ⟨v,o,ho,hdd⟩:=I1.cell y c e
  rw [z,he] at ho;cases ho
  rw [hdt] at hdd;cases hdd
 ·obtain ⟨e1,e2,e3,e4,_⟩:=I.pin p hp
  refine nB p.1 p.2 e1 (fun w=>?_) z
  rcases aJ.mp (I.stkSub p.1 w) with q | q
  ·exact e3 q
  ·exact e4 q
end
noncomputable def FP (i:Nat)(D:jr):jr:={ nx:=fun σ H=>D.nx (σ.set i none) H,rt:=D.rt,bk:=fun σ H=>D.bk (σ.set i none) H,ct:=fun σ H=>D.ct (σ.set i none) H }
noncomputable def eh1 (K:au)(i:Nat)(T:aE)(th:TS)(D:jr):St->XK:=fun σ1 c d H1=>∃ C,c=.ref C/\gO K (.ref C) (.ref T)=some true/\∀ x,H1 x=none->th (FP i D) (σ1.set i (some (.ref x))) (upd H1 x (Z4 x C d))
noncomputable def IL (K:au)(i:Nat)(T:aE)(tb:(St->XK)->TS)(th:TS):TS:=fun D σ H=>tb (eh1 K i T th D) D σ H
def vF (X:Cx)(H:Hp)(s:ax)(B:Heap)(x C:aE)(d:Option aE)(a0:am)(H':Hp)(s':ax):Prop:=
 xC X.prog X.w X.stack H s B H' s'/\fL B X.stack x (.ref C) a0 s'.heap/\∃ o,s'.heap.get? x=some o/\o.dict=d/\(fl2 o=some .none \/ Two d H')
section
variable {X:Cx}{pins:List (aE × Obj)}{σ:St}{H H':Hp}{s s':ax}{B:Heap}{x C:aE}{d:Option aE}{a0:am}
theorem vF.lands {M:mM}{E:am->ax->Prop}{Q:Unit->ax->Prop}(h:vF X H s B x C d a0 H' s')(k:∀ s2,vF X H s B x C d a0 H' s2->Q () s2):bg M A (mJ (.ref x) none) Q E s':=by
 obtain ⟨a,fl,o,ho,hd,h2f⟩:=h
 refine bF ((xY (.ref x) none).any (lands_againW (E:=E) (Q:=fun _ s2=>∃ h',s2={ s' with heap:=h' }/\fL B X.stack x (.ref C) a0 h'/\s'.heap.UpToSlots h') fl fun h' f1 us=>⟨h',rfl,f1,us⟩)) (fun _ s2 h2=>?_) fun _ _ z=>z
 obtain ⟨⟨h',rfl,f1,us⟩,sd⟩:=h2
 obtain ⟨o',ho',hd',hf'⟩:=sd x o ho
 exact k _ ⟨a.step fl.2.2.1 f1.1 us,f1,o',ho',hd'.trans hd,h2f.imp (fun z=>hf'.trans z) id⟩
theorem vF.noted {E:am->ax->Prop}{Q:Unit->ax->Prop}(ok:X.Ok)(hs:X.stack=X.env :: X.outer)(hf:X.env.frame=some X.env.locals)(h:vF X H s B x C d a0 H' s')(k:∀ s2,vF X H s B x C d a0 H' s2->Q () s2) :
  bg (bc X.prog X.w) X.A (mD (.ref x) X.env) (fun _ s2=>bg (bc X.prog X.w) X.A (mJ (.ref x) none) Q E s2) E s':=by
 obtain ⟨a,fl,o,ho,hd,h2f⟩:=h
 have fl':=fl
 rw [hs] at fl'
 refine bF ((KP (.ref x) X.env).any (wpAny_looks_onW (E:=E) (Q:=fun _ s2=>∃ h',s2={ s' with heap:=h' }/\Heap.HeldW B (X.env :: X.outer) x (.ref C) a0 X.env.locals h'/\s'.heap.UpToSlots h') (by rw [<- hs];exact ok.frames) hf fl' fun h' f1 us=>⟨h',rfl,f1,us⟩)) (fun _ s2 h2=>?_) fun _ _ z=>z
 obtain ⟨⟨h',rfl,f1,us⟩,sd⟩:=h2
 obtain ⟨o',ho',hd',hf'⟩:=sd x o ho
 have a2:=a.step fl.2.2.1 f1.1 us
 refine bF ((xY (.ref x) none).any (wpAny_landsW (E:=E) (Q:=fun _ s3=>∃ h'',s3={ s' with heap:=h'' }/\fL B (X.env :: X.outer) x (.ref C) a0 h''/\h'.UpToSlots h'') f1 fun h'' f2 us2=>⟨h'',rfl,f2,us2⟩)) (fun _ s3 h3=>?_) fun _ _ z=>z
 obtain ⟨⟨h'',rfl,f2,us2⟩,sd2⟩:=h3
 obtain ⟨o'',ho'',hd'',hf''⟩:=sd2 x o' ho'
 refine k _ ⟨a2.step (s':={ s' with heap:=h' }) (by rw [hs];exact f1.2.2.1) f2.1 us2,by rw [hs];exact f2,o'',ho'',(hd''.trans hd').trans hd,h2f.imp (fun z=>(hf''.trans hf').trans z) id⟩
theorem D5 {D:jr}{E:am->ax->Prop}{i:Nat}{n:Str}{hpos:Pos}{f:Flow}(ok:X.Ok)(nd:X.N.Nodup)(hi:X.N[i]?=some n)(hl:X.env.kindOf n=some .local)(h:SP (X.inside x) pins (FP i D) f s) :
  bg (bc X.prog X.w) X.A (do bindName X.env n .none;unbindBehindTheSuite X.env n hpos) (fun _ s2=>SP X pins D f s2) E s:=by
 have hp:(X.env.scope.kind == .class || (X.env.scope.kind == .module && X.env.locals != X.env.globals))=false:=by rw [ok.kind];rfl
 cases f with
 | next=>
  obtain ⟨σ',H',I,q⟩:=h
  have I':=I.outside ok
  obtain ⟨m,hm,_⟩:=id I'.loc
  exact eM hl hm hp fun h' v hn sb=>⟨_,H',I'.goes nd hi hm hn sb,q⟩
 | brk=>
  obtain ⟨σ',H',I,q⟩:=h
  have I':=I.outside ok
  obtain ⟨m,hm,_⟩:=id I'.loc
  exact eM hl hm hp fun h' v hn sb=>⟨_,H',I'.goes nd hi hm hn sb,q⟩
 | cont=>
  obtain ⟨σ',H',I,q⟩:=h
  have I':=I.outside ok
  obtain ⟨m,hm,_⟩:=id I'.loc
  exact eM hl hm hp fun h' v hn sb=>⟨_,H',I'.goes nd hi hm hn sb,q⟩
 | ret u=>
  obtain ⟨v,σ',H',I,r,q⟩:=h
  have I':=I.outside ok
  obtain ⟨m,hm,_⟩:=id I'.loc
  exact eM hl hm hp fun h' w hn sb=>⟨v,_,H',I'.goes nd hi hm hn sb,r,q⟩
variable {body suite:List cn}{b₀:cn}{n tx:Str}{i:Nat}{T:aE}{np hpos pos:Pos}{tb:(St->XK)->TS}{th:TS}
theorem DT (hs:X.stack=X.env :: X.outer)(hf:X.env.frame=some X.env.locals)(hex:X.ex=[])(nd:X.N.Nodup)(hi:X.N[i]?=some n)(hl:X.env.kindOf n=some .local)(hg:Gl X tx)(hm:X.mg tx=some (.ref T))
  (hb:∀ (pins:List (aE × Obj)) (xe:am->ax->Prop) (Eh:St->XK),wY (CX1 X.prog X.w) (X.tried pins xe) Eh->PSs (X.tried pins xe) body (tb Eh)) (hh:∀ x,PSs (X.inside x) (b₀ :: suite) th)
  (hdb:(tx == ("__debug__":Str))=false:=by decide):PS X (.Try body [.ExceptHandler (some (.Name tx np)) (some n) (b₀ :: suite) hpos] [] [] pos) (IL X.K i T tb th):=by
 intro pins s σ H D I h
 refine wpAny_Try_except (bF (hb pins (fun e s'=>∃ σ1 H1 s1,Inv X pins σ1 H1 s1/\CX1 X.prog X.w X.stack H1 s1 (eh1 X.K i T th D σ1) e s') (eh1 X.K i T th D) (fun pins' σ1 H1 s1 e s' I1 c=>⟨σ1,H1,s1,I1.untried,c⟩) [] s σ H D (I.tried _) h) (fun f s1 q=>?_) fun e s1 q=>?_)
 ·have q:=q.untried
  cases f with
  | next=>exact fc q
  | brk=>exact q
  | cont=>exact q
  | ret u=>exact q
 ·obtain ⟨σ1,H1,s1',I1,x,C,d,H',rfl,⟨⟨B,a0,a,fl⟩,hd⟩,C',eC,hx,q⟩:=q
  cases eC
  refine vF.noted I.ok hs hf ⟨a,fl,hd⟩ fun s3 h3=>?_
  obtain ⟨hx0,I3⟩:=Air.here I1 hs hf hex h3.1 h3.2.1 h3.2.2
  refine wpAny_handleBy_cons (codeAny_handlers_test (jd (I3.inside x) hg hm ?_ hdb)) (by intro z;cases z)
  obtain ⟨oe,vs,he,hc,_⟩:=h3.2.1.first
  have LT:f9 (bc X.prog X.w) s3.heap (typeOf (.ref x)) (.ref C):=hc ▸ (f9.ld he).andThen .now
  refine (PySem.W.exm_one I3.kIn LT hx).here ?_
  refine codeAny_handlers_suite_as (h3.lands fun s4 h4=>?_)
  obtain ⟨_,I4⟩:=Air.here I1 hs hf hex h4.1 h4.2.1 h4.2.2
  refine yO I4 nd hi (bn hl) (show zC (.ref x) (.ref x) from rfl) (fun s5 I5=>?_) (.inr hl)
  exact bF (hh x pins s5 _ _ _ (I5.inside x) (q x hx0)) (fun f s6 h6=>D5 I.ok nd hi hl h6) fun _ _ z=>z.elim
end
open PySem.W (Looks InstAt findIn findObj subIn mroIn)
section
variable {prog:bf}{w:bC}{A:bo}{E:am->ax->Prop}{h:Heap}{g:Array GenState}{d:Drawn}{t:Nat}{os:OsState}{K:au}{x C:aE}{ox:Obj}{od:Option Obj}{name:Str}
theorem Dj {tk : Tok}{R : ms -> ax -> Prop}(X : K.In h)(I : InstAt h x ox C od)(hb : lF K (.ref C) (.type "BaseException") = some true)(k : bg (bc prog w) A.in1 (Builtin.«object.__getattribute__» ⟨[.ref x, .str name tk], []⟩)
      (fun fin s'=>match fin with | .done (.ret v)=>R (.ok (.ret v)) s' | _=>False) (fun _ _=>False) ⟨h,g,d,t,os⟩) :
    fA (bc prog w) A (.call (.builtin "BaseException.__getattribute__") ⟨[.ref x,.str name tk],[]⟩) R ⟨h,g,d,t,os⟩:=by
  have L0:=I.type (M:=bc prog w)
  have L1:=PySem.W.looks_subIn (M:=bc prog w) X hb
  have hk:builtinKind "BaseException.__getattribute__"=some .slot:=by decide +kernel
  have hsplit:splitId "BaseException.__getattribute__"=some ("BaseException","__getattribute__"):=by decide +kernel
  have ha:=F.args_bexc_ga (.ref x) (.str name tk)
  refine codeAny_call_builtin F.excAttr_ValueError.ga.plain F.entry_bexc_ga ?_
  simp only [checkBuiltinCall,hk,hsplit]
  have LI:gP (bc prog w) h (isInstance (.ref x) (.type "BaseException")) true:=L0.andThen L1
  refine aF (LI.at ?_)
  simp only [h7,lQ,if_false]
  have fin:bg (bc prog w) A.in1 (Builtin.«object.__getattribute__» ⟨[.ref x,.str name tk],[]⟩) (fun fin s'=>match fin with | .done f=>R (.ok f) s' | .again c'=>c'.quiet=true/\fA (bc prog w) A c' R s') (fun e s'=>R (.error e) s') ⟨h,g,d,t,os⟩:=
    bF k (fun fin s' z=>by rcases fin with (_ | _ | _ | _) | _ <;> first | exact z | exact z.elim) fun _ _ z=>z.elim
  clear k L0 L1 LI
  repeat (any_goals (first | assumption | wp_step))
theorem Lv {tk:Tok}{fill expr:Bool}{Q:am->ax->Prop}(X:K.In h)(I:InstAt h x ox C od)(hb:lF K (.ref C) (.type "BaseException")=some true)
  (h1:eu K (.ref C) "__getattribute__"=some (some (.builtin "BaseException.__getattribute__"))) (h2:eu K (.ref C) "__getattr__"=some none)
  (k:bg (bc prog w) A.in1 (Builtin.«object.__getattribute__» ⟨[.ref x,.str name tk],[]⟩)
   (fun fin s'=>match fin with | .done (.ret v)=>bg (bc prog w) A (handedOut v) Q E s' | _=>False) (fun _ _=>False) ⟨h,g,d,t,os⟩) :
  bg (bc prog w) A (getAttrBy (.ref x) (.str name tk) fill expr) Q E ⟨h,g,d,t,os⟩:=by
 have L0:=I.type (M:=bc prog w)
 have L1:=eJ (M:=bc prog w) X h1
 have L2:=eJ (M:=bc prog w) X h2
 have f3:=F.excAttr_ValueError.ga.bind (.ref x)
 have hx0:(expr && onTheHeap (am.builtin "BaseException.__getattribute__"))=false:=by cases expr <;> rfl
 have hx2:(am.builtin "BaseException.__getattribute__" == am.builtin "object.__getattribute__")=false:=by decide +kernel
 have hx1:(onTheHeap (am.ref C) && am.builtin "BaseException.__getattribute__" == am.builtin "object.__getattribute__")=false:=by rw [hx2];rfl
 repeat (any_goals (first | assumption | with_reducible refine gP.at L0 ?_ | with_reducible refine gP.at L1 ?_ | with_reducible refine gP.at L2 ?_ | wp_step))
 exact Dj X I hb k
structure Gj (K:au)(C:aE):Prop where
 bx:lF K (.ref C) (.type "BaseException")=some true
 ga:eu K (.ref C) "__getattribute__"=some (some (.builtin "BaseException.__getattribute__"))
 gt:eu K (.ref C) "__getattr__"=some none
 cl:eu K (.ref C) "__class__"=some (some (.builtin "object.__class__"))
 gs:fB K (.builtin "object.__class__") "__get__"=some (some (.builtin "getset_descriptor.__get__"))
 tk:iJ K (.builtin "object.__class__")=some true
 mo:mQ K C (.type "object")=some true
 is:(PySem.W.clsIn K C).isSome=true
end
inductive AD (X:Cx):List Expr->List am->Prop
 | nil:AD X [] []
 | own {x:Str} {p:Pos} {C:aE} {es:List Expr} {cs:List am}:Gl X x->X.mg x=some (.ref C)->(x == ("__debug__":Str))=false->AD X es cs->AD X (.Name x p :: es) (.ref C :: cs)
 | blt {x:Str} {p:Pos} {T:String} {es:List Expr} {cs:List am}:Gl X x->X.mg x=none->bR x=some (.type T)->x ≠ "__name__"->(x == ("__debug__":Str))=false->AD X es cs->AD X (.Name x p :: es) (.type T :: cs)
section
variable {X:Cx}{e c:Expr}{es:List Expr}{cs:List am}{t:TE}{p pos tp:Pos}{kk:Nat}
end
abbrev AXK:=aE->List (Str × V)->MH->Prop
abbrev Zi:=List AV->MH->AK->AXK->Prop
def Kt (H:Hp)(O:Own)(M:MH)(d:Option aE)(fs:List (Str × V)):Prop:=d=none/\fs=[] \/ ∃ dx,d=some dx/\H dx=some (.xd fs)/\O dx/\M dx=none
theorem Kt.ext {d:Option aE}{fs:List (Str × V)}(k:Ext H O M H' O' M')(x:Kt H O M d fs):Kt H' O' M' d fs:=by
 rcases x with x | ⟨dx,e,h1,h2,h3⟩
 ·exact .inl x
 ·obtain ⟨x1,x2,x3⟩:=k.prv dx h2 h3
  exact .inr ⟨dx,e,x1.trans h1,x2,x3⟩
noncomputable def yP (a:Zi):Sp:=fun vs H Q E=>∃ xs M O Q' E',Wf H O M/\zh H O M vs xs/\a xs M Q' E'/\(∀ x M' v H' O',Q' x M'->Ext H O M H' O' M'->Wf H' O' M'->zo H' O' M' v x->Q v H') /\
 ∀ C fs M' H' O' d,E' C fs M'->Ext H O M H' O' M'->Wf H' O' M'->Kt H' O' M' d fs->E (.ref C) d H'
noncomputable def cE (H0:Hp)(O0:Own)(M0:MH)(E':AXK):XK:=fun c d H'=>∃ C fs M' O',c=.ref C/\E' C fs M'/\Ext H0 O0 M0 H' O' M'/\Wf H' O' M'/\Kt H' O' M' d fs
structure EXs (H0:Hp)(O0:Own)(M0:MH)(E:St->XK)(EA:ASt->AXK):Prop where
 go:∀ σ ρ C fs M' H' O' d,EA ρ C fs M'->Ext H0 O0 M0 H' O' M'->Wf H' O' M'->Er H' O' M' σ ρ->Kt H' O' M' d fs->E σ (.ref C) d H'
theorem Xz {E':AXK}:EXs H0 O0 M0 (fun _=>cE H0 O0 M0 E') (fun _=>E'):=⟨fun _ _ C fs M' H' O' d q k w _ x=>⟨C,fs,M',O',rfl,q,k,w,x⟩⟩
structure kz (HX:Hp)(OX:Own)(MX:MH)(t:TS)(a:AS):Prop where
 go:∀ {H0:Hp} {O0:Own} {M0:MH} {D:jr} {D':kM} {σ:St} {H:Hp} {O:Own} {ρ:ASt} {M:MH},Ext HX OX MX H0 O0 M0->Wf H0 O0 M0->Wf H O M->Er H O M σ ρ->Ext H0 O0 M0 H O M->a M0 D' ρ M->ED H0 O0 M0 D D'->t D σ H
section
variable {HX:Hp}{OX:Own}{MX:MH}{t u:TS}{a b:AS}{E:St->XK}{EA:ASt->AXK}{sp:Zi}{ta:TA}{aa:AA}
theorem E5 (h:qK t a):kz HX OX MX t a:=⟨fun _ w0 w e x q E=>h.go w0 w e x q E⟩
theorem AU (h1:kz HX OX MX t a)(h2:kz HX OX MX u b):kz HX OX MX (J3 t u) (Jp a b):=
 ⟨fun kx w0 w e x q E=>h1.go kx w0 w e x q ⟨fun σ H O ρ M w e x q=>h2.go kx w0 w e x q E,E.rt,E.bk,E.ct⟩⟩
theorem VR (hc:j9 c ac)(h1:kz HX OX MX t a)(h2:kz HX OX MX u b):kz HX OX MX (Fb c t u) (EH ac a b):=
 ⟨fun kx w0 w e x q E=>hc.go w e q fun k M1 H1 O1 q1 k1 w1=>by
  cases k with
  | true=>exact h1.go kx w0 w1 (e.ext k1) (x.trans k1) q1 E
  | false=>exact h2.go kx w0 w1 (e.ext k1) (x.trans k1) q1 E⟩
theorem W7 (hi:Zk wi ai)(hg:x9 g ag)(hb:kz HX OX MX t a):kz HX OX MX (Ea wi g t) (HJ ai ag a):=⟨fun {H0 O0 M0 D D' σ H O ρ M} kx w0 w e x q E=>by
 rw [Zd]
 refine hi.go w e q fun l G M1 J H1 O1 q1 k1 w1 hj=>?_
 have E1:=E.tr (x.trans k1)
 have kx1:=kx.trans (x.trans k1)
 obtain ⟨Pv,p0,ps,pd⟩:=q1
 refine ⟨fun i m σ H=>m=l.length - i/\i<=l.length/\∃ O ρ M,Wf H O M/\Er H O M σ ρ/\Ext H1 O1 M1 H O M/\Pv i ρ M,⟨l.length,by simp,cb _,O1,ρ,M1,w1,e.ext k1,.refl,p0⟩,?_⟩
 rintro i m σ H ⟨rfl,hi,O,ρ,M,w,e,x,hf⟩
 by_cases hil:i<l.length
 ·have hy:l[i]?=some l[i]:=aq hil
  obtain ⟨hG,q2⟩:=ps i l[i] ρ M hy hf
  obtain ⟨j1,j2⟩:=(hj H O M x.fix x.mst w hG i).2 l[i] hy
  refine .inr ⟨j1,fun σ' H'=>∃ O ρ M,Wf H' O M/\Er H' O M σ' ρ/\Ext H1 O1 M1 H' O M/\Pv (i+1) ρ M,fun σ' H' z=>⟨l.length - (i+1),by omega,rfl,hil,z⟩,fun v H' hv=>?_⟩
  obtain ⟨k2,w2,r2⟩:=j2 v H' hv
  refine hg.go w2 (e.ext k2) r2 q2 fun σ3 H3 O3 ρ3 M3 q3 k3 w3 e3=>?_
  exact hb.go kx1 w1 w3 e3 ((x.trans k2).trans k3) q3 ⟨fun σ H O ρ M w e x q=>⟨O,ρ,M,w,e,x,q⟩,E1.rt,E1.nx,fun σ H O ρ M w e x q=>⟨O,ρ,M,w,e,x,q⟩⟩
 ·have e0:i=l.length:=by omega
  subst e0
  obtain ⟨hG,q2⟩:=pd ρ M hf
  exact .inl ⟨(hj H O M x.fix x.mst w hG l.length).1 rfl,E1.nx _ _ _ _ _ w e x q2⟩⟩
noncomputable def yb (sp:Zi)(EA:ASt->AXK)(b:AA):AE:=fun ρ M Q=>b ρ M fun xs M1=>sp xs M1 Q (EA ρ)
theorem Ji (hE:EXs HX OX MX E EA)(hu:qW ta aa) {Q':AK}(kx:Ext HX OX MX H O M)(w:Wf H O M)(e:Er H O M σ ρ)(q:yb sp EA aa ρ M Q')(k:∀ x M' v H' O',Q' x M'->Ext H O M H' O' M'->Wf H' O' M'->zo H' O' M' v x->Q v H'):xF (yP sp) E ta σ H Q:=
 hu.go w e q fun xs M1 vs H1 O1 q1 k1 w1 r1=>⟨xs,M1,O1,Q',EA ρ,w1,r1,q1,fun x M2 v H2 O2 q2 k2 w2 r2=>k x M2 v H2 O2 q2 (k1.trans k2) w2 r2,fun C fs M' H' O' d q2 k2 w2 xd=>hE.go σ ρ C fs M' H' O' d q2 ((kx.trans k1).trans k2) w2 (e.ext (k1.trans k2)) xd⟩
theorem Ab (hE:EXs HX OX MX E EA)(hu:qW ta aa)(hg:x9 g ag):kz HX OX MX (vJ (xF (yP sp) E ta) g) (X1 (yb sp EA aa) ag):=
 ⟨fun kx _ w e x q D=>Ji hE hu (kx.trans x) w e q fun y M1 v H1 O1 q1 k1 w1 r1=>hg.go w1 (e.ext k1) r1 q1 fun σ2 H2 O2 ρ2 M2 q2 k2 w2 e2=>D.nx _ _ _ _ _ w2 e2 ((x.trans k1).trans k2) q2⟩
end
noncomputable def Fe (i:Nat)(D:kM):kM:={ nx:=fun ρ M=>D.nx (ρ.set i none) M,rt:=D.rt,bk:=fun ρ M=>D.bk (ρ.set i none) M,ct:=fun ρ M=>D.ct (ρ.set i none) M }
noncomputable def MM (K:au)(i:Nat)(T:aE)(ab:(ASt->AXK)->AS)(ah:AS):AS:=fun B D ρ M=>
 ab (fun ρ1 C fs M1=>gO K (.ref C) (.ref T)=some true/\∀ x,M1 x=none->ah B (Fe i D) (ρ1.set i (some (.ref x))) (mup M1 x (.exc C fs))) B D ρ M
theorem Er.drop (e:Er H O M σ ρ)(i:Nat):Er H O M (σ.set i none) (ρ.set i none):=e.clr [i]
theorem EX (w:Wf H O M){x C:aE}{d:Option aE}{fs:List (Str × V)}(hx:H x=none)(xd:Kt H O M d fs) :
  Wf (upd H x (Z4 x C d)) (xi O x) (mup M x (.exc C fs))/\Ext H O M (upd H x (Z4 x C d)) (xi O x) (mup M x (.exc C fs)):=by
 have k:=Zl w hx (Z4 x C d) (.exc C fs)
 exact ⟨Wp w hx (fun _ z=>nomatch z) ⟨d,zi,xd.ext k⟩,k⟩
section
variable {K:au}{i:Nat}{T:aE}{tb:(St->XK)->TS}{th:TS}{ab:(ASt->AXK)->AS}{ah:AS}
theorem D9 (hb:∀ (H0:Hp) (O0:Own) (M0:MH) (E:St->XK) (EA:ASt->AXK),EXs H0 O0 M0 E EA->kz H0 O0 M0 (tb E) (ab EA))(hh:qK th ah):qK (IL K i T tb th) (MM K i T ab ah):=
 ⟨fun {H0 O0 M0 D D' σ H O ρ M} w0 w e x q E=>(hb H0 O0 M0 _ _ ⟨fun σ1 ρ1 C fs M1 H1 O1 d q1 k1 w1 e1 xd=>⟨C,rfl,q1.1,fun y hy=>by
  obtain ⟨w2,k2⟩:=EX (C:=C) w1 hy xd
  refine hh.go w0 w2 ((e1.ext k2).set (show zo _ _ _ (.ref y) (.ref y) from ⟨rfl,by rw [zq];exact fun z=>nomatch z⟩) i) (k1.trans k2) (q1.2 y (w1.fresh hy).2) ⟨fun σ H O ρ M w e x q=>E.nx _ _ _ _ _ w (e.drop i) x q,E.rt,fun σ H O ρ M w e x q=>E.bk _ _ _ _ _ w (e.drop i) x q,fun σ H O ρ M w e x q=>E.ct _ _ _ _ _ w (e.drop i) x q⟩⟩⟩).go .refl w0 w e x q E⟩
end
noncomputable def exA (M0:MH)(E:AXK):AXK:=fun C fs M'=>∃ M'',Qj M0 M' (.d .non) (.d .non) M''/\E C fs M''
theorem PSs.wish' {st:List cn}{t:TS}(k:∀ e s,xe e s->X.xe e s)(h:PSs (X.wish xe) st t):PSs X st t:=fun pins s σ H D I hw=>
 bF (h pins s σ H D (I.wish _) hw) (fun _ _ q=>q.unwish) fun e s z=>k e s z
theorem LU {P : bf}{w : bC}{K : au}{mg : Str -> Option am}{base : Heap}{x : Str}{st : cn}{N ps : List Str}{k : Nat}{a : Zi}(at_ : At K mg x st)(S : zp N ps (zd st))
    (hb:∀ (kV doc pm:am) (an:Option aE) (cdv ct:am) (us:List am),us.length=ps.length->gi (ck x x (qq st) (zT st) (zd st) .none kV doc pm an cdv ct) ⟨us,[]⟩=pure (ps.zip us))
    (len:∀ xs M Q E,a xs M Q E->xs.length=ps.length)
    (hbody:∀ (f:aE) (cdv:am) (A:bo) (outer:List Env) (s:ax) (H:Hp) (HX:Hp) (OX:Own) (MX:MH) (E':AXK),qj k (A.deeper (fF x (zd st) s.heap.objs.size f cdv)) ->
      DX (kJ (CX1 P w) P w K mg base N x (zd st) f cdv A outer s H (cE HX OX MX E')) (cE HX OX MX E') ->
      ∃ t,PSs (kJ (CX1 P w) P w K mg base N x (zd st) f cdv A outer s H (cE HX OX MX E')) (zT st) t/\∃ b,kz HX OX MX t b/\∀ xs Q E0,E'=exA MX E0->a xs MX Q E0->b MX { nx:=fun _ M'=>rtA MX Q (.d .non) M',rt:=rtA MX Q } (zA N xs) MX):DfX P w K mg base x ps (k+1) (yP a):=by
  refine Gx at_ S hb (fun vs H Q E h=>?_) (fun f cdv A outer s H vs Q E hr h=>?_)
  · obtain ⟨xs,M,O,Q',E',w,r,q,_⟩:=h
    rw [r.1];exact len xs M Q' E' q
  · obtain ⟨xs,M,O,Q',E',w0,r,q,kk,ke⟩:=h
    obtain ⟨t,ht,b,hb,hq⟩:=hbody f cdv A outer s H H O M (exA M E') hr ⟨rfl,rfl,rfl,rfl⟩
    refine ⟨t,fun D=>?_,?_⟩
    · have ce : ∀ c d H', cE H O M (exA M E') c d H' -> E c d H' := fun c d H' ⟨C, fs, M', O', e1, ⟨M'', f, q2⟩, k1, w1, xd⟩ => by
        subst e1
        obtain ⟨O'',w2,k2,-,ko⟩:=KG w0 w1 k1 (show zo H' O' M' .non (.d .non) from .non) f
        refine ke C fs M'' H' O'' d q2 k2 w2 ?_
        rcases xd with xd | ⟨dx,e1,h1,h2,h3⟩
        · exact .inl xd
        · exact .inr ⟨dx,e1,h1,(ko dx h2 h3).1,(ko dx h2 h3).2⟩
      refine PSs.wish' (fun e s' z=>?_) ht
      exact bF z (fun _ s'' y=>y.imp ce) fun e' s'' y=>y.imp ce
    · refine hb.go .refl w0 w0 (vE r N) .refl (hq xs Q' E' rfl q) ⟨fun σ H' O' ρ M' w' e' x' q'=>?_,fun v y H' O' M' w' x' r' q'=>?_,fun _ _ _ _ _ _ _ _ z=>z.elim,fun _ _ _ _ _ _ _ _ z=>z.elim⟩
      · obtain ⟨y',M'',f,q2⟩:=q'
        obtain ⟨O'',w2,k2,r2⟩:=xK w0 w' x' (show zo H' O' M' .non (.d .non) from .non) f
        exact kk _ _ _ _ _ q2 k2 w2 r2
      · obtain ⟨y',M'',f,q2⟩:=q'
        obtain ⟨O'',w2,k2,r2⟩:=xK w0 w' x' r' f
        exact kk _ _ _ _ _ q2 k2 w2 r2
theorem DX.po (D:DX X E):du (bc X.prog X.w) X.A X.env X.xe:=by rw [D.xe];exact du.leaving
theorem Hu:wY (CX1 X.prog X.w) X fun _=>E0:=fun _ _ _ _ _ _ _ ⟨_,_,_,_,_,_,z⟩=>z.elim
section
variable {X:Cx}{K:au}{body suite:List cn}{b₀:cn}{n tx:Str}{i:Nat}{T:aE}{np hpos pos tp p:Pos}{tb:(St->XK)->TS}{th:TS}{e c:Expr}{es:List Expr}{cs:List am}{t:TE}{kk:Nat}
theorem Bu (hk:X.K=K)(hs:X.stack=X.env :: X.outer)(hf:X.env.frame=some X.env.locals)(hex:X.ex=[])(nd:X.N.Nodup)(hi:X.N[i]?=some n)(hl:X.env.kindOf n=some .local)(hg:Gl X tx)(hm:X.mg tx=some (.ref T))
  (hb:∀ (pins:List (aE × Obj)) (xe:am->ax->Prop) (Eh:St->XK),wY (CX1 X.prog X.w) (X.tried pins xe) Eh->PSs (X.tried pins xe) body (tb Eh)) (hh:∀ x,PSs (X.inside x) (b₀ :: suite) th)
  (hdb:(tx == ("__debug__":Str))=false:=by decide):PS X (.Try body [.ExceptHandler (some (.Name tx np)) (some n) (b₀ :: suite) hpos] [] [] pos) (IL K i T tb th):=hk ▸ DT hs hf hex nd hi hl hg hm hb hh hdb
end
theorem JK {sp:Zi} {b:AA}(h:qW u b):zz (xF (yP sp) (fun _=>E0) u) (yb sp (fun _ _ _ _=>False) b):=
 ⟨fun w e q k=>h.go w e q fun xs M1 vs H1 O1 q1 k1 w1 r1=>⟨xs,M1,O1,_,_,w1,r1,q1,fun x M2 v H2 O2 q2 k2 w2 r2=>k x M2 v H2 O2 q2 (k1.trans k2) w2 r2,fun _ _ _ _ _ _ z=>z.elim⟩⟩
theorem exX {HX:Hp}{OX:Own}{MX:MH}{t:TS} {b:AS}(h:kz HX OX MX t b)(k:q b):∃ b,kz HX OX MX t b/\q b:=⟨b,h,k⟩
noncomputable def Fi:AR2:=fun x y M Q=>∃ i j,x=.d (.str i)/\y=.d (.str j)/\i.length+j.length<=aT/\Q (.d (.str (i ++ j))) M
theorem Ve:xZ (fun x y H Q=>∃ i j,x=V.str i/\y=V.str j/\i.length+j.length<=aT/\Q (V.str (i ++ j)) H) Fi:=⟨fun w r1 r2 ⟨i,j,e1,e2,hz,q⟩ k=>by
 subst e1 e2;exact ⟨i,j,zR r1,zR r2,hz,k _ _ _ _ _ q .refl w .str⟩⟩
section
variable {X:Cx}
end
end L2
namespace PySem
open Sem (wp)
section
variable {prog:bf}{w:bC}{A:bo}{E:am->ax->Prop}{h:Heap}{g:Array GenState}{d:Drawn}{t:Nat}{os:OsState}
variable {nm q:Str}{C N:aE}{bs bm bmB:List am}{hdct:Bool}{sn:List Str}{sub:List am}{ab:Bool}{col:Option Bool}{dd:Option aE}{k0 k1 k2 k3 k5:Option am}{B Bn newId nid initId inN:String}{bmN:List am}
variable {mN:Str->Option am} {fI:aE} {oI:Obj}
theorem ZY (Fn:fM Bn newId inN bmN)(hBn:bmB.contains (.type Bn)=true)(F:fM B nid initId bmB)(T:OwnTail h bmB bm) {qh:List am} {Q:Fin->ax->Prop}
  (hC:h.get? C=some (gq nm q C N bs bm hdct sn sub ab col dd k0 k1 k2 k3 k5 newId)) (hn:h.Ns N mN) (hi:mN "__init__"=some (.ref fI)) (hfI:h.get? fI=some oI) (hfc:oI.cls=.type "function")
  (hq:∀ h' e,i5 h h' e (.ref C) qh->bg (bc prog w) A (call (.ref fI) (.ref e :: qh)) (fun r s'=>r=.none/\Q (.done (.ret (.ref e))) s') E ⟨h',g,d,t,os⟩) (hrest:qh.length<=aT:=by size_fits) :
  bg (bc prog w) A (Builtin.«type.__call__» ⟨.ref C :: qh,[]⟩) Q E ⟨h,g,d,t,os⟩:=by
 repeat (first | with_reducible refine eB hC ?_ | with_reducible refine wpAny_madeBy_exc hC ?_ | wp_step)
 refine codeAny_call_builtin_code (mf.quiet_builtin _ Fn.quiet) (wpAny_check_new_subU Fn hBn T hC ?_)
 refine codeAny_exc_new_subU Fn hBn F T hC ?_ hrest
 show bg _ _ _ _ _ _
 have hC₁:=aG { cls:=.ref C,data:=.fields #[.ref h.objs.size,.none,.none,.none,.bool false,.none] }
  (aG { cls:=.type "tuple",data:=.seq qh.toArray } hC)
 have hfI₁:=aG { cls:=.ref C,data:=.fields #[.ref h.objs.size,.none,.none,.none,.bool false,.none] }
  (aG { cls:=.type "tuple",data:=.seq qh.toArray } hfI)
 have hn₁:((h.push { cls:=.type "tuple",data:=.seq qh.toArray }).push { cls:=.ref C,data:=.fields #[.ref h.objs.size,.none,.none,.none,.bool false,.none] }).Ns N mN:=
  let ⟨o,es,ep,e,r⟩:=hn;⟨o,es,ep,aG _ (aG _ e),r⟩
 have hget:((h.push { cls:=.type "tuple",data:=.seq qh.toArray }).push
   { cls:=.ref C,data:=.fields #[.ref h.objs.size,.none,.none,.none,.bool false,.none] }).get? (h.objs.size+1)=some
   { cls:=.ref C,data:=.fields #[.ref h.objs.size,.none,.none,.none,.bool false,.none] }:=by heap_get
 have hcC:(am.ref C :: bm).contains (.ref C)=true:=by simp
 have T₁:=T.keeps (h':=(h.push { cls:=.type "tuple",data:=.seq qh.toArray }).push { cls:=.ref C,data:=.fields #[.ref h.objs.size,.none,.none,.none,.bool false,.none] })
  fun b o e=>aG _ (aG _ e)
 unfold isInstance
 repeat (first | with_reducible refine eB hget ?_ | (with_reducible refine wpAny_isSubtype_exc hC₁ ?_;rw [hcC]) | wp_step)
 show bg _ _ (typeLookup (.ref C) _) _ _ _
 refine wpAny_typeLookup_tail hC₁ hn₁ T₁ F.mroIs F.init.lookup ?_
 rw [hi]
 refine e7 (aF ?_)
 unfold bindSpecial
 refine aF (wpAny_typeOf (T:="function") ⟨_,hfI₁,hfc⟩ ?_)
 rw [if_pos (by decide)]
 refine bh (aF (bF (hq _ (h.objs.size+1) ⟨fun b o hb=>aG _ (aG _ hb),eF (mP _),h.objs.size,hget,eF (aL _),?_⟩) (fun r s' hr=>?_) fun _ _ x=>x))
 ·exact aG _ (Heap.get?_push_at rfl rfl)
 ·obtain ⟨rfl,hQ⟩:=hr
  wp_walk
  exact hQ
theorem EN (Fn:fM Bn newId inN bmN)(hBn:bmB.contains (.type Bn)=true)(F:fM B nid initId bmB)(T:OwnTail h bmB bm) {qh:List am} {Q:am->ax->Prop}
  (hC:h.get? C=some (gq nm q C N bs bm hdct sn sub ab col dd k0 k1 k2 k3 k5 newId)) (hn:h.Ns N mN) (hi:mN "__init__"=some (.ref fI)) (hfI:h.get? fI=some oI) (hfc:oI.cls=.type "function")
  (hq:∀ h' e,i5 h h' e (.ref C) qh->bg (bc prog w) (A.under (.builtin "type.__call__" ⟨.ref C :: qh,[]⟩)) (call (.ref fI) (.ref e :: qh)) (fun r s'=>r=.none/\Q (.ref e) s') E ⟨h',g,d,t,os⟩) (hrest:qh.length<=aT:=by size_fits) :
  bg (bc prog w) A (call (.ref C) qh) Q E ⟨h,g,d,t,os⟩:=by
 have f1:=tc_lookup
 have f2:=tc_bind (.ref C)
 have hT:(⟨h,g,d,t,os⟩:ax).TypeIs (.ref C) "type":=⟨_,hC,rfl⟩
 refine iw (codeAny_of_tree ?_)
 show bg _ _ (callAny (.ref C) _) _ _ _
 repeat (any_goals (first | assumption | with_reducible refine eB hC ?_ | wp_step))
 refine ⟨rfl,?_⟩
 refine codeAny_call_builtin_at (mf.quiet_builtin _ (by decide +kernel)) entry_typeCall (wpAny_check_type_call_sub hC (ZY (hrest:=hrest) Fn hBn F T hC hn hi hfI hfc fun h' e hm=>?_))
 exact hq h' e hm
end
section
variable {M:mM}{A:bo}{E:am->ax->Prop}{env:Env}
variable {nm q:Str}{C N:aE}{bs bm:List am}{hdct:Bool}{sn:List Str}{sub:List am}{ab:Bool}{col:Option Bool}{dd:Option aE}{k0 k1 k2 k3 k5:Option am}{newId:String}
theorem ZT {s:ax}{x:Sem am}{Q:Flow->ax->Prop}(hbase:bm.contains (.type "BaseException")=true)(hh:A.handled=none)
  (h:bg M A x (fun v s₁=>∃ e t dx,v=.ref e/\s₁.heap.get? C=some (gq nm q C N bs bm hdct sn sub ab col dd k0 k1 k2 k3 k5 newId) /\
   s₁.heap.get? e=some { cls:=.ref C,data:=.fields #[.ref t,.none,.none,.none,.bool false,.none],dict:=dx }/\E (.ref e) s₁) E s) :
  bg M A (raiseStmt env (some x) none) Q E s:=by
 have hcB:(am.ref C :: bm).contains (.type "BaseException")=true:=by rw [List.contains_cons,hbase,Bool.or_true]
 unfold raiseStmt
 refine aF (bF h (fun v s₁ h₁=>?_) fun _ _ x=>x)
 obtain ⟨e,t,dx,rfl,hC,he,hE⟩:=h₁
 obtain ⟨hp,g,d,tk,os⟩:=s₁
 repeat (first | with_reducible refine eB he ?_ | with_reducible refine eB hC ?_ | (with_reducible refine wpAny_isSubtype_exc hC ?_;rw [hcB]) | wp_step)
 exact wpAny_raiseNew_none hh hE
end
section
variable {prog:bf}{w:bC}{A:bo}{E:am->ax->Prop}{s:ax}{env:Env}
variable {nm q:Str}{C N:aE}{bs bm bmB:List am}{hdct:Bool}{sn:List Str}{sub:List am}{ab:Bool}{col:Option Bool}{dd:Option aE}{k0 k1 k2 k3 k5:Option am}{B Bn newId nid initId inN:String}{bmN:List am}
theorem AB (Fn:fM Bn newId inN bmN)(hBn:bmB.contains (.type Bn)=true)(F:fM B nid initId bmB){mN:Str->Option am}{x:Str}{np cpos pos:Pos}{args:List Expr}{Q:Flow->ax->Prop}{fI:aE}{oI:Obj}
  (hbase:bm.contains (.type "BaseException")=true) (hh:A.handled=none) (hplain:(cT cpos (bi args env)).any (·.1)=false) (hi:mN "__init__"=some (.ref fI)) (hfc:oI.cls=.type "function")
  (h:bg (bc prog w) A (eval (.Name x np) env) (fun f s₁=>f=.ref C/\bg (bc prog w) A (evalArgs (.ref C) true (cT cpos (bi args env)) [])
   (fun a s₂=>a.kw=[]/\a.pos.length<=aT/\s₂.heap.get? C=some (gq nm q C N bs bm hdct sn sub ab col dd k0 k1 k2 k3 k5 newId)/\s₂.heap.Ns N mN/\OwnTail s₂.heap bmB bm/\s₂.heap.get? fI=some oI /\
    ∀ h' e,i5 s₂.heap h' e (.ref C) a.pos->bg (bc prog w) (A.under (.builtin "type.__call__" ⟨.ref C :: a.pos,[]⟩)) (call (.ref fI) (.ref e :: a.pos)) (fun r s'=>r=.none /\
     s'.heap.get? C=some (gq nm q C N bs bm hdct sn sub ab col dd k0 k1 k2 k3 k5 newId)/\(∃ t dx,s'.heap.get? e=some { cls:=.ref C,data:=.fields #[.ref t,.none,.none,.none,.bool false,.none],dict:=dx })/\E (.ref e) s') E { s₂ with heap:=h' }) E s₁) E s) :
  bg (bc prog w) A (exec (.Raise (some (.Call (.Name x np) args [] cpos)) none pos) env) Q E s:=by
 rw [arm_exec_Raise]
 refine aF (e8 (ZT (C:=C) (nm:=nm) (q:=q) (N:=N) (bs:=bs) (bm:=bm) (hdct:=hdct) (sn:=sn) (sub:=sub) (ab:=ab) (col:=col) (dd:=dd) (k0:=k0) (k1:=k1) (k2:=k2) (k3:=k3) (k5:=k5) (newId:=newId) hbase hh (aF (bF (wpAny_Call_ofName (bF h (fun f s₁ h₁=>?_) fun _ _ x=>x)) (fun v s₃ h₃=>aF (e8 (bh h₃))) fun _ _ x=>x))))
 obtain ⟨rfl,h₁⟩:=h₁
 unfold ie
 refine aF (e7 (bF h₁ (fun a s₂ h₂=>aF (e8 ?_)) fun _ _ x=>x))
 obtain ⟨apos,akw⟩:=a
 obtain ⟨hkw,hlen,hC,hn,T,hf,h₂⟩:=h₂
 obtain rfl:akw=[]:=hkw
 obtain ⟨hp,g,d,tk,os⟩:=s₂
 simp only [hplain]
 refine aF (wpAny_keeperOf_exc hC ?_)
 refine aF (EN (hrest:=hlen) Fn hBn F T hC hn hi hf hfc fun h' e hm=>bF (h₂ h' e hm) (fun r s' hr=>⟨hr.1,aF (e7 (wpAny_point (bh ?_)))⟩) fun _ _ x=>x)
 obtain ⟨_,hC',⟨t,dx,he⟩,hE⟩:=hr
 exact ⟨e,t,dx,rfl,hC',he,hE⟩
end
end PySem
namespace L2
open PySem PySem.Spec PyProof.Rows
open PySem.W (Looks InstAt findIn findObj subIn mroIn clsIn takerIn hasDictIn)
noncomputable def Wz:am->Bool
 | .ref _=>true
 | _=>false
noncomputable def WI (l:List am):Bool:=l.dropWhile Wz == Y6
theorem Va {a:am}(h:Wz a=true):∃ c,a=.ref c:=by cases a <;> first | exact ⟨_,rfl⟩ | cases h
theorem yh (self:am):∀ l:List am,refuseLoop self "__setattr__" l=refuseLoop self "__setattr__" (l.dropWhile Wz)
 | []=>rfl
 | a :: r=>by
  by_cases h:Wz a=true
  ·obtain ⟨c,rfl⟩:=Va h
   rw [refuseLoop_ref,List.dropWhile_cons_of_pos h];exact yh self r
  ·rw [List.dropWhile_cons_of_neg h]
theorem XT (self:am){l:List am}(h:WI l=true):refuseLoop self "__setattr__" l=pure ():=by
 rw [yh,show l.dropWhile Wz=Y6 from eq_of_beq h];exact PySem.F.store_ValueError.passes self
structure Ys (K:au)(C:aE)(name:Str):Prop where
 s:eu K (.ref C) "__setattr__"=some (some (.builtin "object.__setattr__"))
 t:lu K C name=some none
 hd:eo K C=true
 mo:mQ K C (.type "object")=some true
 ve:(clsIn K C).any (fun cd=>WI cd.mro)=true
section
variable {prog:bf}{w:bC}{A:bo}{E:am->ax->Prop}{s:ax}{K:au}{x C:aE}{ox:Obj}{od:Option Obj}{name:Str}{v:am}
theorem Xv {tk:Tok}{R:ms->ax->Prop}(X:K.In s.heap)(I:InstAt s.heap x ox C od)(S:Ys K C name)
  (h:∀ b,bg (bc prog w) A.in1 (Builtin.ObjectAttr.storeInOwnDict (.ref x) (.ref C) (.str name tk) name v b)
   (fun fin s'=>match fin with | .done f=>R (.ok f) s' | .again c'=>c'.quiet=true/\fA (bc prog w) A c' R s') (fun e s'=>R (.error e) s') s) :
  fA (bc prog w) A (.call (.builtin "object.__setattr__") ⟨[.ref x,.str name tk,v],[]⟩) R s:=by
 have SF:=PySem.F.store_object
 obtain ⟨cd,hc,ho⟩:=fU S.ve
 have sub:gP (bc prog w) s.heap (isInstance (.ref x) (.type "object")) true:=I.type.andThen (PySem.W.looks_mroIn X S.mo)
 refine codeAny_call_builtin SF.slot.plain SF.entry (@PySem.W.check_slot (bc prog w) _ _ s "object.__setattr__" "object" "__setattr__" (.ref x) [.str name tk,v] [] _ SF.kind SF.split sub (SF.args (.ref x) (.str name tk) v) ?_)
 obtain ⟨attr,ha,hr⟩:=Option.bind_eq_some_iff.mp S.t
 have hm:gP (bc prog w) s.heap (mroOf (.ref C)) cd.mro:=(eV X hc).andThen .now
 have L3:gP (bc prog w) s.heap (Builtin.ObjectAttr.storeTaker? attr) none:=by
  cases attr with
  | none=>exact .now
  | some a=>
   obtain ⟨b,hb,hb2⟩:=cw.mp hr
   cases b with
   | true=>cases hb2
   | false=>exact (PySem.W.looks_takesIn X hb).andThen .now
 rw [PySem.W.osa_eq,refuse_eq]
 refine aF (aF (I.type.here (aF (hm.here ?_))))
 rw [XT _ ho]
 refine bh (aF (I.type.here (aF ((eJ X ha).here (aF (L3.here ?_))))))
 exact h _
variable {vs:Array am} {Q:Unit->ax->Prop}
theorem Vy (X:K.In s.heap)(hx:s.heap.get? x=some ox)(hc:ox.cls=.ref C)(hf:ox.data=.fields vs)(hd:ox.dict=none)(S:Ys K C name)
  (h:∀ h' tk,h'.Ns1 s.heap.objs.size (fun y=>if y=name then some v else none)->h'.get? x=some { ox with dict:=some s.heap.objs.size }->(∀ b o,b ≠ x->s.heap.get? b=some o->h'.get? b=some o)->Q () { s with heap:=h',toks:=tk }) :
  bg (bc prog w) A (setAttr (.ref x) name v) Q E s:=by
 have I:InstAt s.heap x ox C none:=⟨hx,hc,by unfold i6;rw [hf],by rw [hd];trivial⟩
 obtain ⟨cd,hcd,hdd⟩:=fU S.hd
 obtain ⟨oc,odt,oda,osl⟩:=ox
 dsimp only at hc hf hd
 subst hc hf hd
 have hx₁:(s.heap.push { cls:=.type "dict",data:=.dict #[] }).get? x=some ⟨.ref C,none,.fields vs,osl⟩:=aG _ hx
 have hxs:x ≠ s.heap.objs.size:=bE (aM hx)
 refine hJ X I S.s (Xv (s:={ s with toks:=s.toks+1 }) (od:=none) X I S fun b=>?_)
 refine aF (bh (aF (aF (iW hx (aF (f9.here (s:={ s with toks:=s.toks+1 }) (eV X hcd) ?_))))))
 rw [hdd]
 have htd:typeHasDict (am.ref C)=true:=by simp [typeHasDict]
 dsimp only
 rw [if_neg (by decide),htd,if_neg (by decide)]
 refine aF (wpAny_alloc' ?_)
 refine aF (wpAny_update' hx₁ ?_)
 refine bh ?_
 have hgd:((s.heap.push { cls:=.type "dict",data:=.dict #[] }).update x fun o=>{ cls:=o.cls,dict:=some s.heap.objs.size,data:=o.data,slots:=o.slots }).get? s.heap.objs.size
  =some { cls:=.type "dict",data:=.dict #[] }:=
  (Heap.get?_update_ne _ _ _ _ hxs.symm).trans (Heap.get?_push_at rfl rfl)
 have hnd:((s.heap.push { cls:=.type "dict",data:=.dict #[] }).update x fun o=>{ cls:=o.cls,dict:=some s.heap.objs.size,data:=o.data,slots:=o.slots }).Ns s.heap.objs.size (fun _=>none):=
  ⟨_,#[],_,hgd,rfl,fun e he=>absurd he (by simp),fun _=>rfl⟩
 show bg _ _ (fZ s.heap.objs.size (.str name s.toks) name v) _ _ _
 unfold fZ Builtin.ObjectAttr.newKeyGuard
 refine aF (bh (aF (lZ (Heap.Ns1.of_empty hnd) fun h' hn' hs=>?_)))
 obtain ⟨oD,esD,epD,hoD,hdD,hcD⟩:=hn'.count (Within.cons name v Within.nil)
 refine aF (ib hoD (by rw [hdD];exact ic (bu hcD (by rw [aV,d9,bY];omega))) ?_)
 refine bh (h h' _ hn' ?_ fun b o hb e=>?_)
 ·refine (hs.2 x hxs).trans (bZ _ hx₁ rfl)
 ·exact (hs.2 b (bE (aM e))).trans ((Heap.get?_update_ne _ _ _ _ hb).trans (aG _ e))
theorem Es {dx:aE} {mA:Str->Option am}{ns:List Str} (X:K.In s.heap)(hx:s.heap.get? x=some ox)(hc:ox.cls=.ref C)(hf:ox.data=.fields vs)(hd:ox.dict=some dx)(hn:s.heap.Ns1 dx mA)(S:Ys K C name)(hw:Within mA ns)(hsz:ns.length<=1000)
  (h:∀ h' tk,h'.Ns1 dx (fun y=>if y=name then some v else mA y)->b8 dx s.heap h'->Q () { s with heap:=h',toks:=tk }) :
  bg (bc prog w) A (setAttr (.ref x) name v) Q E s:=by
 obtain ⟨u,hu⟩:∃ u,s.heap.get? dx=some u:=let ⟨o,_,_,e,_⟩:=hn;⟨o,e⟩
 have I:InstAt s.heap x ox C (some u):=⟨hx,hc,by unfold i6;rw [hf],by rw [hd];exact hu⟩
 obtain ⟨cd,hcd,hdd⟩:=fU S.hd
 obtain ⟨oc,odt,oda,osl⟩:=ox
 dsimp only at hc hf hd
 subst hc hf hd
 refine hJ X I S.s (Xv (s:={ s with toks:=s.toks+1 }) (od:=some u) X I S fun b=>?_)
 refine aF (bh (aF (aF (iW hx (aF (f9.here (s:={ s with toks:=s.toks+1 }) (eV X hcd) ?_))))))
 rw [hdd]
 refine bh (a:=some dx) (aF (bh (aF ?_)))
 refine lZ (s:={ s with toks:=s.toks+1 }) hn fun h' hn2 hs2=>?_
 obtain ⟨oD,esD,epD,hoD,hdD,hcD⟩:=hn2.count (gC.cons name v hw)
 refine aF (ib hoD (by rw [hdD];exact ic (bu hcD (by rw [aV,bY];omega))) ?_)
 exact bh (h h' _ hn2 hs2)
end
open PySem.W (Looks InstAt findIn findObj subIn mroIn clsIn takerIn hasDictIn)
noncomputable def Ah (C t:aE)(d:Option aE):Obj:={ cls:=.ref C,data:=.fields #[.ref t,.none,.none,.none,.bool false,.none],dict:=d }
noncomputable def x6 (a C t:aE)(d:Option aE):HO:=.ext fun h=>h.get? a=some (Ah C t d)
noncomputable def XdE (dx:aE)(fs:List (Str × V)):HO:=.ext fun h=>∃ mA,h.Ns1 dx mA/\(∀ f,ka (fs.lookup f) (mA f))/\Within mA (fs.map (·.1))
variable {P:bf} {w:bC} {H:Hp} {h:Heap}
theorem Xq {a C t:aE}{d:Option aE}(e:h.get? a=some (Ah C t d)):zS P w H h a (x6 a C t d):=⟨e,⟨_,e⟩,fun _ _ e k=>k _ e⟩
theorem Wo {dx:aE}{fs:List (Str × V)}{mA:Str->Option am}(n:h.Ns1 dx mA)(r:∀ f,ka (fs.lookup f) (mA f))(wi:Within mA (fs.map (·.1))):zS P w H h dx (XdE dx fs):=by
 refine ⟨⟨mA,n,r,wi⟩,?_,fun h1 h2 ⟨mA,⟨o,es,ep,e,c⟩,r⟩ k=>⟨mA,⟨o,es,ep,k _ e,c⟩,r⟩⟩
 obtain ⟨o,_,_,e,_⟩:=n
 exact ⟨o,e⟩
section
variable {X:Cx}{pins:List (aE × Obj)}{σ:St}{H:Hp}{s:ax}
theorem Inv.drop (I:Inv X pins σ H s){x:aE}(mu:Mut (H x))(h0:X.s₀.heap.get? x=none):Inv X pins σ (fun b=>if b=x then none else H b) s:=by
 have ne1:∀ {b:aE} {y:aE},H b=some (.own y)->b ≠ x:=fun e z=>by rw [z] at e;rw [e] at mu;exact mu
 have ne2:∀ {b:aE} {xs:List V},H b=some (.tup xs)->b ≠ x:=fun e z=>by rw [z] at e;rw [e] at mu;exact mu
 refine ⟨I.ok,I.os,I.bare,⟨I.base.keep,I.base.slot,fun b u e n hb=>?_,I.base.there,fun b xs e=>?_,fun b u v e=>?_,fun b ps e=>?_⟩,I.loc,I.cell,?_,fun y c e=>?_,fun p hp'=>?_,fun b u e=>?_,I.len⟩
 ·show (if b=x then none else H b)=none
  split
  ·rfl
  ·exact I.base.free b u e n hb
 ·have:=I.base.tups b xs e
  show (if b=x then none else H b)=_
  rw [if_neg (ne2 this)];exact this
 ·have:=I.base.frzs b u v e
  show (if b=x then none else H b)=_
  rw [if_neg (fun z=>by rw [z] at this;rw [this] at mu;exact mu)];exact this
 ·obtain ⟨m,this⟩:=I.base.tbls b ps e
  refine ⟨m,?_⟩
  show (if b=x then none else H b)=_
  rw [if_neg (fun z=>by rw [z] at this;rw [this] at mu;exact mu)];exact this
 ·show (if _=x then none else H _)=none
  split
  ·rfl
  ·exact I.free
 ·show (if _=x then none else H _)=none
  split
  ·rfl
  ·exact I.freeC y c e
 ·obtain ⟨e1,e2,e3⟩:=I.pin p hp'
  refine ⟨e1,?_,e3⟩
  show (if _=x then none else H _)=none
  split
  ·rfl
  ·exact e2
 ·have e:(if b=x then none else H b)=some u:=e
  split at e
  ·cases e
  ·exact (I.hok b u e).stay (fun _ _ _ q=>q) (fun d q=>by show (if _=x then none else H _)=_;rw [if_neg (ne1 q)];exact q) fun d xs q=>by show (if _=x then none else H _)=_;rw [if_neg (ne2 q)];exact q
noncomputable def FA (K:au)(ta tv:TE)(f:Str):TS:=fun D σ H=>tv σ H fun y H1=>ta σ H1 fun x H2=>∃ a C t,x=.ref a/\Ys K C f /\
 ((H2 a=some (x6 a C t none)/\∀ dx,H2 dx=none->dx ≠ a->D.nx σ (upd (upd H2 a (x6 a C t (some dx))) dx (XdE dx [(f,y)]))) \/
  ∃ dx fs,H2 a=some (x6 a C t (some dx))/\H2 dx=some (XdE dx fs)/\fs.length<1000/\D.nx σ (upd H2 dx (XdE dx (jq f y fs))))
variable {o value:Expr}{f:Str}{ta tv:TE}{pos pos':Pos}
theorem EW (ha:PE X o ta)(hv:PE X value tv)(hs:li value (some (.Attribute o f pos')) pos.line X.env=pure false):PS X (.Assign [.Attribute o f pos'] value pos) (FA X.K ta tv f):=by
 intro pins s σ H D I h
 refine fQ (thn (hv pins s σ H _ I h) fun u s1 ⟨y,H1,I1,ry,q⟩=>thn (ha pins s1 σ H1 _ I1 q) fun ov s2 ⟨x,H2,I2,rx,a,C,t,ex,S,q2⟩=>?_) hs
 subst ex
 obtain rfl:ov=am.ref a:=rx
 rcases q2 with ⟨ea,q2⟩ | ⟨dx,fs,ea,ed,hl,q2⟩
 ·have ho:s2.heap.get? a=some (Ah C t none):=(I2.hok a _ ea).1
  refine Vy I2.kIn ho rfl rfl rfl S fun h' tk hn hx k=>?_
  have dn:H2 s2.heap.objs.size=none:=I2.hok.fresh (aL _)
  have da:s2.heap.objs.size ≠ a:=dF (aM ho)
  have hd:∀ b o,s2.heap.get? b=some o->b ≠ s2.heap.objs.size:=fun b o e=>bE (aM e)
  have na:∀ {b:aE} {u:HO},H2 b=some u->(∀ φ,u ≠ .ext φ)->b ≠ a:=fun e n z=>by rw [z,ea] at e;cases e;exact n _ rfl
  have I3:Inv X pins σ (upd (upd H2 a (x6 a C t (some s2.heap.objs.size))) s2.heap.objs.size (XdE s2.heap.objs.size [(f,y)])) { s2 with heap:=h',toks:=tk }:=by
   refine I2.un ⟨fun b o e n _ _=>k b o (fun z=>by rw [z,ea] at n;cases n) e,fun b o e n _ _=>⟨o.slots,k b o (fun z=>by rw [z,ea] at n;cases n) e⟩,fun b o e n _=>?_,fun b o e _=>?_,fun b xs e=>?_,fun b o u e=>?_,fun b ps e=>?_⟩ fun b u' e=>?_
   ·rw [zg (hd b o e),zg (fun z=>by rw [z,ea] at n;cases n)];exact n
   ·by_cases c:b=a
    ·exact ⟨_,c ▸ hx⟩
    ·exact ⟨o,k b o c e⟩
   ·rw [zg (zj e dn),zg (na e fun _ z=>nomatch z)];exact e
   ·rw [zg (zj e dn),zg (na e fun _ z=>nomatch z)];exact e
   ·exact ⟨#[],by rw [zg (zj e dn),zg (na e fun _ z=>nomatch z),Array.append_empty];exact e⟩
   ·by_cases c:b=s2.heap.objs.size
    ·subst c
     rw [zi] at e
     cases e
     refine Wo hn (fun g=>?_) fun g hg=>?_
     ·have e1:bD g [(f,y)]=if g=f then some y else none:=ju f g y []
      rw [e1]
      by_cases q:g=f
      ·rw [if_pos q,if_pos q];exact ry
      ·rw [if_neg q,if_neg q];trivial
     ·by_cases q:g=f
      ·rw [q];simp
      ·exact absurd (if_neg q) hg
    ·rw [zg c] at e
     by_cases c2:b=a
     ·subst c2
      rw [zi] at e
      cases e
      exact Xq hx
     ·rw [zg c2] at e
      refine (I2.hok b u' e).stay (fun d v hd' q=>k d v (fun z=>?_) q) (fun d q=>?_) fun d xs q=>?_
      ·rcases hd' with rfl | hd'
       ·exact c2 z
       ·exact na hd' (fun _ z=>nomatch z) z
      ·rw [zg (zj q dn),zg (na q fun _ z=>nomatch z)];exact q
      ·rw [zg (zj q dn),zg (na q fun _ z=>nomatch z)];exact q
  exact ⟨σ,_,I3,q2 _ dn da⟩
 ·have ho:s2.heap.get? a=some (Ah C t (some dx)):=(I2.hok a _ ea).1
  obtain ⟨⟨mA,hn,r,wi⟩,_,_⟩:=I2.hok dx _ ed
  refine Es I2.kIn ho rfl rfl rfl hn S wi (by rw [ap];omega) fun h' tk hn' sb=>?_
  have hd:∃ o,h'.get? dx=some o:=let ⟨o,_,_,e',_⟩:=hn';⟨o,e'⟩
  refine ⟨σ,_,I2.write (x:=dx) (e:=dx) (by rw [ed];exact True.intro) (.inl rfl) (fun b q hb z=>(sb.2 b hb).trans z) hd (Wo hn' (fun g=>?_) fun g hg=>?_),q2⟩
  ·rw [ju]
   by_cases q:g=f
   ·rw [if_pos q,if_pos q];exact ry
   ·rw [if_neg q,if_neg q];exact r g
  ·by_cases q:g=f
   ·rw [q];exact (jF f y fs).1
   ·refine (jF f y fs).2 g (wi g fun z=>hg ?_)
    show (if g=f then some u else mA g)=none
    rw [if_neg q];exact z
end
variable {K:au} {mg:Str->Option am} {v:am}
theorem Kl {N:aE} {n:Str} (X:K.In h)(G:h.Ns N mg)(e:aX K N n=some (some v)):mg n=some v:=by
 obtain ⟨o,es,ep,ho,hd,_,hf⟩:=G
 unfold aX at e
 split at e
 ·rename_i c d es' n' sl q
  have:=X _ _ q
  rw [ho] at this
  cases this
  cases hd
  split at e
  ·rename_i en he
   cases e
   rw [<- hf]
   unfold nsFind findBy
   rw [<- lJ,he]
   rfl
  ·split at e <;> cases e
 ·cases e
noncomputable def xL (K:au)(C:aE)(bmB:List am)(newId:String)(fI:aE):Bool:=match K.lookup C with
 | some ⟨.type "type",_,.cls cd,sl⟩=>(match cd.mro,sl.toList with
  | .ref C' :: bm,[_,_,_,_,some (.builtin n),_]=>C' == C && n == newId && !cd.hasDel && PySem.W.tailIn K bmB bm && PySem.W.nsOkIn K cd.ns && aX K cd.ns "__init__" == some (some (.ref fI))
  | _,_=>false)
 | _=>false
theorem Wx {C fI:aE}{bmB:List am}{newId:String}(X:K.In h)(q:xL K C bmB newId fI=true) :
  ∃ bm N nm qn bs hdct sn sub ab col dd k0 k1 k2 k3 k5 mN,h.get? C=some (gq nm qn C N bs bm hdct sn sub ab col dd k0 k1 k2 k3 k5 newId)/\h.Ns N mN/\mN "__init__"=some (.ref fI)/\OwnTail h bmB bm:=by
 unfold xL at q
 split at q
 ·rename_i dd cd sl ho
  split at q
  ·rename_i C' bm k0 k1 k2 k3 n k5 hm hs
   simp only [bj,beq_iff_eq,mq] at q
   obtain ⟨⟨⟨⟨⟨z1,z2⟩,z3⟩,z4⟩,z5⟩,z6⟩:=q
   subst z1 z2
   obtain ⟨c1,c2,c3,c4,c5,c6,c7,c8,c9,c10,c11⟩:=cd
   dsimp only at hm z3 z5 z6
   subst hm z3
   have es:sl=#[k0,k1,k2,k3,some (.builtin n),k5]:=Array.ext' hs
   subst es
   exact ⟨bm,c4,c1,c5,c2,c6,c7,c8,c9,c10,dd,k0,k1,k2,k3,k5,_,X _ _ ho,.of_isNs (lS X z5),Kl X (.of_isNs (lS X z5)) z6,PySem.W.tail_of_in X z4⟩
  ·cases q
 ·cases q
noncomputable def spI (C:aE)(n:Nat)(fn:List V->List (Str × V)):Sp:=fun vs H Q E=>∃ a t us,vs=.ref a :: us/\us.length=n/\H a=some (x6 a C t none)/\∀ dx,H dx=none->dx ≠ a->Q .non (upd (upd H a (x6 a C t (some dx))) dx (XdE dx (fn us)))
def MkX (P:bf)(w:bC)(K:au)(mg:Str->Option am)(base:Heap)(C:aE)(k n:Nat)(fn:List V->List (Str × V)):Prop:=
 ∃ f fd ps,xL K C Y6 "ValueError.__new__" f=true/\qS P w K mg base CX0 k f fd ps (spI C n fn)/\ja K fd ps []/\(∃ oI,K.lookup f=some oI/\oI.cls=.type "function")/\ps.length=n+1
noncomputable def K4 (C:aE)(n:Nat)(fn:List V->List (Str × V))(E:St->XK)(t:TA):TS:=fun _ σ H=>t σ H fun vs H1=>vs.length=n/\n<=1000/\∀ dx,H1 dx=none->E σ (.ref C) (some dx) (upd H1 dx (.xd (fn vs)))
section
variable {X:Cx}{E:XK}{C:aE}{x:Str}{np cpos pos:Pos}{e:Expr}{es:List Expr}{t:TA}{k n:Nat}{fn:List V->List (Str × V)}
theorem xR (D:DX X E)(hc:X.calm=true)(m:MkX X.prog X.w X.K X.mg X.base C k n fn)(hr:qj (k+1) X.A)(hg:Gl X x)(hm:X.mg x=some (.ref C))(ha:PA X (e :: es) t)(hdb:(x == ("__debug__":Str))=false:=by decide)
  (he:bi (e :: es) X.env=(false,eval e X.env) :: bi es X.env:=by rfl) (hpl:(cT cpos (bi es X.env)).any (·.1)=false:=by rfl) :
  PS X (.Raise (some (.Call (.Name x np) (e :: es) [] cpos)) none pos) (K4 C n fn (fun _=>E) t):=by
 intro pins s σ H De I h
 obtain ⟨fI,fd,ps,q,F,hb,⟨oI,lk,hfc⟩,hps⟩:=m
 obtain ⟨bm,N,nm,qn,bs,hdct,sn,sub,ab,col,dd,k0,k1,k2,k3,k5,mN,hC,hN,hi,T⟩:=Wx I.ok.mod.kin q
 refine AB (C:=C) (nm:=nm) (q:=qn) (N:=N) (bs:=bs) (bm:=bm) (hdct:=hdct) (sn:=sn) (sub:=sub) (ab:=ab) (col:=col) (dd:=dd) (k0:=k0) (k1:=k1) (k2:=k2) (k3:=k3) (k5:=k5)
  eN (by decide) eN (mN:=mN) (T.hasType eN.hasBase) (I.ok.hd hc) (by rw [he];show (false || (cT cpos (bi es X.env)).any (·.1))=false;rw [hpl];rfl) hi hfc (jd I hg hm ⟨rfl,?_⟩ hdb)
 have:=ha cpos pins s σ H _ I h
 rw [he] at this ⊢
 refine gl (bF this (fun us s2 h2=>?_) fun _ _ y=>y)
 obtain ⟨vs,H1,I1,r,hl,hn,q1⟩:=h2
 have hlu:us.length=n:=by rw [<- r.length];exact hl
 refine ⟨rfl,by rw [hlu,bY];omega,I1.bk _ _ hC,hN.keeps I1.bk,T.keeps I1.bk,I1.kIn _ _ lk,fun h' x1 hx=>?_⟩
 obtain ⟨t1,ho,_,_⟩:=hx.there
 have nx:s2.heap.get? x1=none:=hx.new
 have hx0:X.s₀.heap.get? x1=none:=by
  cases z:X.s₀.heap.get? x1 with
  | none=>rfl
  | some o=>
   obtain ⟨o',e'⟩:=I1.base.there x1 o z (by rw [D.ex];simp)
   rw [nx] at e';cases e'
 have hx1:H1 x1=none:=by
  cases z:H1 x1 with
  | none=>rfl
  | some o=>
   obtain ⟨u,e'⟩:=(I1.hok x1 o z).here
   rw [nx] at e';cases e'
 have I2:Inv X pins σ H1 { s2 with heap:=h' }:=I1.kept (t':=s2.toks) hx.keeps
 have I3:Inv X pins σ (upd H1 x1 (x6 x1 C t1 none)) { s2 with heap:=h' }:=I2.track hx1 hx0 (fun z=>by
   obtain ⟨mm,⟨o,_,_,e',_⟩,_⟩:=I1.loc
   rw [<- z,nx] at e';cases e') (fun y c e' z=>by
   obtain ⟨v,o,e2,_⟩:=I1.cell y c e'
   rw [z,nx] at e2;cases e2) (fun p hp z=>by
   have:=(I1.pin p hp).1
   rw [z,nx] at this;cases this) (Xq ho)
 have r2:zx (V.ref x1 :: vs) (am.ref x1 :: us):=.cons rfl r
 have hl2:(am.ref x1 :: us ++ []).length=ps.length:=by rw [b9,aV,hlu,hps]
 have b1:=hb { s2 with heap:=h' } (am.ref x1 :: us) I3.kIn hl2
 rw [b9] at b1
 refine iw (fE (F.run _ X.stack _ _ ⟨am.ref x1 :: us,[]⟩ (am.ref x1 :: us) (V.ref x1 :: vs) (fun v H2=>v=.non/\∃ dx,H1 dx=none/\dx ≠ x1/\H2=upd (upd H1 x1 (x6 x1 C t1 (some dx))) dx (XdE dx (fn vs))) E (hr.make C us []) (I3.env0.make C us []) b1 r2 ⟨x1,t1,vs,rfl,hl,zi,fun dx hd hne=>⟨rfl,dx,?_,hne,by rw [KA]⟩⟩) fun r s' hq'=>?_)
 ·rw [zg hne] at hd;exact hd
 cases r with
 | error e=>exact cg hq'
 | ok fl=>
  cases fl with
  | ret u=>
   obtain ⟨v,H',I4,rv,ev,dx,d1,d2,eH⟩:=I3.after hq'
   subst ev eH
   have hcl:=I4.bk _ _ hC
   have hex:s'.heap.get? x1=some (Ah C t1 (some dx)):=by
    have:=I4.hok x1 (x6 x1 C t1 (some dx)) (by rw [zg (Ne.symm d2),zi])
    exact this.1
   refine ⟨rv,hcl,⟨t1,some dx,hex⟩,?_⟩
   have I5:=I4.drop (x:=x1) (by rw [zg (Ne.symm d2),zi];exact True.intro) hx0
   have eH:(fun b=>if b=x1 then none else upd (upd H1 x1 (x6 x1 C t1 (some dx))) dx (XdE dx (fn vs)) b)=upd H1 dx (XdE dx (fn vs)):=by
    funext b
    by_cases c:b=x1
    ·rw [if_pos c,c,zg (Ne.symm d2)];exact hx1.symm
    ·rw [if_neg c]
     by_cases c2:b=dx
     ·rw [c2,zi,zi]
     ·rw [zg c2,zg c,zg c2]
   rw [eH] at I5
   obtain ⟨⟨mA,hn1,hr1,_⟩,⟨od,hod⟩,_⟩:=I5.hok dx (XdE dx (fn vs)) zi
   have I6:=I5.write (x:=dx) (e:=dx) (h':=s'.heap) (t':=s'.toks) (o:=.xd (fn vs)) (by rw [zi];exact True.intro) (.inl rfl) (fun _ _ _ z=>z) ⟨od,hod⟩ ⟨mA,hn1,hr1⟩
   rw [KA] at I6
   exact D.raise (C:=C) (d:=some dx) I6 (x:=x1) (h1:=s'.heap) (fun b o _ z=>z) (fun o z=>by rw [hex] at z;cases z;exact ⟨_,rfl⟩) hex rfl rfl rfl rfl rfl (.inl rfl) hx0 (by rw [zg (Ne.symm d2)];exact hx1) (q1 dx d1)
  | next=>exact cg hq'
  | brk=>exact cg hq'
  | cont=>exact cg hq'
end
open PySem.W (Looks InstAt findIn findObj subIn mroIn clsIn takerIn hasDictIn)
section
variable {X:Cx}{k:Nat}{C:aE}{m x:Str}{ps:List Str}{sp:Sp}{E:St->XK}{p pos apos:Pos}{o e:Expr}{es:List Expr}{t:TA}{to:TE}
end
variable {C:aE}
theorem QV {u:Obj}{name:Str} (hh:eo K C=true)(ha:eu K (.ref C) name=some none)(hl:fz name u=some (some v)):hW K C (some u) name=some (.value v):=lv hh ha rfl hl
section
variable {prog:bf}{w:bC}{A:bo}{E:am->ax->Prop}{s:ax}{K:au}{x C:aE}{ox u:Obj}{name:Str}{v:am}
theorem Hs {expr:Bool}{Q:am->ax->Prop}(X:K.In s.heap)(I:InstAt s.heap x ox C (some u))(hb:lF K (.ref C) (.type "BaseException")=some true)
  (h1:eu K (.ref C) "__getattribute__"=some (some (.builtin "BaseException.__getattribute__"))) (h2:eu K (.ref C) "__getattr__"=some none)
  (hf:hW K C (some u) name=some (.value v)) (hh:ia v=true) (q:Q v { s with toks:=s.toks+1 }) :
  bg (bc prog w) A (mR (.ref x) name expr) Q E s:=by
 obtain ⟨h,g,d,t,os⟩:=s
 unfold mR
 refine aF (wpAny_mkText ?_)
 refine Lv X I hb h1 h2 ?_
 have L0:=I.type (M:=bc prog w)
 have L1:=PySem.W.looks_find (M:=bc prog w) X I hf
 have fin:bg (bc prog w) A (handedOut v) Q E ⟨h,g,d,t+1,os⟩:=by rw [PySem.W.handedOut_of hh];exact bh q
 unfold Builtin.«object.__getattribute__»
 repeat (any_goals (first | assumption | with_reducible refine gP.at L0 ?_ | with_reducible refine gP.at L1 ?_ | wp_step))
end
noncomputable def Ay (K:au)(ta:TE)(f:Str):TE:=fun σ H Q=>ta σ H fun x H1=>∃ a C dx fs v,x=.ref a/\H1 a=some (Z4 a C (some dx))/\H1 dx=some (.xd fs)/\Gj K C/\eo K C=true/\eu K (.ref C) f=some none/\fs.lookup f=some v/\Q v H1
section
variable {X:Cx}{e:Expr}{ta:TE}{f:Str}{pos:Pos}
theorem EZ (he:PE X e ta)(hb:dL e f X.env (eval e X.env)=eval e X.env):PE X (.Attribute e f pos) (Ay X.K ta f):=by
 intro pins s σ H Q I h
 refine Xj hb (thn (he pins s σ H _ I h) fun u s1 ⟨x,H1,I1,rx,a,C,dx,fs,v,ex,ea,ed,c,hh,hn,l,q⟩=>?_)
 subst ex
 obtain rfl:u=am.ref a:=rx
 obtain ⟨⟨oa,g1,g2,g3,vs,g4⟩,_,_⟩:=I1.hok a _ ea
 obtain ⟨mA,hns,hr⟩:=I1.hok dx _ ed
 obtain ⟨od,ho,hl⟩:=ww hns
 have hv:=hr f
 rw [l] at hv
 cases z:mA f with
 | none=>rw [z] at hv;exact hv.elim
 | some u'=>
  rw [z] at hv
  have J:InstAt s1.heap a oa C (some od):=⟨g1,g2,by unfold i6;rw [g4],by rw [g3];exact ho⟩
  refine Hs I1.kIn J c.bx c.ga c.gt (QV hh hn (by rw [hl,z])) (wX hv) ⟨v,H1,I1.tok _,hv,q⟩
end
variable {base:Heap} {qual:Str} {st:cn} {N ps:List Str} {k n:Nat}
theorem Ga {C f:aE}{fd:dv} {fn:List V->List (Str × V)}(F:Fun K "__init__" qual st f fd)(S:zp N ps (zd st))
  (hb:∀ (kV doc pm:am) (an:Option aE) (cdv ct:am) (us:List am),us.length=ps.length->gi (ck "__init__" qual (qq st) (zT st) (zd st) .none kV doc pm an cdv ct) ⟨us,[]⟩=pure (ps.zip us))
  (q:xL K C Y6 "ValueError.__new__" f=true) (hf:eP K (.ref f)=true) (hl:ps.length=n+1)
  (hbody:∀ (cdv:am) (A:bo) (outer:List Env) (s:ax) (H:Hp) (E:XK),∃ t,PSs (kJ CX0 P w K mg base N qual (zd st) f cdv A outer s H E).nox (zT st) t /\
   ∀ (a t0:aE) (us:List V) (Q:VK),us.length=n->H a=some (x6 a C t0 none)->(∀ dx,H dx=none->dx ≠ a->Q .non (upd (upd H a (x6 a C t0 (some dx))) dx (XdE dx (fn us))))->t { nx:=fun _ H'=>Q .non H',rt:=Q } (qF N (.ref a :: us)) H):MkX P w K mg base C (k+1) n fn:=by
 have hfc:∃ oI,K.lookup f=some oI/\oI.cls=.type "function":=by
  obtain ⟨oc,od,kV,doc,pm,an,cdv,ct,osl,rfl,lk,hcd⟩:=F.ex
  refine ⟨_,lk,?_⟩
  have hf':=beq_iff_eq.mp hf
  have hf':Option.map (fun x:Obj=>x.cls) (K.lookup f)=some (.type "function"):=hf'
  rw [lk] at hf'
  exact bO hf'
 refine ⟨f,fd,ps,q,F.ok S (fun vs H Q E ⟨a,t,us,e,l,_⟩=>by rw [e,aV,l,hl]) fun cdv A outer s H vs Q E hr ⟨a,t0,us,e,l,ha,hq⟩=>?_,F.binds hb,hfc,hl⟩
 obtain ⟨t,h1,h2⟩:=hbody cdv A outer s H E
 subst e
 exact ⟨t,h1,h2 a t0 us Q l ha hq⟩
open PySem.W (findIn hasDictIn)
theorem yI {H:Hp}{O:Own}{M:MH}:∀ {xs:List (Str × V)} {l:List (Str × AV)},jK H O M xs l->∀ f,(xs.lookup f=none/\l.lookup f=none) \/ ∃ v x,xs.lookup f=some v/\l.lookup f=some x/\zo H O M v x
 | [],[],_,f=>.inl ⟨rfl,rfl⟩
 | [],_ :: _,r,f=>by have:=r.1;simp at this
 | _ :: _,[],r,f=>by have:=r.1;simp at this
 | (g,v) :: xs,(g',x) :: l,r,f=>by
  have h1:=r.1
  rw [bp,bp] at h1
  obtain ⟨e0,h2⟩:=fb h1
  have e0:g=g':=e0
  subst e0
  have r0:zo H O M v x:=r.2.2 0 v x rfl rfl
  have r1:jK H O M xs l:=⟨h2,by have:=r.2.1;simp at this;simpa using this,fun i a b e1 e2=>r.2.2 (i+1) a b e1 e2⟩
  by_cases c:f=g
  ·subst c
   exact .inr ⟨v,x,by simp [bD],by simp [bD],r0⟩
  ·have e:(f == g)=false:=by simpa using c
   simp only [bD,e]
   exact yI r1 f
noncomputable def qV (f:Str)(v:AV):List (Str × AV)->List (Str × AV)
 | []=>[(f,v)]
 | (g,x) :: r=>if g=f then (g,v) :: r else (g,x) :: qV f v r
theorem Ar {H:Hp}{O:Own}{M:MH}{f:Str}{v:V}{x:AV}(rv:zo H O M v x):∀ {xs:List (Str × V)} {l:List (Str × AV)},jK H O M xs l->jK H O M (jq f v xs) (qV f x l)
  | [], [], _ => ⟨rfl, rfl, fun i a b e1 e2 => by
      cases i with
      | zero=>cases e1;cases e2;exact rv
      | succ i=>cases e1⟩
  | [],_ :: _,r=>by have:=r.1;simp at this
  | _ :: _,[],r=>by have:=r.1;simp at this
  | (g,v') :: xs,(g',x') :: l,r=>by
    have h1:=r.1
    rw [bp,bp] at h1
    obtain ⟨e0,h2⟩:=fb h1
    have e0:g=g':=e0
    subst e0
    have r0:zo H O M v' x':=r.2.2 0 v' x' rfl rfl
    have ll:xs.length=l.length:=by have:=r.2.1;simp at this;exact this
    have r1:jK H O M xs l:=⟨h2,by simpa using ll,fun i a b e1 e2=>r.2.2 (i+1) a b e1 e2⟩
    unfold jq qV
    by_cases c:g=f
    · rw [if_pos c,if_pos c]
      exact ⟨by rw [bp,bp,h2],by simpa using ll,fun i a b e1 e2=>by
        cases i with
        | zero=>cases e1;cases e2;exact rv
        | succ i=>exact r1.2.2 i a b e1 e2⟩
    · rw [if_neg c,if_neg c]
      have ih:=Ar (f:=f) rv r1
      exact ⟨by rw [bp,bp,ih.1],by have:=ih.2.1;simpa using this,fun i a b e1 e2=>by
        cases i with
        | zero=>cases e1;cases e2;exact r0
        | succ i=>exact ih.2.2 i a b e1 e2⟩
variable {O:Own} {M:MH}
theorem Gv {xs:List (Str × V)}{l:List (Str × AV)}(r:jK H O M xs l):xs.length=l.length:=by simpa using r.2.1
theorem Xn (w:Wf H O M){p C:aE}{fs:List (Str × AV)}(hp:M p=some (.ins C fs))(f:Str){v:V}{y:AV}(rv:zo H O M v y) :
  ∃ dx xs,H p=some (.ins C dx xs)/\xs.length=fs.length/\Ext H O M (upd H p (.ins C dx (jq f v xs))) O (mup M p (.ins C (qV f y fs)))/\Wf (upd H p (.ins C dx (jq f v xs))) O (mup M p (.ins C (qV f y fs))):=by
 obtain ⟨dx,xs,g1,g2,g3,g4,g5⟩:=w.mo p _ hp
 have np:=je hp
 have ks:=kF w np (.ins C dx (jq f v xs)) (.ins C (qV f y fs))
 have kp:=Ar (f:=f) rv g2
 refine ⟨dx,xs,g1,Gv g2,ks,JA w np (fun _ z=>nomatch z) (show qA _ _ _ p (.ins C (qV f y fs)) from ⟨dx,_,zi,⟨kp.1,kp.2.ext ks⟩,g3,(ks.prv dx g3 g4).2.2,?_⟩)⟩
 rw [(ks.prv dx g3 g4).1];exact g5
noncomputable def MI (K:au)(a:AE)(f:Str):AE:=fun ρ M Q=>a ρ M fun x M1=>∃ p C fs v,x=.ref p/\M1 p=some (.ins C fs)/\Cls K C/\qE K C f/\fs.lookup f=some v/\Q v M1
variable {t:TE} {a:AE} {f:Str}
theorem DV (h:zz t a):zz (Hm K t f) (MI K a f):=⟨fun w e q k=>h.go w e q fun x M1 v H1 O1 q1 k1 w1 r1=>by
 obtain ⟨p,C,fs,y,rfl,hp,c,n,hl,q2⟩:=q1
 obtain ⟨dx,xs,h1,h2,_⟩:=w1.mo p _ hp
 rcases yI h2 f with ⟨_,z⟩ | ⟨u,z,h3,h4,h5⟩
 ·rw [z] at hl;cases hl
 ·rw [hl] at h4;cases h4
  exact ⟨p,C,dx,xs,u,r1.1,h1,c,n,h3,k _ _ _ _ _ q2 k1 w1 h5⟩⟩
noncomputable def F1 (K:au)(a b:AE)(f:Str):AS:=fun _ D ρ M=>b ρ M fun y M1=>a ρ M1 fun x M2=>∃ p C fs,x=.ref p/\M2 p=some (.ins C fs)/\Cls K C/\qE K C f/\fs.length<1000/\D.nx ρ (mup M2 p (.ins C (qV f y fs)))
theorem BC {t u:TE}{a b:AE} (h1:zz t a)(h2:zz u b):qK (IB K t u f) (F1 K a b f):=⟨fun _ w e x q E=>h2.go w e q fun y M1 v H1 O1 q1 k1 w1 r1=>h1.go w1 (e.ext k1) q1 fun z M2 v2 H2 O2 q2 k2 w2 r2=>by
 obtain ⟨p,C,fs,rfl,hp,c,n,hl,q3⟩:=q2
 obtain ⟨dx,xs,g1,g2,ks,w3⟩:=Xn w2 hp f (r1.ext k2)
 exact ⟨p,C,dx,xs,r2.1,g1,c,n,by rw [g2];exact hl,E.nx _ _ _ _ _ w3 ((e.ext k1).ext (k2.trans ks)) ((x.trans k1).trans (k2.trans ks)) q3⟩⟩
noncomputable def Fy (C:aE)(m:Str)(sp:ASp)(a:AE)(b:AA):AE:=fun ρ M Q=>a ρ M fun x M1=>∃ p fs,x=.ref p/\M1 p=some (.ins C fs)/\fs.lookup m=none/\b ρ M1 fun xs M2=>sp (.ref p :: xs) M2 Q
theorem KB {H:Hp}{O:Own}{M:MH}{v:V}{x:AV}{vs:List V}{xs:List AV}(r:zo H O M v x)(rs:zh H O M vs xs):zh H O M (v :: vs) (x :: xs):=⟨by rw [aV,aV,rs.1],fun i a b e1 e2=>by
 cases i with
 | zero=>cases e1;cases e2;exact r
 | succ i=>exact rs.2 i a b e1 e2⟩
variable {m:Str} {sp:ASp} {u:TA} {b:AA}
theorem VC (h1:zz t a)(h2:qW u b):zz (wZ C m (cSp sp) [] E0 t u) (Fy C m sp a b):=⟨fun w e q k=>h1.go w e q fun x M1 v H1 O1 q1 k1 w1 r1=>by
 obtain ⟨p,fs,rfl,hp,hl,q2⟩:=q1
 obtain ⟨dx,xs,g1,g2,_⟩:=w1.mo p _ hp
 have hn:xs.lookup m=none:=by
  rcases yI g2 m with z | ⟨_,_,_,z,_⟩
  ·exact z.1
  ·rw [hl] at z;cases z
 refine ⟨p,dx,xs,r1.1,g1,hn,h2.go w1 (e.ext k1) q2 fun ys M2 vs H2 O2 q3 k2 w2 r2=>?_⟩
 have rp:zo H2 O2 M2 v (.ref p):=r1.ext k2
 exact ⟨.ref p :: ys,M2,O2,_,w2,by rw [b9];exact KB rp r2,q3,fun z M3 v3 H3 O3 q4 k3 w3 r3=>k z M3 v3 H3 O3 q4 ((k1.trans k2).trans k3) w3 r3⟩⟩
section
variable {HX:Hp}{OX:Own}{MX:MH}{E:St->XK}{EA:ASt->AXK}{sp:Zi}{te:TE}{ae:AE}{ta:TA}{aa:AA}{C:aE}{m:Str}
noncomputable def YB:AV->Option V
 | .d (.int i)=>some (.int i)
 | .d (.str s)=>some (.str s)
 | .d .non=>some .non
 | .d (.bl b)=>some (.bl b)
 | _=>none
theorem VH {H:Hp}{O:Own}{M:MH}{v u:V}{x:AV}(r:zo H O M v x)(h:YB x=some u):v=u:=by
 cases x with
 | ref a=>cases h
 | tp l=>cases h
 | d d=>
  have r:Rep H O v d:=r
  cases d <;> first | (cases h;first | exact zI r | exact zR r | exact Zw r | exact j0 r) | cases h
theorem XZ {vs us:List V}{xs:List AV}(r:zh H O M vs xs)(h:xs.map YB=us.map some):vs=us:=by
 have ll:xs.length=us.length:=by simpa using congrArg gk h
 refine fX (r.1.trans ll) fun i h1 h2=>?_
 have hi:i<xs.length:=by rw [<- r.1];exact h1
 have e:YB xs[i]=some us[i]:=by
  have:=congrArg (fun z:List (Option V)=>z[i]?) h
  simpa [aK,aq hi,aq h2] using this
 exact VH (r.2 i vs[i] xs[i] (aq h1) (aq hi)) e
noncomputable def KS (C:aE)(n:Nat)(fn:List V->List (Str × V))(EA:ASt->AXK)(b:AA):AS:=fun _ _ ρ M=>b ρ M fun xs M1=>∃ vs,xs.map YB=vs.map some/\vs.length=n/\n<=1000/\EA ρ C (fn vs) M1
theorem QA {fn:List V->List (Str × V)}(hE:EXs HX OX MX E EA)(hu:qW ta aa):kz HX OX MX (K4 C n fn E ta) (KS C n fn EA aa):=
 ⟨fun kx _ w e x q D=>hu.go w e q fun xs M1 vs H1 O1 q1 k1 w1 r1=>by
  obtain ⟨us,h1,h2,h3,h4⟩:=q1
  obtain rfl:=XZ r1 h1
  refine ⟨h2,h3,fun dx hd=>?_⟩
  have k2:=qw w1 hd (.xd (fn vs))
  exact hE.go _ _ C (fn vs) M1 _ (xi O1 dx) (some dx) h4 (((kx.trans x).trans k1).trans k2) (kU w1 hd _ (fun _ z=>nomatch z)) (e.ext (k1.trans k2)) (.inr ⟨dx,rfl,zi,.inl rfl,(w1.fresh hd).2⟩)⟩
end
noncomputable def Aq:V->Option Dat
 | .int i=>some (.int i)
 | .str s=>some (.str s)
 | .non=>some .non
 | .bl b=>some (.bl b)
 | _=>none
theorem wU {v:V}{d:Dat}(h:Aq v=some d):Rep H O v d:=by
 cases v <;> first | (cases h;constructor) | cases h
noncomputable def Fu (K:au)(a:AE)(f:Str):AE:=fun ρ M Q=>a ρ M fun x M1=>∃ p C fs v d,x=.ref p/\M1 p=some (.exc C fs)/\Gj K C/\eo K C=true/\eu K (.ref C) f=some none/\fs.lookup f=some v/\Aq v=some d/\Q (.d d) M1
theorem Wy (h:zz t a):zz (Ay K t f) (Fu K a f):=⟨fun w e q k=>h.go w e q fun x M1 v H1 O1 q1 k1 w1 r1=>by
 obtain ⟨p,C,fs,y,d,rfl,hp,c,hh,hn,hl,hd,q2⟩:=q1
 obtain ⟨dd,h1,h2⟩:=w1.mo p _ hp
 rcases h2 with ⟨_,z⟩ | ⟨dx,e1,h2,_⟩
 ·rw [z] at hl;cases hl
 ·subst e1
  exact ⟨p,C,dx,fs,y,r1.1,h1,h2,c,hh,hn,hl,k _ _ _ _ _ q2 k1 w1 (show Rep _ _ _ _ from wU hd)⟩⟩
theorem dmA {a:ASp}(at_:AtM K C m qual st)(S:zp N ps (zd st))
  (hb:∀ (kV doc pm:am) (an:Option aE) (cdv ct:am) (us:List am),us.length=ps.length->gi (ck m qual (qq st) (zT st) (zd st) .none kV doc pm an cdv ct) ⟨us,[]⟩=pure (ps.zip us))
  (len:∀ xs M Q,a xs M Q->xs.length=ps.length)
  (hbody:∀ (f:aE) (cdv:am) (A:bo) (outer:List Env) (s:ax) (H:Hp) (E:XK),qj k (A.deeper (fF qual (zd st) s.heap.objs.size f cdv)) ->
   ∃ t,PSs (kJ CX0 P w K mg base N qual (zd st) f cdv A outer s H E).nox (zT st) t/\∃ b,qK t b/\∀ xs M Q,a xs M Q->b M { nx:=fun _ M'=>rtA M Q (.d .non) M',rt:=rtA M Q } (zA N xs) M):Dm P w K mg base C m ps (k+1) (cSp a):=by
 refine IA at_ S hb (fun vs H Q E h=>?_) (fun f cdv A outer s H vs Q E hr h=>?_)
 ·obtain ⟨xs,M,O,Q',w,r,q,_⟩:=h
  rw [r.1];exact len xs M Q' q
 ·obtain ⟨t,ht,b,hb,hq⟩:=hbody f cdv A outer s H E hr
  refine ⟨t,ht,?_⟩
  obtain ⟨xs,M,O,Q',w,r,q,kk⟩:=h
  refine hb.go w w (vE r N) .refl (hq xs M Q' q) ⟨fun σ H' O' ρ M' w' e' x' q'=>?_,fun v y H' O' M' w' x' r' q'=>?_,fun _ _ _ _ _ _ _ _ z=>z.elim,fun _ _ _ _ _ _ _ _ z=>z.elim⟩
  ·obtain ⟨y',M'',f,q2⟩:=q'
   obtain ⟨O'',w2,k2,r2⟩:=xK w w' x' (show zo H' O' M' .non (.d .non) from .non) f
   exact kk _ _ _ _ _ q2 k2 w2 r2
  ·obtain ⟨y',M'',f,q2⟩:=q'
   obtain ⟨O'',w2,k2,r2⟩:=xK w w' x' r' f
   exact kk _ _ _ _ _ q2 k2 w2 r2
noncomputable def Fx (C:aE)(sp:ASp)(b:AA):AE:=fun ρ M Q=>b ρ M fun xs M1=>∀ p,M1 p=none->sp (.ref p :: xs) (mup M1 p (.ins C [])) fun v M2=>v=.d .non/\Q (.ref p) M2
theorem A7 (h:qW u b):zz (Xe C (cSp sp) [] E0 u) (Fx C sp b):=⟨fun w e q k=>h.go w e q fun ys M1 vs H1 O1 q1 k1 w1 r1=>by
 intro x dx hx hd hne
 have k2:=qw w1 hd (.own x)
 have w2:=kU w1 hd (.own x) (fun _ z=>nomatch z)
 have hx2:upd H1 dx (.own x) x=none:=by rw [zg (Ne.symm hne)];exact hx
 have k3:=Zl w2 hx2 (.ins C dx []) (.ins C [])
 have w3:Wf (upd (upd H1 dx (.own x)) x (.ins C dx [])) (xi (xi O1 dx) x) (mup M1 x (.ins C [])):=Wp w2 hx2 (fun _ z=>nomatch z) (show qA _ _ _ x (.ins C []) from ⟨dx,[],zi,⟨rfl,rfl,fun i a b e1 _=>nomatch e1⟩,.inr (.inl rfl),by rw [zG hne];exact (w1.fresh hd).2,by rw [zg hne,zi]⟩)
 have mx:mup M1 x (.ins C []) x ≠ none:=by rw [zq];exact fun z=>nomatch z
 refine ⟨.ref x :: ys,mup M1 x (.ins C []),_,_,w3,?_,q1 x (w1.fresh hx).2,fun z M4 v4 H4 O4 q4 k4 w4 r4=>?_⟩
 ·rw [b9];exact KB ⟨rfl,mx⟩ (r1.ext (k2.trans k3))
 ·obtain ⟨rfl,q5⟩:=q4
  exact ⟨Zw r4,k _ _ _ _ _ q5 (((k1.trans k2).trans k3).trans k4) w4 ⟨rfl,k4.mst x mx⟩⟩⟩
noncomputable def FG (kvs:List (Key × V))(a:AE):AE:=fun ρ M Q=>a ρ M fun x M1=>∃ s d,x=.d (.str s)/\Aq ((jk kvs (aZ s)).getD .non)=some d/\Q (.d d) M1
theorem Bz {kvs:List (Key × V)} (h:zz t a):zz (BI kvs t) (FG kvs a):=⟨fun w e q k=>h.go w e q fun x M1 v H1 O1 q1 k1 w1 r1=>by
 obtain ⟨s,d,rfl,hd,q2⟩:=q1
 exact ⟨aZ s,zR r1,k _ _ _ _ _ q2 k1 w1 (show Rep _ _ _ _ from wU hd)⟩⟩
end L2
namespace PySem
open Sem (wp)
section
variable {prog:bf}{w:bC}{A:bo}{E:am->ax->Prop}{s:ax}
end
section
variable {prog:bf}{w:bC}{A:bo}{E:am->ax->Prop}{env:Env}
variable {nm q:Str}{C N:aE}{bs bm bmB:List am}{hdct:Bool}{sn:List Str}{sub:List am}{ab:Bool}{col:Option Bool}{dd:Option aE}{k0 k1 k2 k3 k5:Option am}{B Bn newId nid initId inN:String}{bmN:List am}
end
end PySem
namespace L2
open PySem PySem.Spec PyProof.Rows
section
variable {M:mM}{A:bo}{E:am->ax->Prop}{s:ax}
end
section
variable {X:Cx}{E:XK}{pins:List (aE × Obj)}{σ:St}{H:Hp}{s:ax}
end
open PySem.W (Looks InstAt findIn findObj subIn mroIn clsIn takerIn hasDictIn)
structure Ni (k:Nat)(A:bo):Prop where
 gd:A.guards=some []
 dp:A.depth+3 * k+5<iY
 un:A.units+16 * k+200<iK
open PySem.W (Looks InstAt findIn findObj subIn mroIn clsIn takerIn hasDictIn)
section
variable {X:Cx}{E:XK}{body:List cn}{n tx cx:Str}{i k nn:Nat}{T C2:aE}{np cp cpos rpos hpos pos:Pos}{tb:(St->XK)->TS}{ta:TA}{e1:Expr}{es:List Expr}{fn:List V->List (Str × V)}
end
open PySem.W (Looks InstAt findIn findObj subIn mroIn clsIn takerIn hasDictIn)
section
variable {X:Cx}{e:Expr}{ta:TE}{f:Str}{pos:Pos}{K:au}
end
section
variable {HX:Hp}{OX:Own}{MX:MH}{K:au}{i j:Nat}{T C2:aE}{f:Str}{fn:List V->List (Str × V)}{E:XK}{EA:ASt->AXK}{tb:(St->XK)->TS}{ab:(ASt->AXK)->AS}
end
section
variable {X:Cx}{K:au}{E:XK}{body:List cn}{n tx cx:Str}{i k nn:Nat}{T C2:aE}{np cp cpos rpos hpos pos:Pos}{tb:(St->XK)->TS}{ta:TA}{e1:Expr}{es:List Expr}{fn:List V->List (Str × V)}
end
section
variable {X:Cx}
end
structure Vk where
 nx:ASt->MH->Prop
 rt:List AV->MH->Prop
abbrev AST:=MH->Vk->ASt->MH->Prop
structure Ng (t:TS)(a:AST):Prop where
 go:∀ {H0:Hp} {O0:Own} {M0:MH} {Q:VK} {D':Vk} {σ:St} {H:Hp} {O:Own} {ρ:ASt} {M:MH} {nx:St->Hp->Prop},Wf H0 O0 M0->Wf H O M->Er H O M σ ρ->Ext H0 O0 M0 H O M->a M0 D' ρ M ->
  (∀ ys M' us H' O' p,D'.rt ys M'->Ext H0 O0 M0 H' O' M'->Wf H' O' M'->H' p=some (.tup us)->zh H' O' M' us ys->Q (.ref p) H')->t { nx:=nx,rt:=Q } σ H
end L2
namespace L2
open PySem PyProof.Rows
noncomputable def kn (p:cm):Int:=numOf p.1
def LEr (rk:cm->Int)(p q:cm):Prop:=kn p<kn q \/ (kn p=kn q/\rk p<=rk q)
section
variable {rk:cm->Int}{p q r:cm}
end
def IsI (p:cm):Prop:=∃ n t,p.1=am.int n t
section
variable {prog:bf}{w:bC}{A:bo}{E:am->ax->Prop}{s:ax}
end
noncomputable def byd (left:Bool)(key x:cm):Bool:=if left then decide (kn x<kn key) else !decide (kn key<kn x)
structure Cut (left:Bool)(key:cm)(f:Nat->cm)(n k:Nat):Prop where
 le:k<=n
 lo:∀ i,i<k->byd left key (f i)=true
 hi:∀ i,k<=i->i<n->byd left key (f i)=false
section
variable {prog:bf}{w:bC}{A:bo}{E:am->ax->Prop}{s:ax}
end
end L2
namespace L2
open PySem PyProof.Rows
section
variable {rk:cm->Int}
structure MLo (rk:cm->Int)(X Y:List cm)(a b:Nat)(o:List cm):Prop where
 la:a<=X.length
 lb:b<=Y.length
 perm:o.Perm (X.take a ++ Y.take b)
 pw:o.Pairwise (LEr rk)
 lx:∀ x ∈ o,∀ y ∈ X.drop a,LEr rk x y
 ly:∀ x ∈ o,∀ y ∈ Y.drop b,LEr rk x y
structure Nk (rk:cm->Int)(X Y:List cm):Prop where
 px:X.Pairwise (LEr rk)
 py:Y.Pairwise (LEr rk)
 bel:∀ x ∈ X,∀ y ∈ Y,rk x<=rk y
 ix:∀ x ∈ X,IsI x
 iy:∀ y ∈ Y,IsI y
variable {X Y o:List cm}{a b:Nat}
end
section
variable {prog:bf}{w:bC}{A:bo}{E:am->ax->Prop}{s:ax}{rk:cm->Int}
end
end L2
namespace L2
open PySem PyProof.Rows
section
variable {prog:bf}{w:bC}{A:bo}{E:am->ax->Prop}{s:ax}{rk:cm->Int}
end
end L2
namespace L2
open PySem PyProof.Rows
section
variable {rk:cm->Int}{X Y o:List cm}{a b:Nat}
structure MHi (rk:cm->Int)(X Y:List cm)(a b:Nat)(o:List cm):Prop where
 la:a<=X.length
 lb:b<=Y.length
 perm:o.Perm (X.drop a ++ Y.drop b)
 pw:o.Pairwise fun p q=>LEr rk q p
 lx:∀ x ∈ o,∀ y ∈ X.take a,LEr rk y x
 ly:∀ x ∈ o,∀ y ∈ Y.take b,LEr rk y x
end
section
variable {prog:bf}{w:bC}{A:bo}{E:am->ax->Prop}{s:ax}{rk:cm->Int}
end
end L2
namespace L2
open PySem PyProof.Rows
noncomputable def gK (xs:Array cm)(i:Nat):cm:=xs[i]?.getD (.none,.none)
structure Sg (xs ys:Array cm)(lo hi:Nat):Prop where
 perm:ys.Perm xs
 out:∀ i,i<lo \/ hi<=i->ys[i]?=xs[i]?
 inn:∀ i,lo<=i->i<hi->∃ j,lo<=j/\j<hi/\ys[i]?=xs[j]?
structure SoB (a₀:Array cm)(st:SortSt):Prop where
 perm:(arrOf st).Perm a₀
 kind:kindOf st=oneType'
 failed:failedOf st=none
section
variable {prog:bf}{w:bC}{A:bo}{E:am->ax->Prop}{s:ax}{a₀:Array cm}{rk:cm->Int}
def Asc (rk:cm->Int)(xs:Array cm)(lo:Nat):Prop:=∀ i j,lo<=i->i<=j->j<xs.size->rk (gK xs i)<=rk (gK xs j)
end
end L2
namespace L2
open PySem PyProof.Rows
section
variable {prog:bf}{w:bC}{A:bo}{E:am->ax->Prop}{s:ax}{a₀:Array cm}{rk:cm->Int}
def Fal (rk:cm->Int)(xs:Array cm)(lo hi:Nat):Prop:=∀ i j,lo<=i->i<=j->j<hi->LEr rk (gK xs j) (gK xs i)
structure Dsc (rk:cm->Int)(xs:Array cm)(lo T hi:Nat):Prop where
 l:lo<=T
 t:T<hi
 a:Fal rk xs lo T
 b:∀ i,lo<=i->i<T->kn (gK xs (hi - 1))<kn (gK xs i)
 c:∀ i j,T<=i->i<=j->j<hi->kn (gK xs i)=kn (gK xs (hi - 1))/\rk (gK xs i)<=rk (gK xs j)
end
end L2
namespace L2
open PySem PyProof.Rows
section
variable {prog:bf}{w:bC}{A:bo}{E:am->ax->Prop}{s:ax}{rk:cm->Int}
end
end L2
namespace L2
open PySem PyProof.Rows
noncomputable def Pnd:Nat->List (Nat × Nat × Nat)->List (List cm)->Prop
 | _,[],[]=>True
 | o,p :: ps,r :: rs=>p.1=o/\p.2.1=r.length/\Pnd (o+r.length) ps rs
 | _,_,_=>False
section
variable {prog:bf}{w:bC}{A:bo}{E:am->ax->Prop}{s:ax}{a₀:Array cm}{rk:cm->Int}
structure Rns (rk:cm->Int)(a₀:Array cm)(rs:List (List cm))(qh:List cm)(st:SortSt):Prop where
 b:SoB a₀ st
 e:(arrOf st).toList=rs.flatten ++ qh
 ne:∀ r ∈ rs,0<r.length
 so:∀ r ∈ rs,r.Pairwise (LEr rk)
 bel:rs.Pairwise fun X Y=>∀ x ∈ X,∀ y ∈ Y,rk x<=rk y
 be:∀ x ∈ rs.flatten,∀ y ∈ qh,rk x<=rk y
 pn:Pnd 0 (pendingOf st).toList rs
end
end L2
namespace L2
open PySem PyProof.Rows
section
variable {prog:bf}{w:bC}{A:bo}{E:am->ax->Prop}{s:ax}{a₀:Array cm}{rk:cm->Int}
end
end L2
namespace L2
open PySem PyProof.Rows
section
variable {prog:bf}{w:bC}{A:bo}{E:am->ax->Prop}{s:ax}{a₀:Array cm}{rk:cm->Int}
end
end L2
namespace L2
open PySem PyProof.Rows
section
variable {prog:bf}{w:bC}{A:bo}{E:am->ax->Prop}{s:ax}
end
section
variable {prog:bf}{w:bC}{A:bo}{E:am->ax->Prop}{s:ax}
end
section
variable {X:Cx}
end
section
variable {X:Cx}
variable {o e:Expr}{es:List Expr}{to:TE}{t:TA}{name:Str}{apos cpos:Pos}{T1 id1 T2 id2:String}{r1 r2:V->List V->Hp->VK->Prop}{K:au}
end
section
variable {prog:bf}{w:bC}{A:bo}{R:ms->ax->Prop}{s:ax}
end
section
variable {C:Cx}{kx vx tg iter:Expr}{ifs:List Expr}{gens:List gc}{scope:Scope}{pos:Pos}{d:Nat}{D:aE}{g:TG}{tt:TT}{te:TE}{tr:TR}
end
section
variable {X:Cx}{ts:List Nat}{scope:Scope}{tg iter kx vx:Expr}{ifs:List Expr}{qh:List gc}{wi:TI}{g:TG}{tt:TT}{tr:aE->TR}{pos:Pos}
end
section
variable {P:bf}{w:bC}{A:bo}{E:am->ax->Prop}{s:ax}{n l1 l2 l3:Nat}{k:Nat}{xs ys zs:Array am}{x y u a b c:am}{Q:Option am->ax->Prop}
end
section
variable {X:Cx}{es:List Expr}{kt:Nat}{tp:Pos}
end
section
variable {X:Cx}{o i:Expr}{pos:Pos}{td ty:TE}
end
section
variable {X:Cx}{es:List Expr}{kt:Nat}{tp gp:Pos}{body:List cn}{pos:Pos}{tb:TS}{g:Str}{a:aE}{is:List Nat}
end
noncomputable def VO (v:V):Option AV->Prop
 | none=>True
 | some (.d (.int i))=>v=.int i
 | some _=>False
inductive VOs:List V->List (Option AV)->Prop
 | nil:VOs [] []
 | cons {v:V} {x:Option AV} {vs:List V} {xs:List (Option AV)}:VO v x->VOs vs xs->VOs (v :: vs) (x :: xs)
variable {H:Hp} {O:Own} {M:MH}
theorem Er.setN {σ:St}{ρ:ASt}(e:Er H O M σ ρ)(v:V)(j:Nat):Er H O M (σ.set j (some v)) (ρ.set j none):=
 ⟨by rw [bT,bT,e.len],fun i y h=>by
  rw [cB] at h ⊢
  by_cases c:j=i
  ·rw [if_pos c] at h
   split at h <;> cases h
  ·rw [if_neg c] at h ⊢;exact e.get i y h⟩
inductive AN (b:List V->TS):List (List V)->List (List (Option AV) × AS)->Prop
 | nil:AN b [] []
 | cons {vs:List V} {vss:List (List V)} {xs:List (Option AV)} {ab:AS} {r:List (List (Option AV) × AS)}:VOs vs xs->qK (b vs) ab->AN b vss r->AN b (vs :: vss) ((xs,ab) :: r)
abbrev ATD:=ASt->MH->(ASt->MH->Prop)->Prop
structure Nj (tr:TR)(a:ATD):Prop where
 go:∀ {σ:St} {H:Hp} {O:Own} {ρ:ASt} {M:MH} {N:St->Hp->Prop} {N':ASt->MH->Prop},Wf H O M->Er H O M σ ρ->a ρ M N'->(∀ σ' H' O' ρ' M',N' ρ' M'->Ext H O M H' O' M'->Wf H' O' M'->Er H' O' M' σ' ρ'->N σ' H')->tr σ H N
section
variable {X:Cx}{ts:List Nat}{scope:Scope}{tg iter kx vx:Expr}{ifs:List Expr}{qh:List gc}{wi:TI}{g:TG}{tt:TT}{tr:aE->TR}{pos:Pos}
end
section
variable {X:Cx}{es:List Expr}{kt:Nat}{tp gp:Pos}{elt:Expr}{scope:Scope}{pos:Pos}{te:TE}{g:Str}{a:aE}{is ts:List Nat}
end
inductive Ig:List (List V)->List (List (Option AV))->Prop
 | nil:Ig [] []
 | cons {vs:List V} {xs:List (Option AV)} {vss:List (List V)} {xss:List (List (Option AV))}:VOs vs xs->Ig vss xss->Ig (vs :: vss) (xs :: xss)
section
variable {X:Cx}{e hi st:Expr}{te:TE}{th ts:TO}{p2 pos:Pos}{K:au}
end
noncomputable def Xh (a:AE)(hi st:AO):AE:=fun ρ M Q=>a ρ M fun x M1=>hi ρ M1 fun u M2=>u=some 0/\st ρ M2 fun z M3=>z=some (-1)/\∃ l,x=.d (.tup l)/\0<l.length/\Q (.d (.tup (l.drop 1).reverse)) M3
section
variable {prog:bf}{w:bC}{K:Type}[DecidableEq K]{knd:KeyKind prog w K}{A:bo}{E:am->ax->Prop}{s:ax}{a b:aE}
end
noncomputable def wc (kvs:List (Key × AV))(k:Key)(v:AV):List (Key × AV):=
 if (kvs.any fun kv=>decide (kv.1=k))=true then kvs.map (fun kv=>if kv.1=k then (kv.1,v) else kv) else kvs ++ [(k,v)]
inductive Q2:List (TE × TE)->List (AE × AE)->Prop
 | nil:Q2 [] []
 | cons {tk tv:TE} {ak av:AE} {ts:List (TE × TE)} {as:List (AE × AE)}:zz tk ak->zz tv av->Q2 ts as->Q2 ((tk,tv) :: ts) ((ak,av) :: as)
inductive QU (M:MH):AV->Dat->Prop
 | d {x:Dat}:QU M (.d x) x
 | lst {p:aE} {l:List AV} {ds:List Dat}:M p=some (.lst l)->l.length=ds.length->(∀ (i:Nat) a b,l[i]?=some a->ds[i]?=some b->QU M a b)->QU M (.ref p) (.lst ds)
 | tp {l:List (Dat ⊕ aE)} {ds:List Dat}:l.length=ds.length->(∀ (i:Nat) a b,l[i]?=some a->ds[i]?=some b->QU M (tiA a) b)->QU M (.tp l) (.tup ds)
open AutoSeq1 (wpAny_loadPart')
section
variable {prog:bf}{w:bC}{A:bo}{E:am->ax->Prop}{s:ax}
end
section
variable {X:Cx}
end
section
variable {X:Cx}
end
noncomputable def vo (z:Str)(lo hi:Option Int):Str:=⟨((z.cps.toList.drop (HT.sIx z.length 0 lo)).take (HT.sIx z.length z.length hi - HT.sIx z.length 0 lo)).toArray⟩
theorem Yu {α:Type}(xs:Array α)(i:Nat):∀ k,((bP k).map (i+·)).filterMap (xs[·]?)=(xs.toList.drop i).take k:=by
 intro k
 induction k with
 | zero=>simp
 | succ k ih=>
  rw [fh,bU,List.filterMap_append,ih,List.take_succ,lR,fS]
  congr 1
theorem FU (v:Option Int)(n d:Nat):(match v with | none=>(d:Int) | some i=>max 0 (min (if i<0 then i+(n:Int) else i) (n:Int)))=((HT.sIx n d v:Nat):Int):=by
 cases v with
 | none=>rfl
 | some i=>
  show max 0 (min (if i<0 then i+(n:Int) else i) (n:Int))=(((if i<0 then (i+(n:Int)).toNat else min i.toNat n):Nat):Int)
  by_cases h:i<0
  ·rw [if_pos h,if_pos h];omega
  ·rw [if_neg h,if_neg h];omega
theorem Eg (lo hi:Option Int)(n:Nat):gG lo hi 1 n=(bP (HT.sIx n n hi - HT.sIx n 0 lo)).map (HT.sIx n 0 lo+·):=by
 unfold gG
 have h1:(1:Int) > 0:=by omega
 simp only [h1,if_true]
 show sliceRange (match lo with | none=>((0:Nat):Int) | some i=>max 0 (min (if i<0 then i+(n:Int) else i) (n:Int))) (match hi with | none=>(n:Int) | some i=>max 0 (min (if i<0 then i+(n:Int) else i) (n:Int))) 1=_
 rw [FU lo n 0,FU hi n n]
 unfold sliceRange
 simp only [h1,if_true]
 have e3:(if ((HT.sIx n 0 lo:Nat):Int)<((HT.sIx n n hi:Nat):Int) then (((HT.sIx n n hi:Nat):Int) - ((HT.sIx n 0 lo:Nat):Int)+1 - 1) / 1 else 0).toNat=HT.sIx n n hi - HT.sIx n 0 lo:=by
  rw [Int.ediv_one];split <;> omega
 rw [e3]
 exact eY fun k _=>by omega
theorem Y7 (z:Str)(lo hi:Option Int):Txt.slice z lo hi=vo z lo hi:=by
 unfold Txt.slice vo
 rw [Eg,Yu]
 have hn:z.cps.toList.length=z.length:=by simp [dm]
 have a:=HT.sIx_le z.length 0 (cb _) lo
 have b:=HT.sIx_le z.length z.length (aL _) hi
 split
 ·rename_i h
  rw [ap,cC] at h
  have h:HT.sIx z.length z.length hi - HT.sIx z.length 0 lo=z.length:=by simpa using h
  by_cases h0:z.length=0
  ·have:z.cps.toList=[]:=fv.mp (by rw [hn];exact h0)
   obtain ⟨⟨l⟩⟩:=z
   simp at this ⊢
   rw [this];simp
  ·have e0:HT.sIx z.length 0 lo=0:=by omega
   rw [h,e0,i7,<- hn,eS]
 ·rfl
section
variable {X:Cx}
noncomputable def Mw:V->Option Int->Option Int->Hp->VK->Prop:=fun x lo hi H Q=>∃ z,x=.str z/\z.length<=aT/\Q (.str (vo z lo hi)) H
theorem Z8 {v:am}{o:Option Int}(p:IsPart v o):∃ l:Option (Int × Tok),v=partValue l/\l.map (·.1)=o:=by
 cases p with
 | none=>exact ⟨none,rfl,rfl⟩
 | int i t=>exact ⟨some (i,t),rfl,rfl⟩
theorem Bt:SlR X Mw:=by
 intro pins s σ H x v vl vu lo hi sl Q I rx hs pl pu h
 obtain ⟨z,rfl,hz,q⟩:=h
 obtain ⟨t,rfl⟩:=rx
 obtain ⟨l,rfl,rfl⟩:=Z8 pl
 obtain ⟨u,rfl,rfl⟩:=Z8 pu
 refine ⟨"str",_,F.slot_str_getitem.lookup,fV _ _ _,?_⟩
 refine wpAny_getItem_str_slice (l:=l) (u:=u) (st:=none) hs rfl ?_
 refine post_val_or_str ?_
 refine ⟨bu (Txt.slice_le z _ _) hz,fun t' k=>?_⟩
 refine ⟨.str (vo z (l.map (·.1)) (u.map (·.1))),H,I.tok _,⟨t',?_⟩,q⟩
 rw [<- Y7];rfl
end
noncomputable def Itx (z:Str):It:=⟨fun i _=>i<z.cps.size,fun i H x H'=>H'=H/\∃ c,z.cps[i]?=some c/\x=.str ⟨#[c]⟩,fun i _=>z.cps.size<=i⟩
variable {K:au}
theorem AQ {P:bf}{w:bC} {tg:Expr}(z:Str)(t:Tok)(it:aE):ZK P w K tg (Itx z) [it] it (fun i h=>h.IsStrIter it "str_ascii_iterator" z t i) where
 mem:=by simp
 obj:=fun i h st b hb=>by
  have e:b=it:=by simpa using hb
  subst e
  obtain ⟨o,e,c,d⟩:=st
  exact ⟨o,e,fun v z=>by rw [d] at z;cases z⟩
 keep:=fun i h h' st k=>by obtain ⟨o,e,r⟩:=st;exact ⟨o,k it (by simp) o e,r⟩
 item:=by
  intro X hP hw hK hc i pins s σ H E I hf st hg
  subst hP hw hK
  obtain ⟨c,hx⟩:∃ c,z.cps[i]?=some c:=⟨_,Array.getElem?_eq_getElem hg⟩
  obtain ⟨f0,f1,f2,f3,f4,f5⟩:=hf it (by simp)
  refine wpAny_pyNext_ascii_item st hx fun h' st' sb=>?_
  have I1:Inv X pins σ H { s with heap:=h',toks:=s.toks+1 }:=I.turned (fun b o hb e=>(sb.2 b hb).trans e) f0 f1 f3 f4 f5
  obtain ⟨o,e,c1,d⟩:=id st'
  exact ⟨_,rfl,Xl (s:={ s with heap:=h',toks:=s.toks+1 }) e c1 d (by decide) ⟨.str ⟨#[c]⟩,H,I1,⟨_,rfl⟩,⟨rfl,c,hx,rfl⟩,st',fun b hb=>(hf b hb).1⟩⟩
 done:=by
  intro X hP hw hK hc i pins s σ H E I hf st hg
  subst hP hw hK
  obtain ⟨f0,f1,f2,f3,f4,f5⟩:=hf it (by simp)
  exact wpAny_pyNext_ascii_end (I.ok.hd hc) st (Array.getElem?_eq_none hg) fun h' eb=>⟨rfl,I.turned (t':=s.toks) (fun b o hb e=>eb b o hb e) f0 f1 f3 f4 f5⟩
 self:=fun _ _ _ _ _ st h=>wpAny_pyIter_striter_ascii st h
def QF (z:Str):Prop:=z.cps.all (·<128)=true
noncomputable def L7 (te:TE):TI:=fun σ H R=>te σ H fun x H1=>∃ z,x=.str z/\QF z/\R (Itx z) H1
section
variable {X:Cx}{tg:Expr}
theorem W2 {l:Expr}{tl:TE}(hl:PE X l tl):PI X tg l (L7 tl):=by
 intro pins s σ H R I h
 refine thn (hl pins s σ H _ I h) fun v s1 ⟨x,H1,I1,r1,q1⟩=>?_
 obtain ⟨z,e,ha,q⟩:=q1
 subst e
 obtain ⟨t,rfl⟩:=r1
 refine wpAny_pyIter_ascii ha ?_
 refine ⟨s1.heap.objs.size,[s1.heap.objs.size],_,_,H1,rfl,I1.kept (t':=s1.toks) fun b o e=>aG _ e,AQ z t _,⟨_,aY _ rfl,rfl,rfl⟩,fun b hb=>?_,q⟩
 have e:b=s1.heap.objs.size:=by simpa using hb
 subst e
 exact I1.fpOk (aL _) (I1.hok.fresh (aL _))
end
noncomputable def sgA (z:Str):List AV:=z.cps.toList.map fun c=>.d (.str ⟨#[c]⟩)
theorem AH (z:Str):xy (Itx z) H O M (sgA z) (fun _=>True):=by
 intro H' O' M' fix mst w' hG i
 refine ⟨fun e=>?_,fun y hy=>?_⟩
 ·show z.cps.size<=i
  rw [e,sgA,ap,gA];exact aL _
 ·unfold sgA at hy
  rw [aK] at hy
  obtain ⟨c,hc,rfl⟩:=cw.mp hy
  rw [fS] at hc
  refine ⟨(Array.getElem?_eq_some_iff.mp hc).1,fun u H'' hz=>?_⟩
  obtain ⟨rfl,c',hc',rfl⟩:=hz
  rw [hc] at hc'
  cases hc'
  exact ⟨.refl,w',.str⟩
noncomputable def LZ (a:AE):AI:=fun ρ M R=>a ρ M fun x M1=>∃ z,x=.d (.str z)/\QF z/\R (sgA z) (fun _=>True) M1
variable {t:TE} {a:AE}
theorem Ej (h:zz t a):Zk (L7 t) (LZ a):=⟨fun w e q k=>h.go w e q fun x M1 v H1 O1 ⟨z,hl,ha,q1⟩ k1 w1 r1=>by
 subst hl
 exact ⟨z,zR r1,ha,k _ _ _ _ _ _ q1 k1 w1 (AH z)⟩⟩
noncomputable def Fj (a:AE)(lo hi:AO):AE:=fun ρ M Q=>a ρ M fun x M1=>lo ρ M1 fun i M2=>hi ρ M2 fun j M3=>∃ z,x=.d (.str z)/\z.length<=aT/\Q (.d (.str (vo z i j))) M3
theorem Ag {tl th:TO} {lo hi:AO}(h1:zz t a)(h2:Y2 tl lo)(h3:Y2 th hi):zz (tSl Mw t tl th) (Fj a lo hi):=
 ⟨fun w e q k=>h1.go w e q fun x M1 v H1 O1 q1 k1 w1 r1=>h2.go w1 (e.ext k1) q1 fun i M2 H2 O2 q2 k2 w2=>h3.go w2 (e.ext (k1.trans k2)) q2 fun j M3 H3 O3 q3 k3 w3=>by
  obtain ⟨z,rfl,hz,q4⟩:=q3
  exact ⟨z,zR r1,hz,k _ _ _ _ _ q4 ((k1.trans k2).trans k3) w3 .str⟩⟩
noncomputable def Lu:AR2:=fun x y M Q=>∃ z i c,x=.d (.str z)/\y=.d (.int i)/\z.length<=aT/\atI z.cps.toList i=some c/\Q (.d (.str ⟨#[c]⟩)) M
theorem Da:xZ F9 Lu:=⟨fun w r1 r2 ⟨z,i,c,e1,e2,hz,hc,q⟩ k=>by
 subst e1 e2
 exact ⟨z,i,c,zR r1,zI r2,hz,hc,k _ _ _ _ _ q .refl w .str⟩⟩
noncomputable def Fs:List V->Hp->VK->Prop:=fun xs H Q=>∃ z,xs=[.str z]/\z.length<=aT/\Q (.int z.length) H
noncomputable def Fh:List AV->MH->AK->Prop:=fun xs M Q=>∃ z,xs=[.d (.str z)]/\z.length<=aT/\Q (.d (.int z.length)) M
variable {X:Cx}
theorem xO:qB X (.builtin "len") Fs:=ZG
theorem YS:xp Fs Fh:=⟨fun {vs xs H O M Q Q'} w r q k=>by
 obtain ⟨z,rfl,hz,q⟩:=q
 obtain ⟨v1,r',rfl,a1,r2⟩:=r.cons_inv
 rw [r2.nil_inv,zR a1]
 exact ⟨z,rfl,hz,k _ _ _ _ _ q .refl w .int⟩⟩
open Builtin Builtin.Str
section
variable {X:Cx}
noncomputable def BN:V->List V->Hp->VK->Prop:=fun x xs H Q=>∃ z c,x=.str z/\xs=[.str ⟨#[c]⟩]/\z.length+10<=aT/\∀ p,H p=none->Q (.ref p) (upd H p (.lst ((Txt.split z ⟨#[c]⟩).map V.str)))
theorem wC:∀ l:List (cf × Tok),zx ((l.map (·.1)).map V.str) (mK l)
 | []=>.nil
 | (x,t) :: r=>.cons ⟨t,rfl⟩ (wC r)
theorem X0 (z y:cf):(partsBetween z (occurrences z y 0 z.length (z.length+1)) y.length).length<=z.length+2:=by
 unfold partsBetween
 rw [ap,List.length_zip,aV,ap,aQ]
 have:=StrLaws.occ_length_le_len z y 0 z.length (z.length+1)
 omega
theorem QG:MtR X "str.split" BN:=by
 intro pins s σ H x xs v us Q I rx rs h
 obtain ⟨z,c,rfl,rfl,hz,q⟩:=h
 obtain ⟨t,rfl⟩:=rx
 obtain ⟨u,rfl,u',rfl⟩:=qT rs
 have hy:((⟨#[c]⟩:cf).length == 0)=false:=rfl
 have pl:=X0 z ⟨#[c]⟩
 have fin:∀ (l:List (cf × Tok)) (k:Nat),l.map (·.1)=Txt.split z ⟨#[c]⟩->l.length<=aT ->
   EP X pins σ Q (.ref s.heap.objs.size) { s with toks:=k,heap:=s.heap.push { cls:=.type "list",data:=.seq (mK l).toArray } }:=fun l k e hl=>by
  refine ⟨.ref s.heap.objs.size,_,I.laid (o:=.lst ((Txt.split z ⟨#[c]⟩).map V.str)) (fun b o e=>aG _ e) (aL _) ?_,rfl,q _ (I.hok.fresh (aL _))⟩
  show zS X.prog X.w _ _ _ (.lst _)
  rw [<- e]
  exact ⟨by rw [ap,ap];exact hl,mK l,0,wC l,aY _ rfl⟩
 cases h1:(decide (z.length<(⟨#[c]⟩:cf).length) || decide (strKind z<strKind ⟨#[c]⟩))
 ·cases hf:(occurrences z ⟨#[c]⟩ 0 z.length (z.length+1)).isEmpty
  ·refine eK F.slot_str_split (fV _ _ _) F.entry_str_split (F.args_str_split_2 _ _) (meets_str_split_sep z ⟨#[c]⟩ t u' h1 hy hf (by omega) (by omega)) ?_
   show EP X pins σ Q _ _
   rw [strsFrom_eq]
   exact fin (numbered s.toks _) _ ((numbered_texts _ _).trans ((if_neg (ne_true_of_eq_false h1)).trans (if_neg (ne_true_of_eq_false hf))).symm) (by
    have:=congrArg gk (numbered_texts s.toks (partsBetween z (occurrences z ⟨#[c]⟩ 0 z.length (z.length+1)) (⟨#[c]⟩:cf).length))
    rw [ap] at this
    rw [this];omega)
  ·refine eK F.slot_str_split (fV _ _ _) F.entry_str_split (F.args_str_split_2 _ _) (meets_str_split_not_found z ⟨#[c]⟩ t u' h1 hy hf) ?_
   exact fin [(z,t)] s.toks ((if_neg (ne_true_of_eq_false h1)).trans (if_pos hf)).symm (by show 1<=_;decide)
 ·refine eK F.slot_str_split (fV _ _ _) F.entry_str_split (F.args_str_split_2 _ _) (meets_str_split_cannot_occur z ⟨#[c]⟩ t u' h1) ?_
  exact fin [(z,t)] s.toks (if_pos h1).symm (by show 1<=_;decide)
noncomputable def K1:V->List V->Hp->VK->Prop:=fun x xs H Q=>∃ z y,x=.str z/\xs=[.str y]/\Q (.bl (fN z y)) H
theorem Yt:MtR X "str.startswith" K1:=by
 intro pins s σ H x xs v us Q I rx rs h
 obtain ⟨z,y,rfl,rfl,q⟩:=h
 obtain ⟨t,rfl⟩:=rx
 obtain ⟨u,rfl,u',rfl⟩:=qT rs
 exact SC.startswith ⟨.bl (fN z y),H,I,rfl,q⟩
noncomputable def yk (sep:cf)(l:List cf):Nat:=(l.map (·.length)).sum+l.length * sep.length
noncomputable def Fw (K:au):V->List V->Hp->VK->Prop:=fun x xs H Q=>∃ z l p,x=.str z/\xs=[.ref p]/\SqL K H p (l.map V.str)/\yk z l<=aT/\Q (.str (cf.join z l)) H
theorem y8:∀ {l:List cf} {us:List am},zx (l.map V.str) us->∃ m:List (cf × Tok),us=mK m/\m.map (·.1)=l
 | [],us,r=>by cases r;exact ⟨[],rfl,rfl⟩
 | x :: l,us,r=>by
  cases r with
  | cons a b=>
   obtain ⟨t,rfl⟩:=a
   obtain ⟨m,rfl,rfl⟩:=y8 b
   exact ⟨(x,t) :: m,rfl,rfl⟩
theorem xr:MtR X "str.join" (Fw X.K):=by
 intro pins s σ H x xs v us Q I rx rs h
 obtain ⟨z,l,p,rfl,rfl,hp,hw,q⟩:=h
 obtain ⟨t,rfl⟩:=rx
 obtain ⟨u,rfl,ru⟩:=qT rs
 cases ru
 obtain ⟨its,rv,pl,hz⟩:=I.list hp
 obtain ⟨m,rfl,rfl⟩:=y8 rv
 have ht:=StrLaws.joinTotal z (m.map (·.1))
 have hl:tooLong ((m.map (·.1)).toArray.foldl (·+·.length+z.length) 0)=false:=by
  rw [ht];exact decide_eq_false (by unfold yk at hw;omega)
 refine eK F.slot_str_join (fV _ _ _) F.entry_str_join (F.args_str_join_2 _ _) (meets_str_join_list z t p m hl) ⟨pl.isList,?_⟩
 have fin:∀ t' k,EP X pins σ Q (.str (cf.join z (m.map (·.1))) t') { s with toks:=k }:=fun t' k=>⟨.str (cf.join z (m.map (·.1))),H,I.tok _,⟨t',rfl⟩,q⟩
 have e:=StrLaws.glued_eq_join z (m.map (·.1))
 have hlen:=StrLaws.join_length_le z (m.map (·.1))
 have hlen:(cf.join z (m.map (·.1))).length<=aT:=bu hlen hw
 have big:(Made.str (glued z (m.map (·.1)))).post (fun v s'=>EP X pins σ Q v s') s:=by
  rw [e];exact ⟨hlen,fin _ _⟩
 match m,fin,big with
 | [],_,big=>exact big
 | [p],fin,_=>exact fin p.2 s.toks
 | _ :: _ :: _,_,big=>exact big
end
section
variable {X:Cx}
noncomputable def Fv:List V->Hp->VK->Prop:=fun xs H Q=>∃ z n,xs=[.str z]/\z.length<=640/\dU z=some n/\Q (.int n) H
theorem Y5:qB X (.type "int") Fv:=by
 intro pins s σ H xs us Q I r h
 obtain ⟨z,n,rfl,hz,hn,q⟩:=h
 obtain ⟨u,rfl,t,rfl⟩:=qT r
 exact PySem.W.KIN.call_text hn hz ⟨.int n,H,I.tok _,⟨_,rfl⟩,q⟩
noncomputable def MC:R2:=fun x y H Q=>∃ c z,x=.str ⟨#[c]⟩/\y=.str z/\Q (.bl (decide (c ∈ z.cps.toList))) H
theorem V9:OpR X (cP .In) MC:=by
 intro pins s σ H x y v u Q I rx ry h
 obtain ⟨c,z,rfl,rfl,q⟩:=h
 exact XJ pins s σ H _ _ v u Q I rx ry ⟨_,_,rfl,rfl,by rw [StrLaws.found_one];exact q⟩
end
section
variable {X:Cx}
noncomputable def Fk:R2:=fun x y H Q=>∃ z n,x=.str z/\y=.int n/\MulOk z n/\Q (.str (eT z n)) H
theorem K2:OpR X (e9 .Mult) Fk:=by
 intro pins s σ H x y v u Q I rx ry h
 obtain ⟨z,n,rfl,rfl,hz,q⟩:=h
 obtain ⟨t,rfl⟩:=rx
 obtain ⟨t',rfl⟩:=ry
 exact SB.mul hz fun t' k=>⟨.str (eT z n),H,I.tok _,⟨_,rfl⟩,q⟩
end
noncomputable def Lp (r:AV->List AV->MH->AK->Prop)(a:AE)(b:AA):AE:=fun ρ M Q=>a ρ M fun x M1=>(∃ z,x=.d (.str z))/\b ρ M1 fun xs M2=>r x xs M2 Q
variable {u:TA} {b:AA}
theorem E4 {r:V->List V->Hp->VK->Prop}{ra:AV->List AV->MH->AK->Prop} (hr:Qq r ra)(h1:zz t a)(h2:qW u b):zz (tBM K "str" r t u) (Lp ra a b):=
 ⟨fun w e q k=>h1.go w e q fun x M1 v H1 O1 ⟨⟨z,hz⟩,q1⟩ k1 w1 r1=>by
  subst hz
  rw [zR r1]
  exact ⟨rfl,h2.go w1 (e.ext k1) q1 fun y M2 u H2 O2 q2 k2 w2 r2=>hr.go w2 (show zo H2 O2 M2 (.str z) (.d (.str z)) from .str) r2 q2 fun z M3 v3 H3 O3 q3 k3 w3 r3=>k _ M3 v3 H3 O3 q3 ((k1.trans k2).trans k3) w3 r3⟩⟩
noncomputable def A9:AV->List AV->MH->AK->Prop:=fun x xs M Q=>∃ z c,x=.d (.str z)/\xs=[.d (.str ⟨#[c]⟩)]/\z.length+10<=aT/\Q (.d (.lst ((Txt.split z ⟨#[c]⟩).map .str))) M
theorem XM (l:List cf):JZ H O (l.map V.str) (l.map Dat.str):=⟨by rw [ap,ap],fun i x d h1 h2=>by
 rw [aK] at h1 h2
 obtain ⟨a,ha,rfl⟩:=cw.mp h1
 rw [ha] at h2
 cases h2
 exact .str⟩
theorem Yp:Qq BN A9:=⟨fun w r1 r2 ⟨z,c,e1,e2,hz,q⟩ k=>by
 subst e1 e2
 obtain ⟨v,rfl,rv⟩:=qD r2
 rw [zR r1,zR rv]
 refine ⟨z,c,rfl,rfl,hz,fun p hp=>?_⟩
 exact k _ _ _ _ _ q (qx w hp _) (xS w hp _) (show Rep _ _ _ _ from Rep.lst (w.fresh hp).1 zi (by rw [ap,ap]) (fun i x d h1 h2=>(XM _).2 i x d h1 h2))⟩
noncomputable def Xb:AV->List AV->MH->AK->Prop:=fun x xs M Q=>∃ z y,x=.d (.str z)/\xs=[.d (.str y)]/\Q (.d (.bl (fN z y))) M
theorem JL:Qq K1 Xb:=⟨fun w r1 r2 ⟨z,y,e1,e2,q⟩ k=>by
 subst e1 e2
 obtain ⟨v,rfl,rv⟩:=qD r2
 rw [zR r1,zR rv]
 exact ⟨z,y,rfl,rfl,k _ _ _ _ _ q .refl w .bl⟩⟩
noncomputable def Fg:AV->List AV->MH->AK->Prop:=fun x xs M Q=>∃ z y l,x=.d (.str z)/\xs=[y]/\qi y M=some (l.map fun s=>.d (.str s))/\yk z l<=aT/\Q (.d (.str (cf.join z l))) M
theorem QL {H:Hp}{O:Own}{M:MH}:∀ {l:List cf} {xs:List V},zh H O M xs (l.map fun s=>.d (.str s))->xs=l.map V.str
 | [],xs,r=>r.nil_inv
 | s :: l,xs,r=>by
  obtain ⟨x,r',rfl,a,b⟩:=r.cons_inv
  rw [zR a,QL b];rfl
theorem Wb:Qq (Fw K) Fg:=⟨fun w r1 r2 ⟨z,y,l,e1,e2,hy,hw,q⟩ k=>by
 subst e1 e2
 obtain ⟨v,rfl,rv⟩:=qD r2
 obtain ⟨a,xs,rfl,hx,rx⟩:=qg w rv hy
 rw [QL rx] at hx
 rw [zR r1]
 exact ⟨z,l,a,rfl,rfl,SqL.of hx,hw,k _ _ _ _ _ q .refl w .str⟩⟩
noncomputable def FS:List AV->MH->AK->Prop:=fun xs M Q=>∃ z n,xs=[.d (.str z)]/\z.length<=640/\dU z=some n/\Q (.d (.int n)) M
theorem XU:xp Fv FS:=⟨fun {vs xs H O M Q Q'} w r q k=>by
 obtain ⟨z,n,rfl,hz,hn,q⟩:=q
 obtain ⟨v1,r',rfl,a1,r2⟩:=r.cons_inv
 rw [r2.nil_inv,zR a1]
 exact ⟨z,n,rfl,hz,hn,k _ _ _ _ _ q .refl w .int⟩⟩
noncomputable def L8:AR2:=fun x y M Q=>∃ c z,x=.d (.str ⟨#[c]⟩)/\y=.d (.str z)/\Q (.d (.bl (decide (c ∈ z.cps.toList)))) M
theorem D0:xZ MC L8:=⟨fun w r1 r2 ⟨c,z,e1,e2,q⟩ k=>by
 subst e1 e2
 exact ⟨c,z,zR r1,zR r2,k _ _ _ _ _ q .refl w .bl⟩⟩
noncomputable def FX:AR2:=fun x y M Q=>∃ z n,x=.d (.str z)/\y=.d (.int n)/\MulOk z n/\Q (.d (.str (eT z n))) M
theorem VQ:xZ Fk FX:=⟨fun w r1 r2 ⟨z,n,e1,e2,hz,q⟩ k=>by
 subst e1 e2
 exact ⟨z,n,zR r1,zI r2,hz,k _ _ _ _ _ q .refl w .str⟩⟩
noncomputable def LO (kvs:List (Key × V))(ty:TE):TE:=fun σ H Q=>ty σ H fun y H2=>∃ k,y=kV k/\Q (.bl (jk kvs k).isSome) H2
noncomputable def HC (kvs:List (Key × V))(ty:TE):TE:=fun σ H Q=>ty σ H fun y H2=>∃ k v,y=kV k/\jk kvs k=some v/\Q v H2
section
variable {X:Cx}{e:Expr}{ty:TE}{p pos:Pos}{x:Str}{a:aE}{kvs:List (Key × V)}
theorem Gb (d:KD X.K X.w a kvs)(hg:Gl X x)(hm:X.mg x=some (.ref a))(he:PE X e ty)(hdb:(x == ("__debug__":Str))=false:=by decide):PC X .In e (.Name x p) (LO kvs ty):=by
 intro pins s σ H Q I h
 refine thn (he pins s σ H _ I h) fun iv s1 ⟨y,H1,I1,ry,k,ey,q⟩=>?_
 refine jd I1 hg hm ?_ hdb
 subst ey
 obtain ⟨vs,rel,dd⟩:=d.at I1
 refine wpAny_in_of (BD ry) d.ns dd.mapOf ?_
 rw [<- (rel.val k).isSome_eq]
 exact ⟨.bl (jk kvs k).isSome,H1,I1.tok _,rfl,q⟩
theorem VT (d:KD X.K X.w a kvs)(hg:Gl X x)(hm:X.mg x=some (.ref a))(he:PE X e ty)(hs:LY e)(hdb:(x == ("__debug__":Str))=false:=by decide):PE X (.Subscript (.Name x p) e pos) (HC kvs ty):=by
 intro pins s σ H Q I h
 refine BW PySem.F.slot_dict_getitem.lookup hs (jd I hg hm (thn (he pins s σ H _ I h) fun iv s2 ⟨y,H2,I2,ry,k,v,ey,hv,q2⟩=>?_) hdb)
 subst ey
 obtain ⟨vs,rel,dd⟩:=d.at I2
 obtain ⟨w',hw,rw'⟩:=ka.some_of (v:=v) (o:=lq vs k) (by rw [<- hv];exact rel.val k)
 exact ⟨dd.typeIs,wpAny_getItem_of (BD ry) dd.mapOf hw ⟨v,H2,I2.tok _,rw',q2⟩⟩
end
noncomputable def JB (T:List (aE × Sp))(i:Nat)(t:TA):TE:=fun σ H Q=>∃ f sp,σ[i]?=some (some (.ref f))/\(f,sp) ∈ T/\t σ H fun vs H1=>sp vs H1 Q E0
def FnT (P:bf)(w:bC)(K:au)(mg:Str->Option am)(base:Heap)(ps:List Str)(k:Nat)(T:List (aE × Sp)):Prop:=
 ∀ f sp,(f,sp) ∈ T->∃ fd,qS P w K mg base CX0 k f fd ps sp/\ja K fd ps []/\cF K (.ref f)=true
section
variable {X:Cx}{e:Expr}{es:List Expr}{t:TA}{p pos:Pos}{x:Str}{i k:Nat}{ps:List Str}{T:List (aE × Sp)}
theorem Qa (D:FnT X.prog X.w X.K X.mg X.base ps k T)(hr:qj k X.A)(hv:PE X (.Name x p) (XR i))(ha:PA X (e :: es) t)(he:bi (e :: es) X.env=(false,eval e X.env) :: bi es X.env:=by rfl)(hpl:(cT pos (bi es X.env)).any (·.1)=false:=by rfl) :
  PE X (.Call (.Name x p) (e :: es) [] pos) (JB T i t):=by
 intro pins s σ H Q I h
 obtain ⟨f,sp,hi,hf,h⟩:=h
 obtain ⟨fd,F,b,kp⟩:=D f sp hf
 refine dw (thn (hv pins s σ H (fun y H0=>y=.ref f/\H0=H) I ⟨_,hi,rfl,rfl⟩) fun u s0 ⟨y,H0,I0,ry,q0,e0⟩=>?_)
 subst q0 e0
 obtain rfl:u=am.ref f:=ry
 refine d8 (h₀:=X.base) I0.ok.mod.kin kp (thn (ha pos pins s0 σ H0 _ I0 h) fun us s1 ⟨vs,H1,I1,r,q⟩=>⟨I1.kIn,?_⟩) he hpl
 exact ZR F hr b .nil Ql I1 r (by rw [b9];exact q)
end
noncomputable def LK (kvs:List (Key × V))(a:AE):AE:=fun ρ M Q=>a ρ M fun y M2=>∃ z,y=.d (.str z)/\Q (.d (.bl (jk kvs (.inr z)).isSome)) M2
variable {kvs:List (Key × V)}
theorem D6 (h:zz t a):zz (LO kvs t) (LK kvs a):=⟨fun w e q k=>h.go w e q fun y M1 v H1 O1 ⟨z,ez,q1⟩ k1 w1 r1=>by
 subst ez
 exact ⟨.inr z,zR r1,k _ _ _ _ _ q1 k1 w1 .bl⟩⟩
def wm (kvs:List (Key × V))(T:List (aE × Sp))(tb:cf->Option ASp):Prop:=∀ z sp,tb z=some sp->∃ f,jk kvs (.inr z)=some (.ref f)/\(f,cSp sp) ∈ T
noncomputable def Ap (tb:cf->Option ASp)(a:AE)(b:AA)(i:Nat):AS:=fun _ D ρ M=>a ρ M fun y M1=>∃ z sp,y=.d (.str z)/\tb z=some sp/\b (ρ.set i none) M1 fun xs M2=>sp xs M2 D.rt
variable {T:List (aE × Sp)} {tb:cf->Option ASp} {i:Nat} {ty:TE} {ay:AE}
theorem XI {t:TA} (ht:wm kvs T tb)(h1:zz ty ay)(h2:qW t b) :
  qK (J3 (vJ (HC kvs ty) (yq i)) (Dn (JB T i t))) (fun B D ρ M=>i<ρ.length/\Ap tb ay b i B D ρ M):=⟨fun {H0 O0 M0 D D' σ H O ρ M} w0 w e x q E=>by
 obtain ⟨hi,q⟩:=q
 refine h1.go w e q fun y M1 v H1 O1 ⟨z,sp,ez,hz,q1⟩ k1 w1 r1=>?_
 subst ez
 obtain ⟨f,hf,hT⟩:=ht z sp hz
 refine ⟨.inr z,.ref f,zR r1,hf,f,cSp sp,by rw [dZ (by rw [e.len];exact hi)],hT,?_⟩
 refine h2.go w1 ((e.ext k1).setN _ i) q1 fun xs M2 vs H2 O2 q2 k2 w2 r2=>?_
 exact ⟨xs,M2,O2,_,w2,r2,q2,fun x3 M3 v3 H3 O3 q3 k3 w3 r3=>E.rt _ _ _ _ _ w3 ((x.trans k1).trans (k2.trans k3)) r3 q3⟩⟩
noncomputable def Af (tb:cf->Option ASp)(a:AE)(b:AA)(i j:Nat)(r:AS):AS:=fun B D ρ M=>i<ρ.length/\a ρ M fun y M1=>∃ z sp,y=.d (.str z)/\tb z=some sp/\b (ρ.set i none) M1 fun xs M2=>sp xs M2 fun u M3=>r B D ((ρ.set i none).set j (some u)) M3
theorem X5 {i j:Nat} {t:TA} {u:TS}{r:AS}(ht:wm kvs T tb)(h1:zz ty ay)(h2:qW t b)(h3:qK u r) :
  qK (J3 (vJ (HC kvs ty) (yq i)) (J3 (vJ (JB T i t) (yq j)) u)) (Af tb ay b i j r):=⟨fun {H0 O0 M0 D D' σ H O ρ M} w0 w e x q E=>by
 obtain ⟨hi,q⟩:=q
 refine h1.go w e q fun y M1 v H1 O1 ⟨z,sp,ez,hz,q1⟩ k1 w1 r1=>?_
 subst ez
 obtain ⟨f,hf,hT⟩:=ht z sp hz
 refine ⟨.inr z,.ref f,zR r1,hf,f,cSp sp,by rw [dZ (by rw [e.len];exact hi)],hT,?_⟩
 refine h2.go w1 ((e.ext k1).setN _ i) q1 fun xs M2 vs H2 O2 q2 k2 w2 r2=>?_
 refine ⟨xs,M2,O2,_,w2,r2,q2,fun x3 M3 v3 H3 O3 q3 k3 w3 r3=>?_⟩
 exact h3.go w0 w3 ((((e.ext k1).setN _ i).ext (k2.trans k3)).set r3 j) ((x.trans k1).trans (k2.trans k3)) q3 E⟩
noncomputable def Xo (K:au)(a b:AE)(f:cf):AS:=fun _ D ρ M=>a ρ M fun x M1=>∃ p C fs i,x=.ref p/\M1 p=some (.ins C fs)/\Cls K C/\qE K C f/\fs.lookup f=some (.d (.int i)) /\
 b ρ M1 fun y M2=>∃ j fs',y=.d (.int j)/\M2 p=some (.ins C fs')/\fs'.length<1000/\D.nx ρ (mup M2 p (.ins C (qV f (.d (.int (i+j))) fs')))
variable {f:cf}
theorem Kk {t u:TE}{a b:AE} (h1:zz t a)(h2:zz u b):qK (XB K t u MJ f) (Xo K a b f):=⟨fun _ w e x q E=>h1.go w e q fun z M1 v H1 O1 q1 k1 w1 r1=>by
 obtain ⟨p,C,fs,i,rfl,hp,c,n,hl,q2⟩:=q1
 obtain ⟨dx,xs,g1,g2,_⟩:=w1.mo p _ hp
 rcases yI g2 f with ⟨_,z⟩ | ⟨u0,z,h3,h4,h5⟩
 ·rw [z] at hl;cases hl
 rw [hl] at h4
 cases h4
 have h5:=zI h5
 subst h5
 refine ⟨p,C,dx,xs,_,r1.1,g1,c,n,h3,h2.go w1 (e.ext k1) q2 fun y M2 v2 H2 O2 q3 k2 w2 r2=>?_⟩
 obtain ⟨j,fs',rfl,hp2,hl2,q4⟩:=q3
 refine ⟨i,j,rfl,zI r2,?_⟩
 obtain ⟨dx',xs',g1',g2',ks,w3⟩:=Xn w2 hp2 f (show zo H2 O2 M2 (.int (i+j)) (.d (.int (i+j))) from .int)
 exact ⟨dx',xs',g1',by rw [g2'];exact hl2,E.nx _ _ _ _ _ w3 ((e.ext k1).ext (k2.trans ks)) ((x.trans k1).trans (k2.trans ks)) q4⟩⟩
structure wH (HX:Hp)(OX:Own)(MX:MH)(t:TE)(a:AE):Prop where
 go:∀ {σ:St} {H:Hp} {O:Own} {ρ:ASt} {M:MH} {Q:VK} {Q':AK},Ext HX OX MX H O M->Wf H O M->Er H O M σ ρ->a ρ M Q'->(∀ x M' v H' O',Q' x M'->Ext H O M H' O' M'->Wf H' O' M'->zo H' O' M' v x->Q v H')->t σ H Q
structure Qn (HX:Hp)(OX:Own)(MX:MH)(t:TA)(a:AA):Prop where
 go:∀ {σ:St} {H:Hp} {O:Own} {ρ:ASt} {M:MH} {Q:List V->Hp->Prop} {Q':List AV->MH->Prop},Ext HX OX MX H O M->Wf H O M->Er H O M σ ρ->a ρ M Q'->(∀ x M' v H' O',Q' x M'->Ext H O M H' O' M'->Wf H' O' M'->zh H' O' M' v x->Q v H')->t σ H Q
section
variable {HX:Hp}{OX:Own}{MX:MH}{E:St->XK}{EA:ASt->AXK}{sp:Zi}{ta:TA}{aa:AA}
theorem Bl (h:zz t a):wH HX OX MX t a:=⟨fun _ w e q k=>h.go w e q k⟩
theorem wu:Qn HX OX MX Qv Jy:=⟨fun _ w e q k=>Xp.go w e q k⟩
theorem Ju (hE:EXs HX OX MX E EA)(hu:qW ta aa):wH HX OX MX (xF (yP sp) E ta) (yb sp EA aa):=⟨fun kx w e q k=>Ji hE hu kx w e q k⟩
theorem kZ (h1:wH HX OX MX t a)(h2:Qn HX OX MX u b):Qn HX OX MX (vA t u) (xh a b):=
 ⟨fun kx w e q k=>h1.go kx w e q fun x M1 v H1 O1 q1 k1 w1 r1=>h2.go (kx.trans k1) w1 (e.ext k1) q1 fun y M2 u H2 O2 q2 k2 w2 r2=>k _ _ _ _ _ q2 (k1.trans k2) w2 (.cons (r1.ext k2) r2)⟩
variable {r:List V->Hp->VK->Prop} {ra:List AV->MH->AK->Prop}
theorem Vx (hr:xp r ra)(h2:Qn HX OX MX u b):wH HX OX MX (tCB r u) (aCB ra b):=
 ⟨fun kx w e q k=>h2.go kx w e q fun x M1 v H1 O1 q1 k1 w1 r1=>hr.go w1 r1 q1 fun z M3 v3 H3 O3 q3 k3 w3 r3=>k z M3 v3 H3 O3 q3 (k1.trans k3) w3 r3⟩
theorem Y1 (h:Qn HX OX MX u b):wH HX OX MX (Wt u) (D1 b):=
 ⟨fun kx w e q k=>h.go kx w e q fun x M1 v H1 O1 q1 k1 w1 r1=>⟨by rw [r1.1];exact q1.1,fun p hp=>by
  obtain ⟨_,ds,e1,q2⟩:=q1
  rw [jA e1] at r1
  have r2:=r1.pure
  exact k _ _ _ _ _ q2 (k1.trans (qx w1 hp _)) (xS w1 hp _) (Rep.tup (w1.fresh hp).1 zi r2.1 fun i x d e1 e2=>(r2.2 i x d e1 e2).ext (qx w1 hp _))⟩⟩
variable {g:TG} {ag:AG}
theorem Yz (h:wH HX OX MX t a)(hg:x9 g ag):kz HX OX MX (vJ t g) (X1 a ag):=
 ⟨fun kx _ w e x q D=>h.go (kx.trans x) w e q fun y M1 v H1 O1 q1 k1 w1 r1=>hg.go w1 (e.ext k1) r1 q1 fun σ2 H2 O2 ρ2 M2 q2 k2 w2 e2=>D.nx _ _ _ _ _ w2 e2 ((x.trans k1).trans k2) q2⟩
theorem Jw {tc:TE}{ac:AE} (hc:zz tc ac)(hr:xp r ra)(hE:EXs HX OX MX E EA)(hu:qW ta aa)(hg:x9 g ag) :
  kz HX OX MX (vJ (Wt (vA tc (vA (tCB r (vA (xF (yP sp) E ta) Qv)) Qv))) g) (X1 (D1 (xh ac (xh (aCB ra (xh (yb sp EA aa) Jy)) Jy))) ag):=
 Yz (Y1 (kZ (Bl hc) (kZ (Vx hr (kZ (Ju hE hu) wu)) wu))) hg
end
theorem W8 {e:Expr}{ta:TE} {pos:Pos} (h:X.K=K)(he:PE X e ta)(hb:dL e f X.env (eval e X.env)=eval e X.env):PE X (.Attribute e f pos) (Ay K ta f):=h ▸ EZ he hb
end L2
namespace Ot
open PySem PySem.Spec PyProof.Rows L2
noncomputable def top (i:Nat):cn:=PySem.Challenge.pw_ownturn_k60_bounds_of_sheets.main.body.getD i (.Pass ⟨0,0,0,0⟩)
section
variable {P:bf}{w:bC}{K:au}{mg:Str->Option am}{base:Heap}{k:Nat}
local macro_rules | `(tactic| walk_at "rd")=>do
 let t:=("A6 J3 Fb Qp tOp tUn rU XR tC tB Ll Mq Xi rI0 rI vJ yq Dn Ao WY BS W0 Hk Ii tCB vA Qv Xm FF Kz DP E2 rNe Hn Wt tBM yK K6 HS XQ JQ F9 wZ Xe Hm IB BI Jx Yv Yf tIf tOr IY Lb HG W5 Zd Bf cxK BO Ft iLT FR ZJ tSl Vd Z1 HY List.append_nil List.getElem?_cons_zero List.getElem?_cons_succ Option.some.injEq exists_eq_left' exists_eq_left V.int.injEq V.ref.injEq V.bl.injEq List.cons.injEq and_true true_and and_assoc decide_eq_true_eq Bool.not_eq_true' decide_eq_false_iff_not Bool.false_eq_true if_false if_true reduceIte exists_and_left exists_and_right List.set_cons_zero List.set_cons_succ List.nil_append List.cons_append".splitOn " ").toArray.map fun s=>(iC s.toName:Lean.Ident)
 `(tactic| try simp only [$[$t:ident],*])
variable {H:Hp}
theorem kg {a b:aE}{o:HO}(h':H b=none)(h:H a=some o):a ≠ b:=zj h h'
variable {H':Hp}
theorem Qm {l:aE}(h:H' l=none)(e:Kp [] H H'):H l=none:=e.free h
variable {a:aE} {xs:List V}
theorem Kx (h:SqL K H a xs)(e:Kp [] H H'):SqL K H' a xs:=by
 rcases h with (h | ⟨o,h⟩) | h
 ·exact .inl (.inl (e _ _ (by simp) h))
 ·exact .inl (.inr ⟨o,e _ _ (by simp) h⟩)
 ·exact .inr h
theorem hsl:100000<aT:=by rw [bY];decide
theorem Ki {α:Type}(k:Nat)(v:α):(aH k [v]).flatten=aH k v:=by simp
variable {j:Int}
theorem jX (i:Int) (h:0<j):0<=i % j/\i % j<j:=⟨Int.emod_nonneg _ (by omega),lT _ h⟩
variable {i:Int}
theorem F6 (h1:0<=i)(h2:i<18446744073709551616):Wj i j:=.inl ⟨by omega,by omega⟩
theorem AJ (h1:0<=j)(h2:j<18446744073709551616):Wj i j:=.inr ⟨by omega,by omega⟩
theorem b01 (c:Prop)[Decidable c]:0<=(if c then (1:Int) else 0):=by split <;> decide
theorem BZ (h1:0<j)(h2:j<1073741824):HU i j:=⟨h1,h2⟩
local macro_rules | `(tactic| walk_at "ne")=>`(tactic| first | (with_reducible assumption) | exact Ne.symm (by with_reducible assumption) | exact kg (by with_reducible assumption) (by walk_at "hp") | exact Ne.symm (kg (by with_reducible assumption) (by walk_at "hp")))
local macro_rules | `(tactic| walk_at "hp")=>`(tactic| first | (with_reducible assumption) | (with_reducible exact zi) | ((with_reducible refine Eq.trans (zg ?ne) ?_);(case ne=>walk_at "ne");walk_at "hp"))
local macro_rules | `(tactic| walk_at "kp")=>`(tactic| first | (with_reducible assumption) | (with_reducible exact Kp.refl) | ((with_reducible refine Kp.trans ?_ (Kp.new _ ?h));(case h=>with_reducible assumption);walk_at "kp") | ((with_reducible refine Kp.trans ?_ (Kp.set _ ?h));(case h=>(simp;done));walk_at "kp"))
local macro_rules | `(tactic| walk_at "fr")=>`(tactic| first | (with_reducible assumption) | exact Qm (by with_reducible assumption) (by walk_at "kp"))
local macro_rules | `(tactic| walk_at "sz")=>`(tactic| (simp only [aV,d9,ap,aQ,cD,ca,cW,jy,Ki,Nat.zero_add,Nat.one_mul];omega))
local macro_rules | `(tactic| walk_at "fact")=>`(tactic| first | (with_reducible assumption) | exact rfl | exact SqL.of (by walk_at "hp") | exact SqT.of (by walk_at "hp") | exact bn (SqL.of (by walk_at "hp")) | exact bq (SqT.of (by walk_at "hp")) | exact bn (by with_reducible assumption) | exact Kx (by with_reducible assumption) (by walk_at "kp") | exact bn (Kx (by with_reducible assumption) (by walk_at "kp")) | exact Exists.intro _ (SqL.of (by walk_at "hp")) | exact Exists.intro _ (Kx (by with_reducible assumption) (by walk_at "kp")) | (walk_at "hp") | decide | omega | exact F6 (by omega) (by omega) | exact AJ (by omega) (by omega) | exact BZ (by omega) (by omega) | exact ⟨by omega,by omega⟩ | (walk_at "sz") | exact ⟨by decide,by decide,by decide⟩ | exact AJ (b01 _) (b01' _) | (walk_at "fr"))
local macro_rules | `(tactic| walk_at "x1")=>`(tactic| first
 | ((with_reducible refine Exists.intro ?w (And.intro ?h ?_));(case h=>walk_at "fact"))
 | ((with_reducible refine And.intro ?h ?_);(case h=>walk_at "fact"))
 | ((with_reducible refine Exists.intro ?w (Exists.intro ?w2 (And.intro ?h ?_)));(case h=>walk_at "fact")))
local macro_rules | `(tactic| walk_at "xs")=>`(tactic| repeat walk_at "x1")
local macro_rules | `(tactic| walk_at "sim1")=>do
 let a←("AU VR W7 Jw Ab QA BC DV Wy VC A7 Bz E5 Xz Ve JK".splitOn " ").toArray.mapM fun s=>`(gy| apply $(iC s.toName))
 let b←("V6 Ec HN Hh HL GF HQ Xp Vz X9 Bo Dc Br Yl DG Hv DD W9 As EY Lc Vt Eu Ge WR Y0 ET WQ Vq B5 W1 JO EM Qf QQ wy sim_setD sim_dupd Q2.cons Q2.nil XI X5 DF DA DU D8 Bh EJ Ya A3 YC WS Aj MK EL Hb Ex HV DC G8 D3 VY E7 Iv YJ WL EK V8 Hy Ag E4 Da YS Yp JL Wb XU D0 sim_ninC VQ D6 Kk Ej DJ GQ QW A5 ZU Ek KY YX En Bk Be Vp Gk YW Gn yE".splitOn " ").toArray.mapM fun s=>`(gy| apply $(iC s.toName))
 `(tactic| first | ((with_reducible apply simX_tryR Xz);intro HX_ OX_ MX_ E_ EA_ hE_) | (with_reducible first $[| $a]*) | ((with_reducible apply D9);intro HX_ OX_ MX_ E_ EA_ hE_) | ((with_reducible apply sim_try0);intro HX_ OX_ MX_ E_ EA_ hE_) | (with_reducible assumption) | (with_reducible first $[| $b]*))
local macro_rules | `(tactic| walk_at "sim")=>`(tactic| repeat' walk_at "sim1")
local macro_rules | `(tactic| walk_at "ra")=>do
 let t:=("Fj Lu Fh Lp A9 Xb Fg FS L8 FX LK Ap Af Xo LZ MI F1 Fy KS Fu Fx FG qV Fi yb MM Fe QS aC aOp aUn Jy xh aCB VA aFz aOw Me D1 aB wL Mo aOr IJ Fz LC aIf Wk Ky Jp Ff HM EH VS jC Fq Jn FY AL asL X1 HJ aiS Lg aiE LM yN WH aI aI0 aU MB aIx fOp IQ GC Lm F0 fSl Xh Li Il bI2 FV BF fCB Mp F4 FK L9 FZ VN aBM LF F2 K5 LQ Ds G5 AW Ht Bd HF Mt LB Ln L6 Ma MF BB Yo Option.map_some ID G7 HK GV BP WG Hc Iy He GK Ik F8 G6 GN HB Gc Iu GI Ij IN GX Hl G4 Io Ib IX Gf GD IH IF Hd Gi Iz Hx Gp Ho DE X7 qd jh DZ wG FT F5 HH Hj EV DR El Dk EB EF E8 Jr Mg ZL WE GB Kg ZC GR VF Gg Iq Gr Ia Hi id decide_true decide_false Bool.decide_eq_true not_true_eq_false not_false_eq_true yC List.getElem?_cons_zero List.getElem?_cons_succ Option.some.injEq exists_eq_left' exists_eq_left AV.d.injEq AV.ref.injEq Dat.int.injEq Dat.bl.injEq Dat.str.injEq Dat.lst.injEq Dat.tup.injEq Dat.ty.injEq List.cons.injEq and_true true_and and_assoc decide_eq_true_eq Bool.not_eq_true' decide_eq_false_iff_not Bool.false_eq_true if_false if_true reduceIte exists_and_left exists_and_right List.set_cons_zero List.set_cons_succ List.nil_append List.cons_append List.length_map List.map_cons List.map_nil Nat.zero_le Bool.not_true Bool.not_false Bool.true_eq_false eq_self List.length_cons List.length_nil".splitOn " ").toArray.map fun s=>(iC s.toName:Lean.Ident)
 `(tactic| try simp only [$[$t:ident],*])
local macro_rules | `(tactic| walk_at "sk")=>`(tactic| (refine zk fun r9 hr9=>?_;walk_at "ra";refine ⟨_,rfl,_,rfl,by rw [ZL];omega,?_⟩;rw [ZC,if_neg (by decide +kernel)];subst hr9))
theorem Q3 (ns:List Int)(lo hi:Option Int):Q6 (ns.map V.int) lo hi=bQ V.int ((ns.drop (HT.sIx ns.length 0 lo)).take (HT.sIx ns.length ns.length hi - HT.sIx ns.length 0 lo)):=by
 unfold Q6
 rw [ap,<- List.map_drop,<- List.map_take]
theorem ZW (cs:List Int)(j:Nat)(v:Int):(cs.map V.int).set j (.int v)=(cs.set j v).map V.int:=by rw [fO]
variable {cs:List Int}
theorem kq {k:Int}(h0:0<=k)(h1:k<cs.length):ixN (cs.map V.int).length k=some k.toNat/\atI (cs.map V.int) k=some (.int (cs.getD k.toNat 0)):=by
 have hk:k.toNat<cs.length:=by omega
 have e1:ixN (cs.map V.int).length k=some k.toNat:=by unfold ixN;rw [ap,if_pos h0,if_pos h1]
 refine ⟨e1,?_⟩
 unfold atI
 rw [e1]
 show (cs.map V.int)[k.toNat]?=_
 rw [aK,aA,aq hk];rfl
theorem xE {ns:List Int}{i:Nat}{x:V}(h:(ns.map V.int)[i]?=some x):x=.int (ns.getD i 0)/\i<ns.length:=by
 rw [aK] at h
 cases e:ns[i]? with
 | none=>rw [e] at h;cases h
 | some v=>
  rw [e] at h
  cases h
  exact ⟨by rw [aA,e];rfl,(aP.mp e).1⟩
variable {p:aE}
theorem Kp.un {bs:List aE} (h:Kp (p :: bs) H H')(hp:H p=none):Kp bs H H':=fun c o n e=>h c o (by
 intro z
 rcases aJ.mp z with z | z
 ·subst z;rw [hp] at e;cases e
 ·exact n z) e
theorem QD (h:SqL K H a xs \/ SqT K H a xs)(e:Kp [] H H'):SqL K H' a xs \/ SqT K H' a xs:=h.imp (fun z=>Hr z e) (fun z=>Ha z e)
noncomputable def rfs (rs:List (aE × List Int)):List V:=rs.map fun r=>V.ref r.1
noncomputable abbrev JT:cn:=top 67
theorem XF:zp ["_law_box_here","_law_many_here","_law_once","_law_found_here"] ["_law_box_here","_law_many_here"] (zd JT):=⟨rfl,rfl,rfl,by decide +kernel,rfl,by decide +kernel,by decide +kernel⟩
noncomputable def Wc:Sp:=fun vs H Q _=>∃ (b:aE) (many:Int) (N:Nat),vs=[.ref b,.int many]/\Bx H b N/\N<1000000000/\0<many/\many<1073741824/\∀ r H',Kp [b] H H'->Bx H' b (N+1)->0<=r->r<many->Q (.int r) H'
theorem D2 (a:At K mg "_law_take" JT)(B:Blt mg):Df P w K mg base "_law_take" ["_law_box_here","_law_many_here"] 1 Wc:=by
 refine vi (k:=0) a XF (fun _ _ _ _ _ _=>Pn2_ fun _ _=>rfl) (fun vs H Q E h=>?_) (fun f cdv A outer s H vs Q E hr h=>?_)
 ·obtain ⟨b,m,N,rfl,_⟩:=h;rfl
 obtain ⟨b,m,N,rfl,⟨x,y,z,hb,hx,hy,hy',hz,hz'⟩,hN,hm,hm',q⟩:=h
 have sc:=XF
 refine ⟨_,(zc (qb (zJ kh (zM qt (pv 0) ze (fun _ _=>rfl)) ze (zy _)) (zc (jN (zn Qo rfl B.divmod Y4 (za (zM qt (pv 0) ze (fun _ _=>rfl)) (za (pv 1) zb))) (jS (K:=K) 2 rfl rfl (zZ (jT (pv 0) ze qu) (zZ (zE (i:=3) sc.nd rfl (by first | exact bn rfl | exact bq rfl)) jV))))
  (zf (zr (pv 3)))) zF)
  (zc (jN (zu qf (zM qt (pv 0) ze (fun _ _=>rfl)) ze) (jT (pv 0) ze qu))
  (zc (zw (i:=2) sc.nd rfl (by first | exact bn rfl | exact bq rfl) (zu jj (zu ky (zu qf (zM qt (pv 0) ze (fun _ _=>rfl)) (zu ky ze (zM qt (pv 0) ze (fun _ _=>rfl)))) (zu qf ze (zM qt (pv 0) ze (fun _ _=>rfl)))) ze))
  (zc (jN (zu jj (zu qf (zu ky (pv 2) (zu qf (zu jj (pv 2) ze) ze)) (zM qt (pv 0) ze (fun _ _=>rfl))) ze) (jT (pv 0) ze qu))
  (zf (zr (zu jj (zu B9 (zu jj (zu ky (zM qt (pv 0) ze (fun _ _=>rfl)) (zu qf (zu jj (zM qt (pv 0) ze (fun _ _=>rfl)) ze) ze)) ze) ze) (pv 1)))))))),?_⟩
 rw [show qF ["_law_box_here","_law_many_here","_law_once","_law_found_here"] [V.ref b,V.int m]=[some (.ref b),some (.int m),none,none] from rfl]
 walk_at "rd"
 walk_at "xs"
 refine Di (fun c=>?_) (fun c=>?_)
 ·walk_at "xs"
  refine fun p hp=>?_
  walk_at "xs"
  refine q _ _ ((Kp.new _ hp).trans (Kp.set _ (by simp))) ⟨_,_,_,zi,Int.ediv_nonneg hx (by omega),hy,hy',hz,by omega⟩ (jX x hm).1 (jX x hm).2
 ·walk_at "xs"
  refine q _ _ ((Kp.set _ (by simp)).trans (Kp.set _ (by simp))) ⟨_,_,_,zi,hx,?_,?_,?_,?_⟩ (jX _ hm).1 (jX _ hm).2
  ·exact (jX _ (by decide)).1
  ·exact Int.lt_trans (jX _ (by decide)).2 (by decide)
  ·omega
  ·omega
noncomputable abbrev VV:cn:=top 66
theorem Wi:zp ["_law_script","_law_k","_law_cell"] ["_law_script","_law_k"] (zd VV):=⟨rfl,rfl,rfl,by decide +kernel,rfl,by decide +kernel,by decide +kernel⟩
noncomputable def FE:Sp:=fun vs H Q _=>∃ (a:aE) (k:Int) (cs:List Int),vs=[.ref a,.int k]/\H a=some (il cs)/\0<=k/\k<=1000/\cs.length<=1000/\∀ p H',Kp [] H H'->H p=none->Bx H' p 0->Q (.ref p) H'
theorem E6 {k:Int}(h0:0<=k):∃ c:Int,atI (cs.map V.int ++ aH (k+1).toNat (V.int 0)) k=some (.int c):=by
 have e:cs.map V.int ++ aH (k+1).toNat (V.int 0)=(cs ++ aH (k+1).toNat 0).map V.int:=by simp
 have ek:k=((k.toNat:Nat):Int):=by omega
 have hk:k.toNat<(cs ++ aH (k+1).toNat (0:Int)).length:=by rw [aQ,cD];omega
 refine ⟨(cs ++ aH (k+1).toNat 0)[k.toNat],?_⟩
 rw [e]
 have q:atI ((cs ++ aH (k+1).toNat (0:Int)).map V.int) ((k.toNat:Nat):Int)=some (.int (cs ++ aH (k+1).toNat 0)[k.toNat]):=BV (by rw [aK,aq hk] <;> rfl)
 rw [<- ek] at q
 exact q
theorem HE (a:At K mg "_law_box" VV)(B:Blt mg):Df P w K mg base "_law_box" ["_law_script","_law_k"] 1 FE:=by
 refine vi (k:=0) a Wi (fun _ _ _ _ _ _=>Pn2_ fun _ _=>rfl) (fun vs H Q E h=>?_) (fun f cdv A outer s H vs Q E hr h=>?_)
 ·obtain ⟨a,k,cs,rfl,_⟩:=h;rfl
 obtain ⟨a,k,cs,rfl,ha,hk,hk',hcs,q⟩:=h
 have sc:=Wi
 have hsl:=hsl
 refine ⟨_,(zc (zw (i:=2) sc.nd rfl (by first | exact bn rfl | exact bq rfl) (zM qt (zu ZZ (pv 0) (zu xc (zK (za ze zb)) (zu qf (pv 1) ze))) (pv 1) (fun _ _=>rfl)))
  (zf (zr (zK (za (zu ky (zn Jh rfl B.abs AC (za (pv 2) zb)) (zL qr rfl B.int jn (za (zX WJ (zn Jh rfl B.abs AC (za (pv 2) zb)) (zu GE ze ze) (zy _)) zb))) (za (zu jj (zu ky (zu qf (zu qf (zu jj (pv 2) ze) (zu ky ze (pv 1))) ze) ze) ze) (za ze zb))))))),?_⟩
 rw [show qF ["_law_script","_law_k","_law_cell"] [V.ref a,V.int k]=[some (.ref a),some (.int k),none] from rfl]
 walk_at "rd"
 walk_at "xs"
 intro p1 hp1
 walk_at "xs"
 intro p2 hp2
 walk_at "xs"
 intro p3 hp3
 simp only [Ki] at hp3 ⊢
 obtain ⟨c,hc⟩:=E6 (cs:=cs) hk
 walk_at "xs"
 intro p4 hp4
 refine q _ _ (by walk_at "kp") (by walk_at "fr") ⟨_,_,_,zi,?_,?_,?_,?_,?_⟩
 ·exact Int.mul_nonneg (by split <;> omega) (b01 _)
 ·exact (jX _ (by decide)).1
 ·exact Int.lt_trans (jX _ (by decide)).2 (by decide)
 ·decide
 ·decide
noncomputable abbrev vh:cn:=top 68
theorem w6:zp ["_law_script","_law_many_here","_law_cells","_law_k","_law_cell"] ["_law_script","_law_many_here"] (zd vh):=⟨rfl,rfl,rfl,by decide +kernel,rfl,by decide +kernel,by decide +kernel⟩
noncomputable def QC (K:au):Sp:=fun vs H Q _=>∃ (a:aE) (m:Int) (ns:List Int),vs=[.ref a,.int m]/\SqL K H a (ns.map V.int)/\0<m/\m<=60/\ns.length<=63/\∀ p H' cs,Kp [] H H'->H p=none->H' p=some (il cs)->cs.length<=1000->Q (.ref p) H'
theorem Yn (a:At K mg "_law_folded" vh)(B:Blt mg):Df P w K mg base "_law_folded" ["_law_script","_law_many_here"] 1 (QC K):=by
 refine vi (k:=0) a w6 (fun _ _ _ _ _ _=>Pn2_ fun _ _=>rfl) (fun vs H Q E h=>?_) (fun f cdv A outer s H vs Q E hr h=>?_)
 ·obtain ⟨a,k,cs,rfl,_⟩:=h;rfl
 obtain ⟨a,m,ns,rfl,ha,hm,hm',hns,q⟩:=h
 obtain ⟨M,rfl⟩:∃ M:Nat,m=M:=⟨m.toNat,by omega⟩
 have sc:=w6
 have hsl:=hsl
 refine ⟨_,(zc (zw (i:=2) sc.nd rfl (by first | exact bn rfl | exact bq rfl) (zL Zq rfl B.list yA (za (qG jZ (pv 0) jz (qP (pv 1))) zb)))
  (zc (jW cJ rfl (B4 rfl B.enumerate (za (qG jZ (pv 0) (qP (pv 1)) (qP ze)) zb)) (jS (K:=K) 2 rfl rfl (zZ (zE (i:=3) sc.nd rfl (by first | exact bn rfl | exact bq rfl)) (zZ (zE (i:=4) sc.nd rfl (by first | exact bn rfl | exact bq rfl)) jV))) (zf (jN (zu qf (zM qt (pv 2) (zu jj (pv 3) (pv 1)) (fun _ _=>rfl)) (zu ky (pv 4) (zu qf (pv 3) ze))) (jT (pv 2) (zu jj (pv 3) (pv 1)) qu))))
  (zf (zr (pv 2))))),?_⟩
 rw [show qF ["_law_script","_law_many_here","_law_cells","_law_k","_law_cell"] [V.ref a,V.int M]=[some (.ref a),some (.int M),none,none,none] from rfl]
 walk_at "rd"
 walk_at "xs"
 intro p1 hp1
 rw [Q3]
 walk_at "xs"
 intro p2 hp2
 walk_at "xs"
 intro p3 hp3
 rw [Q3]
 have e63:(63:Int)=((63:Nat):Int):=rfl
 simp only [HT.sIx_none,HT.sIx_nat,e63,i7,Nat.sub_zero] at hp2 hp3 ⊢
 walk_at "xs"
 generalize hc0:ns.take (min M ns.length)=c0 at hp2 hp3 ⊢
 generalize hd0:(ns.drop (min M ns.length)).take (min 63 ns.length - min M ns.length)=d0 at hp2 hp3 ⊢
 have lc:c0.length=min M ns.length:=by rw [<- hc0,ca];omega
 have ld:d0.length<=ns.length - M:=by rw [<- hd0,ca,cW];omega
 have n23:p2 ≠ p3:=by walk_at "ne"
 refine DY (xs:=d0.map V.int) (fun i τ H'=>∃ u v cs,τ=[some (.ref a),some (.int M),some (.ref p2),u,v]/\Kp [p2] (upd (upd (upd H p1 (HO.lst (bQ V.int c0))) p2 (HO.lst (bQ V.int c0))) p3 (HO.lst (bQ V.int d0))) H'/\H' p2=some (il cs)/\cs.length=c0.length) ?_ ?_ ?_ ?_
 ·exact ⟨none,none,c0,rfl,Kp.refl,by walk_at "hp",rfl⟩
 ·rintro i τ H' _ ⟨u,v,cs,rfl,kp,_⟩
  exact SqL.of (kp _ _ (by simp [Ne.symm n23]) (by walk_at "hp"))
 ·rintro i x pp τ H' hx hpp ⟨u,v,cs,rfl,kp,hcs,hl⟩
  obtain ⟨rfl,hi⟩:=xE hx
  have b1:=jX (i:Int) hm
  obtain ⟨g1,g2⟩:=kq (cs:=cs) (k:=(i:Int) % (M:Int)) b1.1 (by omega)
  have hcs':upd H' pp (HO.tup [V.int i,V.int (d0.getD i 0)]) p2=some (il cs):=by walk_at "hp"
  walk_at "rd"
  walk_at "xs"
  refine ⟨(kp.trans (Kp.new _ hpp)).trans (Kp.set _ (by simp)),_,zi.trans (congrArg some (congrArg HO.lst (ZW _ _ _))),by rw [bT];exact hl⟩
 ·rintro τ H' ⟨u,v,cs,rfl,kp,hcs,hl⟩
  walk_at "rd"
  refine q _ _ cs (fun c o hc hh=>kp c o ?_ ((((Kp.new _ hp1).trans (Kp.new _ hp2)).trans (Kp.new _ hp3)) c o hc hh)) (by walk_at "fr") hcs (by omega)
  have:c ≠ p2:=kg (Qm hp2 (Kp.new _ hp1)) hh
  simpa using this
theorem LG:MR rNe:=fun _ _ _ _ _ hq ⟨e,h⟩=>⟨e,hq _ _ h⟩
variable {ss:List Bool}
theorem yM {i:Nat}(h:i<ss.length):ixN (ss.map V.bl).length (i:Int)=some i/\atI (ss.map V.bl) (i:Int)=some (.bl (ss.getD i false)):=by
 have e1:ixN (ss.map V.bl).length (i:Int)=some i:=by unfold ixN;rw [ap,if_pos (by omega),if_pos (by omega),bB]
 refine ⟨e1,?_⟩
 unfold atI
 rw [e1]
 show (ss.map V.bl)[i]?=_
 rw [aK,aA,aq h];rfl
theorem wB {i j:Nat}{v:Bool}(h:i<ss.length):(ss.set i v).getD j false=if j=i then v else ss.getD j false:=by
 rw [aA,aA,cB]
 by_cases e:i=j
 ·subst e;rw [if_pos rfl,if_pos h,if_pos rfl];rfl
 ·rw [if_neg e,if_neg (fun z=>e z.symm)]
noncomputable abbrev kA:cn:=top 15
theorem xl:zp ["order","first","ring","place"] ["order","first"] (zd kA):=⟨rfl,rfl,rfl,by decide +kernel,rfl,by decide +kernel,by decide +kernel⟩
noncomputable def vt (K:au):Sp:=fun vs H Q _=>∃ (a:aE) (n:Nat) (os:List Int) (p:Int),vs=[.ref a,.int p]/\(SqL K H a (os.map V.int) \/ SqT K H a (os.map V.int))/\zB n os/\n<=1000/\0<=p/\p<n/\∀ t H',Kp [] H H'->H t=none->H' t=some (il (qm os p))->Q (.ref t) H'
theorem ZI (a:At K mg "ring_from" kA)(B:Blt mg):Df P w K mg base "ring_from" ["order","first"] 1 (vt K):=by
  refine vi (k:=0) a xl (fun _ _ _ _ _ _=>Pn2_ fun _ _=>rfl) (fun vs H Q E h=>?_) (fun f cdv A outer s H vs Q E hr h=>?_)
  · obtain ⟨a,_,_,_,rfl,_⟩:=h;rfl
  obtain ⟨a,n,os,p,rfl,ha,ho,hn,p0,p1,q⟩:=h
  have sc:=xl
  have hsl:=hsl
  have ol:=ho.1
  obtain ⟨M,hM,hMn⟩:=A0 ho p0 p1
  refine ⟨_,(zc (zw (i:=2) sc.nd rfl (by first | exact bn rfl | exact bq rfl) (zK (za (pv 1) zb)))
    (zc (zw (i:=3) sc.nd rfl (by first | exact bn rfl | exact bq rfl) (zM qc (pv 0) (pv 1) (fun _ _=>rfl)))
    (zc (Jf cJ (zJ L5 (pv 3) (pv 1) (zy _)) (zc (xf (jH cL cZ db jG (pv 2) (za (pv 3) zb)))
    (zf (zw (i:=3) sc.nd rfl (by first | exact bn rfl | exact bq rfl) (zM qc (pv 0) (pv 3) (fun _ _=>rfl))))))
    (zf (zr (pv 2)))))),?_⟩
  rw [show qF ["order","first","ring","place"] [V.ref a,V.int p]=[some (.ref a),some (.int p),none,none] from rfl]
  walk_at "rd"
  obtain ⟨e1,e2⟩:=kq (cs:=os) (k:=p) p0 (by omega)
  refine ⟨by show 1<=aT;decide,fun t ht=>⟨_,QD ha (Kp.new _ ht),_,e2,?_⟩⟩
  refine Wa (fun τ H'=>∃ (j:Nat),τ=[some (.ref a),some (.int p),some (.ref t),some (.int (itn os j p))]/\Kp [t] (upd H t (.lst [.int p])) H'/\H' t=some (il (itl os p j))/\1<=j/\j<=M/\∀ i,1<=i->i<j->itn os i p ≠ p)
    (fun _ H'=>match H' t with | some (.lst xs)=>M+1 - xs.length | _=>0) ?_ ?_ (Fa (MA LG Bg Bg))
  · exact ⟨1,rfl,Kp.refl,zi,aL _,hM.1,fun i h1 h2=>by omega⟩
  · rintro τ H' ⟨j,rfl,kp,hH,j1,jM,hj⟩
    have bd:=kS ho p0 p1 j
    have k0:=Kp.drop1 ht kp
    walk_at "rd"
    refine ⟨rfl,Di (fun c=>?_) (fun c=>?_)⟩
    · have jM' : j < M := by
        rcases Nat.lt_or_ge j M with z | z
        · exact z
        · have e:j=M:=by omega
          subst e
          exact absurd hM.2.1 c
      obtain ⟨g1,g2⟩:=kq (cs:=os) (k:=itn os j p) bd.1 (by omega)
      have k1:Kp [] H (upd H' t (HO.lst (bQ V.int (itl os p j) ++ [V.int (itn os j p)]))):=Kp.drop1 ht (kp.trans (Kp.set _ (by simp)))
      refine ⟨.inl ⟨rfl,_,SqL.of hH⟩,_,hH,by rw [ap,ZQ];omega,_,QD ha k1,_,g2,⟨j+1,rfl,kp.trans (Kp.set _ (by simp)),?_,by omega,by omega,fun i h1 h2=>?_⟩,?_⟩
      · rw [VL]
        exact zi.trans (congrArg some (congrArg HO.lst (by rw [bU];rfl)))
      · by_cases e:i=j
        · subst e;exact c
        · exact hj i h1 (by omega)
      · rw [zi,hH]
        show M+1 - (bQ V.int (itl os p j) ++ [V.int (itn os j p)]).length<M+1 - (bQ V.int (itl os p j)).length
        rw [aQ,ap,ZQ]
        show M+1 - (j+1)<M+1 - j
        omega
    · have hw:kN os p j:=⟨j1,by by_cases z:itn os j p=p;exact z;exact absurd z c,hj⟩
      refine q _ _ k0 ht ?_
      unfold qm
      rw [hw.per]
      exact hH
noncomputable abbrev ZD:cn:=top 16
theorem Jb:zp ["order","seen","found","first","ring","place"] ["order"] (zd ZD):=⟨rfl,rfl,rfl,by decide +kernel,rfl,by decide +kernel,by decide +kernel⟩
noncomputable def Xa (K:au):Sp:=fun vs H Q _=>∃ (a:aE) (n:Nat) (os:List Int),vs=[.ref a]/\(SqL K H a (os.map V.int) \/ SqT K H a (os.map V.int))/\zB n os/\n<=1000 /\
 ∀ p H' rs,Kp [] H H'->H p=none->H' p=some (.lst (rfs rs))->(∀ r ∈ rs,H r.1=none/\r.1 ≠ p/\H' r.1=some (il r.2))->rs.map (·.2)=jt os n->Q (.ref p) H'
theorem Wl (a:At K mg "rings" ZD)(B:Blt mg)(D_ring_from:Df P w K mg base "ring_from" ["order","first"] 1 (vt K)):Df P w K mg base "rings" ["order"] 2 (Xa K):=by
 refine vi (k:=1) a Jb (fun _ _ _ _ _ _=>Pn1_ fun _=>rfl) (fun vs H Q E h=>?_) (fun f cdv A outer s H vs Q E hr h=>?_)
 ·obtain ⟨a,_,_,rfl,_⟩:=h;rfl
 obtain ⟨a,n,os,rfl,ha,ho,hn,q⟩:=h
 have sc:=Jb
 have hsl:=hsl
 have ol:=ho.1
 refine ⟨_,(zc (zw (i:=1) sc.nd rfl (by first | exact bn rfl | exact bq rfl) (zu xc (zK (za j8 zb)) (zn zm rfl B.len zP (za (pv 0) zb))))
  (zc (zw (i:=2) sc.nd rfl (by first | exact bn rfl | exact bq rfl) (zK zb))
  (zc (jW cJ rfl (xV rfl B.range (za (zn zm rfl B.len zP (za (pv 0) zb)) zb)) (zE (i:=3) sc.nd rfl (by first | exact bn rfl | exact bq rfl)) (zf (qb (kc (qY (zM qt (pv 1) (pv 3) (fun _ _=>rfl)) (fun _=>rfl))) (zc (zw (i:=4) sc.nd rfl (by first | exact bn rfl | exact bq rfl) (zH D_ring_from hr rfl (za (pv 0) (za (pv 3) zb))))
  (zc (jW cJ rfl (EU (pv 4)) (zE (i:=5) sc.nd rfl (by first | exact bn rfl | exact bq rfl)) (zf (jN j8 (jT (pv 1) (pv 5) qu))))
  (zf (qb (zJ kh (zn zm rfl B.len zP (za (pv 4) zb)) ze (zy _)) (zf (xf (jH cL cZ db jG (pv 2) (za (pv 4) zb)))) zF)))) zF)))
  (zf (zr (pv 2)))))),?_⟩
 rw [show qF ["order","seen","found","first","ring","place"] [V.ref a]=[some (.ref a),none,none,none,none,none] from rfl]
 walk_at "rd"
 refine ⟨by show 1<=aT;decide,fun pz hpz=>⟨_,QD ha (Kp.new _ hpz),_,zi,?_⟩⟩
 rw [ap,ol,bB,Ki]
 refine ⟨by omega,by omega,by show 1 * n<=aT;omega,fun ps hps=>?_⟩
 refine ⟨cb _,fun pf hpf=>?_⟩
 have kH:=((Kp.new (bs:=[]) (HO.lst [V.bl false]) hpz).trans (Kp.new (HO.lst (aH n (V.bl false))) hps)).trans (Kp.new (HO.lst []) hpf)
 have nps:H ps=none:=(Kp.new (bs:=[]) _ hpz).free hps
 have npf:H pf=none:=((Kp.new (bs:=[]) _ hpz).trans (Kp.new _ hps)).free hpf
 have hps0:=(Kp.new (bs:=[]) (HO.lst []) hpf) ps _ (by simp) (zi (H:=upd H pz (HO.lst [V.bl false])) (o:=HO.lst (aH n (V.bl false))))
 have hpf0:=zi (H:=upd (upd H pz (HO.lst [V.bl false])) ps (HO.lst (aH n (V.bl false)))) (a:=pf) (o:=HO.lst [])
 have nsf:ps ≠ pf:=zj zi hpf
 generalize upd (upd (upd H pz (HO.lst [V.bl false])) ps (HO.lst (aH n (V.bl false)))) pf (HO.lst [])=H0 at *
 refine ⟨_,QD ha kH,?_⟩
 rw [ap,ol]
 refine ⟨by omega,by omega,?_⟩
 rw [bB]
 refine An (fun i τ G=>∃ (x3 x4 x5:Option V) (ss:List Bool) (rs:List (aE × List Int)),τ=[some (.ref a),some (.ref ps),some (.ref pf),x3,x4,x5]/\Kp [ps,pf] H0 G/\G ps=some (.lst (ss.map V.bl))/\ss.length=n/\(∀ x:Nat,x<n->(ss.getD x false=true ↔ kI os i (x:Int)))/\G pf=some (.lst (rfs rs))/\(∀ r ∈ rs,H r.1=none/\r.1 ≠ pf/\r.1 ≠ ps/\G r.1=some (il r.2))/\rs.map (·.2)=jt os i) ?_ ?_ ?_
 ·refine ⟨none,none,none,aH n false,[],rfl,Kp.refl,by rw [bN];exact hps0,by simp,fun x hx=>?_,hpf0,fun r hr=>(nomatch hr),rfl⟩
  constructor
  ·intro z
   rw [aA,dQ,if_pos hx] at z
   cases z
  ·rintro ⟨q,hq,_⟩;omega
 ·rintro i τ G hi ⟨x3,x4,x5,ss,rs,rfl,kG,gs,ls,hs,gf,hr,er⟩
  have kHG:Kp [] H G:=Kp.un (Kp.un ((kH.mono (by simp)).trans kG) nps) npf
  obtain ⟨s1,s2⟩:=yM (ss:=ss) (i:=i) (by omega)
  have lrs:rs.length<=i:=by
   have:=kR os i
   rw [<- er,ap] at this
   exact this
  rw [mr]
  walk_at "rd"
  refine ⟨_,SqL.of gs,_,s2,_,rfl,Di (fun c=>?_) (fun c=>?_)⟩
  ·have hns:¬ kI os i (i:Int):=by rw [<- hs i hi,c];simp
   refine ⟨a,n,os,i,rfl,QD ha kHG,ho,hn,by omega,by omega,fun t G1 k1 ht h1=>?_⟩
   have gs1:=k1 _ _ (by simp) gs
   have gf1:=k1 _ _ (by simp) gf
   obtain ⟨M,hM,hMn⟩:=A0 ho (p:=(i:Int)) (by omega) (by omega)
   have hrl:(qm os (i:Int)).length=M:=by unfold qm;rw [ZQ,hM.per]
   have nts:t ≠ ps:=Ne.symm (zj gs ht)
   have ntf:t ≠ pf:=Ne.symm (zj gf ht)
   refine ⟨t,rfl,⟨_,SqL.of h1⟩,?_⟩
   refine DK (xs:=(qm os (i:Int)).map V.int) (fun j τ G'=>∃ (x5:Option V) (ss':List Bool),τ=[some (.ref a),some (.ref ps),some (.ref pf),some (.int (i:Int)),some (.ref t),x5]/\Kp [ps] G1 G'/\G' ps=some (.lst (ss'.map V.bl))/\ss'.length=n/\∀ x:Nat,x<n->(ss'.getD x false=true ↔ kI os i (x:Int) \/ (x:Int) ∈ (qm os (i:Int)).take j)) ?_ ?_ ?_ ?_
   ·exact ⟨x5,ss,rfl,Kp.refl,gs1,ls,fun x hx=>by rw [hs x hx];simp⟩
   ·rintro j τ G' _ ⟨_,ss',rfl,kp,_⟩
    exact SqL.of (kp _ _ (by simpa using nts) h1)
   ·rintro j x τ G' hx ⟨y5,ss',rfl,kp,gs',ls',hs'⟩
    obtain ⟨rfl,hj⟩:=xE hx
    have hm:(qm os (i:Int)).getD j 0 ∈ qm os (i:Int):=by rw [qQ hj];exact bI hj
    have hb:0<=(qm os (i:Int)).getD j 0/\(qm os (i:Int)).getD j 0<(n:Int):=by
     obtain ⟨k,_,e⟩:=KI.mp hm
     rw [<- e]
     exact kS ho (by omega) (by omega) k
    have htk:(qm os (i:Int)).take (j+1)=(qm os (i:Int)).take j ++ [(qm os (i:Int)).getD j 0]:=by
     rw [qQ hj];exact (List.take_append_getElem hj).symm
    generalize (qm os (i:Int)).getD j 0=v at *
    obtain ⟨vn,rfl⟩:∃ vn:Nat,v=vn:=⟨v.toNat,by omega⟩
    obtain ⟨g1,g2⟩:=yM (ss:=ss') (i:=vn) (by omega)
    walk_at "rd"
    refine ⟨_,gs',vn,g1,kp.trans (Kp.set _ (by simp)),ss'.set vn true,zi.trans (congrArg some (congrArg HO.lst (by rw [fO]))),by rw [bT];exact ls',fun x hx=>?_⟩
    rw [wB (by omega),htk,cq,bG]
    by_cases e:x=vn
    ·subst e;rw [if_pos rfl];simp
    ·have e':¬ ((x:Int)=(vn:Int)):=by omega
     rw [if_neg e,hs' x hx]
     simp [e']
   ·rintro τ G' ⟨y5,ss',rfl,kp,gs',ls',hs'⟩
    rw [ap,eS] at hs'
    have h1':=kp _ _ (by simpa using nts) h1
    have gf':=kp _ _ (by simpa using Ne.symm nsf) gf1
    have hs'':∀ x:Nat,x<n->(ss'.getD x false=true ↔ kI os (i+1) (x:Int)):=fun x hx=>by
     rw [hs' x hx,kI.succ,Rch.mem_ring hM]
     unfold qm
     rw [hM.per]
    have kp2:Kp [ps,pf] H0 G':=(kG.trans (k1.mono (by simp))).trans (kp.mono (by simp))
    have hr':∀ r ∈ rs,H r.1=none/\r.1 ≠ pf/\r.1 ≠ ps/\G' r.1=some (il r.2):=fun r hr0=>by
     obtain ⟨z1,z2,z3,z4⟩:=hr r hr0
     exact ⟨z1,z2,z3,kp _ _ (by simpa using z3) (k1 _ _ (by simp) z4)⟩
    have hL:GW os i:=QJ.mpr hns
    walk_at "rd"
    refine ⟨_,.inl (SqL.of h1'),Di (fun c1=>?_) (fun c1=>?_)⟩
    ·have hpe:1<per os (i:Int):=by rw [hM.per];rw [ap,hrl] at c1;omega
     refine ⟨.inl ⟨rfl,_,SqL.of gf'⟩,_,gf',by unfold rfs;rw [ap];omega,⟨_,rfl⟩,kp2.trans (Kp.set _ (by simp)),ss',(zg nsf).trans gs',ls',hs'',rs ++ [(t,qm os (i:Int))],?_,fun r hr0=>?_,?_⟩
     ·refine zi.trans (congrArg some (congrArg HO.lst ?_))
      unfold rfs;rw [bU];rfl
     ·rcases cq.mp hr0 with z | z
      ·obtain ⟨z1,z2,z3,z4⟩:=hr' r z
       exact ⟨z1,z2,z3,(zg z2).trans z4⟩
      ·rw [bG.mp z]
       exact ⟨kHG.free ht,ntf,nts,(zg ntf).trans h1'⟩
     ·show _=jt os i ++ _
      rw [if_pos ⟨hL,hpe⟩,bU,er]
      rfl
    ·have hpe:¬ 1<per os (i:Int):=by rw [hM.per];rw [ap,hrl] at c1;omega
     refine ⟨⟨_,rfl⟩,kp2,ss',gs',ls',hs'',rs,gf',hr',?_⟩
     show _=jt os i ++ _
     rw [if_neg (fun z=>hpe z.2),b9,er]
  ·have hsi:kI os i (i:Int):=(hs i hi).mp (by cases z:ss.getD i false with | true=>rfl | false=>exact absurd z c)
   refine ⟨kG,ss,gs,ls,fun x hx=>by rw [hs x hx,kI.step ho hi hsi],rs,gf,hr,?_⟩
   show _=jt os i ++ _
   rw [if_neg (fun z=>QJ.mp z.1 hsi),b9,er]
 ·rintro τ G ⟨x3,x4,x5,ss,rs,rfl,kG,gs,ls,hs,gf,hr,er⟩
  have kHG:Kp [] H G:=Kp.un (Kp.un ((kH.mono (by simp)).trans kG) nps) npf
  walk_at "rd"
  exact q _ _ rs kHG npf gf (fun r hr0=>⟨(hr r hr0).1,(hr r hr0).2.1,(hr r hr0).2.2.2⟩) er
theorem zt (a b:Str):(a ++ b).cps.toList=a.cps.toList ++ b.cps.toList:=by
 show (a.cps ++ b.cps).toList=_;simp
theorem zv (a:Str):a.cps.toList.length=a.length:=by simp [dm]
theorem jl (y x x':Str)(l:List Str):bX y (x :: x' :: l)=x ++ y ++ bX y (x' :: l):=rfl
theorem QP {y p:Str}{c:Nat}:∀ {l:List Str},p ∈ l->c ∈ p.cps.toList->c ∈ (bX y l).cps.toList
 | [x],hp,hc=>by rw [bG.mp hp] at hc;exact hc
 | x :: x' :: l,hp,hc=>by
  rw [jl,zt,zt]
  rcases aJ.mp hp with rfl | hp
  ·exact dE _ (dE _ hc)
  ·exact bS _ (QP hp hc)
theorem ye {y p:Str}:∀ {l:List Str},p ∈ l->p.length<=(bX y l).length
 | [x],hp=>by rw [bG.mp hp];exact aL _
 | x :: x' :: l,hp=>by
  rw [jl,<- zv (_ ++ _),zt,zt,aQ,aQ,zv,zv,zv]
  rcases aJ.mp hp with rfl | hp
  ·omega
  ·have:=ye (y:=y) hp;omega
theorem wq (c:Nat):∀ l:List Str,l.length<=(bX ⟨#[c]⟩ l).length+1
 | []=>cb _
 | [x]=>by simp
 | x :: x' :: l=>by
  rw [jl,<- zv (_ ++ _),zt,zt,aQ,aQ,zv,zv,zv]
  have:=wq c (x' :: l)
  have e:(⟨#[c]⟩:Str).length=1:=rfl
  simp only [aV] at this ⊢
  omega
variable {c:Nat}
theorem vX {z p:Str} (h:p ∈ Txt.split z ⟨#[c]⟩):p.length<=z.length/\∀ d ∈ p.cps.toList,d ∈ z.cps.toList:=by
 have e:=gQ z ⟨#[c]⟩
 refine ⟨?_,fun d hd=>?_⟩
 ·have:=ye (y:=⟨#[c]⟩) h;rw [e] at this;exact this
 ·have:=QP (y:=⟨#[c]⟩) h hd;rw [e] at this;exact this
theorem yX (z:Str)(c:Nat):(Txt.split z ⟨#[c]⟩).length<=z.length+1:=by
 have:=wq c (Txt.split z ⟨#[c]⟩)
 rw [gQ] at this;exact this
theorem vI (z:Str)(c:Nat):Txt.split z ⟨#[c]⟩ ≠ []:=by
 intro h
 have:=PyProof.Rows.split_pos z ⟨#[c]⟩
 rw [h] at this
 simp at this
theorem Yw {c:Nat}:∀ {l m:List Str},l ≠ []->m ≠ []->(∀ p ∈ l,c ∉ p.cps.toList)->(∀ p ∈ m,c ∉ p.cps.toList)->bX ⟨#[c]⟩ l=bX ⟨#[c]⟩ m->l=m:=by
 have key:∀ (a b u v:List Nat),c ∉ a->c ∉ b->a ++ c :: u=b ++ c :: v->a=b/\u=v:=by
  intro a
  induction a with
  | nil=>
   intro b u v ha hb h
   cases b with
   | nil=>exact ⟨rfl,(fb h).2⟩
   | cons y b=>exact absurd (show c ∈ y :: b by rw [<- (fb h).1];simp) hb
  | cons x a ih=>
   intro b u v ha hb h
   cases b with
   | nil=>exact absurd (show c ∈ x :: a by rw [(fb h).1];simp) ha
   | cons y b=>
    obtain ⟨h1,h2⟩:=fb h
    obtain ⟨r1,r2⟩:=ih b u v (fun z=>ha (ba _ z)) (fun z=>hb (ba _ z)) h2
    exact ⟨by rw [h1,r1],r2⟩
 have no:∀ (a b v:List Nat),c ∉ a->a=b ++ c :: v->False:=fun a b v ha h=>ha (by rw [h];simp)
 have ext:∀ {a b:Str},a.cps.toList=b.cps.toList->a=b:=fun {a b} h=>by
  obtain ⟨a⟩:=a;obtain ⟨b⟩:=b
  congr 1
  exact mL.mp h
 have tl:∀ (x x':Str) (l:List Str),(bX ⟨#[c]⟩ (x :: x' :: l)).cps.toList=x.cps.toList ++ c :: (bX ⟨#[c]⟩ (x' :: l)).cps.toList:=fun x x' l=>by
  rw [jl,zt,zt];simp
 intro l
 induction l with
 | nil=>intro m h;exact absurd rfl h
 | cons x l ih=>
  intro m _ hm hl hm' e
  cases m with
  | nil=>exact absurd rfl hm
  | cons y m=>
   have fx:=hl x (by simp)
   have fy:=hm' y (by simp)
   cases l with
   | nil=>
    cases m with
    | nil=>exact congrArg (fun z=>[z]) e
    | cons y' m=>exact (no _ _ _ fx (by rw [<- tl y y' m,<- e];rfl)).elim
   | cons x' l=>
    cases m with
    | nil=>exact (no _ _ _ fy (by rw [<- tl x x' l,e];rfl)).elim
    | cons y' m=>
     have e':=congrArg (fun z:Str=>z.cps.toList) e
     rw [tl,tl] at e'
     obtain ⟨r1,r2⟩:=key _ _ _ _ fx fy e'
     rw [ext r1,ih (by simp) (by simp) (fun p hp=>hl p (ba _ hp)) (fun p hp=>hm' p (ba _ hp)) (ext r2)]
variable {l:List Str}
theorem xa (h0:l ≠ [])(h:∀ p ∈ l,c ∉ p.cps.toList):Txt.split (bX ⟨#[c]⟩ l) ⟨#[c]⟩=l:=
 Yw (vI _ _) h0 (StrLaws.split_free _ c) h (gQ _ _)
noncomputable abbrev ltr:List Nat:=(aj "abcdefghijklmnopqrstuvwxyz").cps.toList
noncomputable abbrev fig:List Nat:=(aj "0123456789").cps.toList
noncomputable abbrev sg (c:Nat):Str:=⟨#[c]⟩
structure Glb (mg:Str->Option am)(tk:Nat->Tok):Prop where
 MOST_ROWS:mg "MOST_ROWS"=some (.int 100 (tk 0))
 MOST_SIGNS:mg "MOST_SIGNS"=some (.int 300 (tk 1))
 MOST_THINGS:mg "MOST_THINGS"=some (.int 60 (tk 2))
 MOST_LETTERS:mg "MOST_LETTERS"=some (.int 8 (tk 3))
 MOST_FIGURES:mg "MOST_FIGURES"=some (.int 4 (tk 4))
 LETTERS:mg "LETTERS"=some (.str (aj "abcdefghijklmnopqrstuvwxyz") (tk 5))
 FIGURES:mg "FIGURES"=some (.str (aj "0123456789") (tk 6))
structure Asc (z:Str):Prop where
 a:QF z
 l:z.length<=90000
noncomputable def kj (z:Str):Bool:=decide (1<=z.length) && (decide (z.length<=8) && z.cps.toList.all (fun c=>decide (c ∈ ltr)))
noncomputable def Vb:ASp:=fun xs M Q=>∃ z,xs=[.d (.str z)]/\Asc z/\Q (.d (.bl (kj z))) M
noncomputable abbrev xX:cn:=top 34
theorem vp:zp ["word","sign"] ["word"] (zd xX):=⟨rfl,rfl,rfl,by decide +kernel,rfl,by decide +kernel,by decide +kernel⟩
variable {tk:Nat->Tok}
theorem Kh (a:At K mg "is_thing" xX)(B:Blt mg)(Ball:mg "all"=none) (GL:Glb mg tk):Df P w K mg base "is_thing" ["word"] 1 (cSp Vb):=by
 refine dfA (k:=0) a vp (fun _ _ _ _ _ _=>Pn1_ fun _=>rfl) (fun xs M Q h=>?_) (fun f cdv A outer s H E hr=>?_)
 ·obtain ⟨_,rfl,_⟩:=h;rfl
 have sc:=vp
 have hsl:=hsl
 refine ⟨_,(zf (zr (yZ (Z3 wO wO ze (zn xO rfl B.len zP (za (pv 0) zb)) (j3 (v:=.int 8) rfl GL.MOST_LETTERS ⟨_,rfl⟩)) (vL (zn (kC rfl) rfl Ball Zn (za (qH (ts:=[1]) rfl rfl (W2 (pv 0)) (fun _ _ _ _=>(zE (i:=1) sc.nd rfl (by first | exact bn rfl | exact bq rfl))) (fun _ _ _ _=>qJ) (fun _ _ _ _=>(zX V9 (pv 1) (j3 (v:=.str (aj "abcdefghijklmnopqrstuvwxyz")) rfl GL.LETTERS ⟨_,rfl⟩) rfl))) zb)))))),?_⟩
 refine ex2 (by walk_at "sim") ?_
 rintro xs M Q ⟨z,rfl,az,q⟩
 rw [show zA ["word","sign"] [.d (.str z)]=[some (.d (.str z)),none] from rfl]
 have al:=az.l
 have cl:(z.cps.toList).length=z.length:=by simp [dm]
 unfold kj at q
 walk_at "ra"
 refine ⟨by omega,?_⟩
 by_cases c1:(1:Int)<=z.length
 case neg=>rw [if_neg c1];rw [decide_eq_false (show ¬ 1<=z.length by omega)] at q;exact qa Fr.refl q
 rw [if_pos c1]
 rw [decide_eq_true (show 1<=z.length by omega),et] at q
 by_cases c2:(z.length:Int)<=8
 case neg=>rw [if_neg c2];rw [decide_eq_false (show ¬ z.length<=8 by omega)] at q;exact qa Fr.refl q
 rw [if_pos c2]
 rw [decide_eq_true (show z.length<=8 by omega),et] at q
 refine ⟨az.a,?_⟩
 refine kE (fun o=>[some (.d (.str z)),o]) (fun c:Nat=>AV.d (.str (sg c))) (fun c=>.d (.bl (decide (c ∈ ltr)))) z.cps.toList ⟨_,rfl⟩ trivial (by omega) (fun o c Q hc q=>?_) fun o=>?_
 ·have q:=q (some (.d (.str (sg c))))
  show jC 1 (AV.d (.str (sg c))) _ _ _
  walk_at "ra"
  exact ⟨c,rfl,q⟩
 refine ⟨z.cps.toList.map fun c=>.bl (decide (c ∈ ltr)),qC _ _,z.cps.toList.map fun c=>decide (c ∈ ltr),by rw [bH,bH];rfl,?_⟩
 rw [gF]
 exact qa Fr.refl q
theorem Eb (x:Nat):decide (({ cps:=#[x] }:Str)=aj "0")=decide (x=48):=by
 rw [show aj "0"=⟨#[48]⟩ by decide +kernel];simp
theorem QH {α:Type}(x:α)(l:List α):atI (x :: l) 0=some x:=by
 unfold atI
 rw [kP (by omega) (by simp only [aV];omega)];rfl
noncomputable def LV (z:Str):Bool:=z.cps.toList.all (fun c=>decide (c ∈ fig))
noncomputable def jb (z:Str):Bool:=decide (1<=z.length) && decide (z.length<=4) && LV z && (decide (z=aj "0") || !decide (z.cps.toList.head?=some 48))
noncomputable def ZP:ASp:=fun xs M Q=>∃ z,xs=[.d (.str z)]/\Asc z/\Q (.d (.bl (jb z))) M
noncomputable abbrev xb:cn:=top 35
theorem yt:zp ["word","sign"] ["word"] (zd xb):=⟨rfl,rfl,rfl,by decide +kernel,rfl,by decide +kernel,by decide +kernel⟩
theorem Q0 (a:At K mg "is_number" xb)(B:Blt mg)(Ball:mg "all"=none){tk:Nat->Tok}(GL:Glb mg tk):Df P w K mg base "is_number" ["word"] 1 (cSp ZP):=by
 refine dfA (k:=0) a yt (fun _ _ _ _ _ _=>Pn1_ fun _=>rfl) (fun xs M Q h=>?_) (fun f cdv A outer s H E hr=>?_)
 ·obtain ⟨_,rfl,_⟩:=h;rfl
 have sc:=yt
 have hsl:=hsl
 refine ⟨_,(zc (qb (PW.pt (QK (kc (Av wO wO ze (zn xO rfl B.len zP (za (pv 0) zb)) (j3 (v:=.int 4) rfl GL.MOST_FIGURES ⟨_,rfl⟩))) (vT (kc (qY (zn (kC rfl) rfl Ball Zn (za (qH (ts:=[1]) rfl rfl (W2 (pv 0)) (fun _ _ _ _=>(zE (i:=1) sc.nd rfl (by first | exact bn rfl | exact bq rfl))) (fun _ _ _ _=>qJ) (fun _ _ _ _=>(zX V9 (pv 1) (j3 (v:=.str (aj "0123456789")) rfl GL.FIGURES ⟨_,rfl⟩) rfl))) zb)) (fun _=>rfl)))))) (zf (zr j8)) zF)
  (zf (zr (Lq (zX (jB hr.units) (pv 0) zl (zy _)) (vL (zX (qL hr.units) (zM IG (pv 0) ze (fun _ _=>rfl)) zl (zy _))))))),?_⟩
 refine ex2 (by walk_at "sim") ?_
 rintro xs M Q ⟨z,rfl,az,q⟩
 rw [show zA ["word","sign"] [.d (.str z)]=[some (.d (.str z)),none] from rfl]
 have al:=az.l
 have cl:(z.cps.toList).length=z.length:=by simp [dm]
 unfold jb at q
 refine zk fun r1 hr1=>?_
 walk_at "ra"
 refine ⟨by omega,?_⟩
 by_cases c1:(1:Int)<=z.length
 case neg=>rw [if_neg c1];rw [decide_eq_false (show ¬ 1<=z.length by omega)] at q;exact qa Fr.refl q
 rw [if_pos c1]
 rw [decide_eq_true (show 1<=z.length by omega),et] at q
 by_cases c2:(z.length:Int)<=4
 case neg=>rw [if_pos c2];rw [decide_eq_false (show ¬ z.length<=4 by omega)] at q;exact qa Fr.refl q
 rw [if_neg (by omega)]
 rw [decide_eq_true (show z.length<=4 by omega),et] at q
 refine ⟨az.a,?_⟩
 refine kE (fun o=>[some (.d (.str z)),o]) (fun c:Nat=>AV.d (.str (sg c))) (fun c=>.d (.bl (decide (c ∈ fig)))) z.cps.toList ⟨_,rfl⟩ trivial (by omega) (fun o c Q hc q=>?_) fun o=>?_
 ·have q:=q (some (.d (.str (sg c))))
  show jC 1 (AV.d (.str (sg c))) _ _ _
  walk_at "ra"
  exact ⟨c,rfl,q⟩
 refine ⟨z.cps.toList.map fun c=>.bl (decide (c ∈ fig)),qC _ _,z.cps.toList.map fun c=>decide (c ∈ fig),by rw [bH,bH];rfl,?_⟩
 rw [gF]
 unfold LV at q
 cases hf:z.cps.toList.all (id ∘ fun c=>decide (c ∈ fig)) with
 | false=>
  rw [if_pos rfl]
  rw [show z.cps.toList.all (fun c=>decide (c ∈ fig))=false from hf] at q
  exact qa Fr.refl q
 | true=>
  rw [if_neg (by decide)]
  rw [show z.cps.toList.all (fun c=>decide (c ∈ fig))=true from hf,et] at q
  clear hf
  subst hr1
  obtain ⟨h,r,hz⟩:∃ h r,z.cps.toList=h :: r:=by
   cases e:z.cps.toList with
   | nil=>rw [e] at cl;simp at cl;omega
   | cons h r=>exact ⟨h,r,rfl⟩
  rw [hz] at q
  walk_at "ra"
  have e0:atI z.cps.toList 0=some h:=by rw [hz];exact QH h r
  by_cases c0:z=aj "0"
  ·rw [if_pos c0]
   rw [decide_eq_true c0,Bool.true_or] at q
   exact qa Fr.refl q
  ·rw [if_neg c0]
   rw [decide_eq_false c0,Bool.false_or] at q
   refine ⟨by omega,h,e0,?_⟩
   rw [Eb]
   rw [show decide ((h :: r).head?=some 48)=decide (h=48) by simp] at q
   exact qa Fr.refl q
theorem KW (z:Str)(lo hi:Option Int):(vo z lo hi).length<=z.length/\∀ c ∈ (vo z lo hi).cps.toList,c ∈ z.cps.toList:=by
 have hn:z.cps.toList.length=z.length:=by simp [dm]
 unfold vo
 refine ⟨?_,fun c hc=>?_⟩
 ·show (List.toArray _).size<=_
  rw [aR,ca,cW];omega
 ·exact i8 (gr hc)
theorem jf (z:Str):QF z ↔ ∀ c ∈ z.cps.toList,c<128:=by
 unfold QF
 rw [Array.all_eq_true]
 constructor
 ·intro h c hc
  obtain ⟨i,hi,rfl⟩:=gn.mp hc
  have:=h i (by simpa using hi)
  simpa using this
 ·intro h i hi
  simpa using h z.cps[i] (by simp)
variable {z:Str}
theorem Asc.cut (h:Asc z)(lo hi:Option Int):Asc (vo z lo hi):=⟨(jf _).mpr fun c hc=>(jf _).mp h.a c ((KW z lo hi).2 c hc),bu (KW z lo hi).1 h.l⟩
noncomputable def Xk (z:Str):Bool:=if fN z (aj "-")=true then !decide (z=aj "-0") && jb (vo z (some 1) none) else jb z
noncomputable def Wv:ASp:=fun xs M Q=>∃ z,xs=[.d (.str z)]/\Asc z/\Q (.d (.bl (Xk z))) M
noncomputable abbrev vj:cn:=top 36
theorem w8:zp ["word"] ["word"] (zd vj):=⟨rfl,rfl,rfl,by decide +kernel,rfl,by decide +kernel,by decide +kernel⟩
theorem XY (a:At K mg "is_roll" vj)(B:Blt mg)(D_is_number:Df P w K mg base "is_number" ["word"] 1 (cSp ZP)):Df P w K mg base "is_roll" ["word"] 2 (cSp Wv):=by
 refine dfA (k:=1) a w8 (fun _ _ _ _ _ _=>Pn1_ fun _=>rfl) (fun xs M Q h=>?_) (fun f cdv A outer s H E hr=>?_)
 ·obtain ⟨_,rfl,_⟩:=h;rfl
 have sc:=w8
 have hsl:=hsl
 refine ⟨_,(zc (qb (qY (jH ci PySem.F.slot_str_startswith PySem.F.type_str_startswith Yt (pv 0) (za zl zb)) (fun _=>rfl)) (zf (zr (yZ (zX (qL hr.units) (pv 0) zl (zy _)) (vL (zH D_is_number hr rfl (za (qG Bt (pv 0) (qP ze) jz) zb)))))) zF)
  (zf (zr (zH D_is_number hr rfl (za (pv 0) zb))))),?_⟩
 refine ex2 (by walk_at "sim") ?_
 rintro xs M Q ⟨z,rfl,az,q⟩
 rw [show zA ["word"] [.d (.str z)]=[some (.d (.str z))] from rfl]
 have al:=az.l
 unfold Xk at q
 walk_at "ra"
 refine ⟨⟨_,rfl⟩,?_⟩
 by_cases c1:fN z (aj "-")=true
 ·rw [if_pos c1] at q ⊢
  by_cases c2:z=aj "-0"
  ·rw [decide_eq_true c2] at q
   rw [if_neg (by simpa using c2)]
   exact qa Fr.refl q
  ·rw [decide_eq_false c2] at q
   rw [if_pos c2]
   exact ⟨by omega,_,rfl,az.cut _ _,qa Fr.refl q⟩
 ·rw [if_neg c1] at q ⊢
  exact ⟨_,rfl,az,qa Fr.refl q⟩
theorem VP {α:Type}(x:α)(l:List α):Yb (x :: l) (some 1) none=l:=by
 rw [show (some 1:Option Int)=some ((1:Nat):Int) from rfl,Yj];rfl
structure Ws (ws:List Str):Prop where
 ne:ws ≠ []
 a:∀ z ∈ ws,Asc z
 l:ws.length<=1000
noncomputable def qo (ws:List Str):Str:=ws.headD mw
noncomputable def jo (ws:List Str):Bool:=decide (qo ws=aj "row") && (decide (ws.tail.length<=60) && ws.tail.all kj)
noncomputable abbrev stD (ws:List Str):Dat:=.lst (ws.map .str)
noncomputable def Vg:ASp:=fun xs M Q=>∃ ws,xs=[.d (stD ws)]/\Ws ws/\Q (.d (.bl (jo ws))) M
noncomputable abbrev yd:cn:=top 37
theorem yT:zp ["words","things","word"] ["words"] (zd yd):=⟨rfl,rfl,rfl,by decide +kernel,rfl,by decide +kernel,by decide +kernel⟩
theorem Jt (a:At K mg "is_first_row" yd)(B:Blt mg)(Ball:mg "all"=none)(D_is_thing:Df P w K mg base "is_thing" ["word"] 1 (cSp Vb)) (GL:Glb mg tk):Df P w K mg base "is_first_row" ["words"] 2 (cSp Vg):=by
 refine dfA (k:=1) a yT (fun _ _ _ _ _ _=>Pn1_ fun _=>rfl) (fun xs M Q h=>?_) (fun f cdv A outer s H E hr=>?_)
 ·obtain ⟨_,rfl,_⟩:=h;rfl
 have sc:=yT
 have hsl:=hsl
 refine ⟨_,(zc (zw (i:=1) sc.nd rfl (by first | exact bn rfl | exact bq rfl) (qG jZ (pv 0) (qP ze) jz))
  (zf (zr (yZ (zX (jB hr.units) (zM qc (pv 0) ze (fun _ _=>rfl)) zl (zy _)) (yZ (zX wO (zn zm rfl B.len zP (za (pv 1) zb)) (j3 (v:=.int 60) rfl GL.MOST_THINGS ⟨_,rfl⟩) (zy _)) (vL (zn (kC rfl) rfl Ball Zn (za (qH (ts:=[2]) rfl rfl (kO (pv 1)) (fun _ _ _ _=>(zE (i:=2) sc.nd rfl (by first | exact bn rfl | exact bq rfl))) (fun _ _ _ _=>qJ) (fun _ _ _ _=>(zH D_is_thing hr rfl (za (pv 2) zb)))) zb)))))))),?_⟩
 refine ex2 (by walk_at "sim") ?_
 rintro xs M Q ⟨ws,rfl,hw,q⟩
 rw [show zA ["words","things","word"] [.d (stD ws)]=[some (.d (stD ws)),none,none] from rfl]
 obtain ⟨h,r,rfl⟩:∃ h r,ws=h :: r:=by
  cases ws with
  | nil=>exact absurd rfl hw.ne
  | cons h r=>exact ⟨h,r,rfl⟩
 have hl:=hw.l
 rw [aV] at hl
 rw [show jo (h :: r)=(decide (h=aj "row") && (decide (r.length<=60) && r.all kj)) from rfl] at q
 refine zk fun r1 hr1=>?_
 walk_at "ra"
 refine ⟨r.map .str,by rw [VP,qd],?_⟩
 subst hr1
 walk_at "ra"
 refine ⟨_,QH _ _,_,rfl,by rw [ZL];omega,?_⟩
 rw [ZC]
 by_cases c1:h=aj "row"
 case neg=>rw [decide_eq_false c1] at q ⊢;rw [if_neg (by decide)];exact qa Fr.refl q
 rw [decide_eq_true c1] at q ⊢
 rw [if_pos rfl]
 rw [et] at q
 by_cases c2:(r.length:Int)<=60
 case neg=>rw [if_neg c2];rw [decide_eq_false (show ¬ r.length<=60 by omega)] at q;exact qa Fr.refl q
 rw [if_pos c2]
 rw [decide_eq_true (show r.length<=60 by omega),et] at q
 rw [bH]
 refine kE (fun o=>[some (.d (stD (h :: r))),some (.d (.lst (r.map .str))),o]) (fun z:Str=>AV.d (.str z)) (fun z=>.d (.bl (kj z))) r ⟨_,rfl⟩ trivial (by omega) (fun o z Q hz q=>?_) fun o=>?_
 ·have q:=q (some (.d (.str z)))
  show jC 2 (AV.d (.str z)) _ _ _
  walk_at "ra"
  exact ⟨z,rfl,hw.a z (ba _ hz),q⟩
 refine ⟨r.map fun z=>.bl (kj z),qC _ _,r.map kj,by rw [bH,bH];rfl,?_⟩
 rw [gF]
 exact qa Fr.refl q
noncomputable def vM (z:Str):Option Int:=
 if z=aj "roll" then some 1 else if z=aj "turn" then some 2 else if z=aj "weave" then some 0 else if z=aj "unweave" then some 0 else if z=aj "gather" then some 0 else if z=aj "swap" then some 2 else if z=aj "undo" then some 0 else if z=aj "row" then some 0 else if z=aj "moves" then some 0 else if z=aj "rings" then some 0 else if z=aj "place" then some 1 else none
noncomputable abbrev nbK:List (Key × V):=[(.inr (aj "roll"),.int 1),(.inr (aj "turn"),.int 2),(.inr (aj "weave"),.int 0),(.inr (aj "unweave"),.int 0),(.inr (aj "gather"),.int 0),(.inr (aj "swap"),.int 2),(.inr (aj "undo"),.int 0),(.inr (aj "row"),.int 0),(.inr (aj "moves"),.int 0),(.inr (aj "rings"),.int 0),(.inr (aj "place"),.int 1)]
noncomputable def qy (ws:List Str):Bool:=
 let w:=qo ws
 if w ≠ aj "order"/\vM w ≠ some (ws.tail.length:Int) then false
 else if w=aj "roll" then Xk (qo ws.tail)
 else ws.tail.all jb
noncomputable def V5:ASp:=fun xs M Q=>∃ ws,xs=[.d (stD ws)]/\Ws ws/\Q (.d (.bl (qy ws))) M
theorem Bb {s z:Str}{v:V}{r:List (Key × V)}:jk ((.inr s,v) :: r) (.inr z)=if z=s then some v else jk r (.inr z):=by
 by_cases c:z=s
 ·rw [if_pos c,c];exact Z5 rfl
 ·rw [if_neg c];exact QR fun h=>c (aZ.inj h).symm
theorem IR (z:Str):jk nbK (.inr z)=(vM z).map V.int:=by
  unfold nbK vM
  simp only [Bb]
  repeat (first
    | rfl
    | (split
       · rfl))
noncomputable abbrev xI:cn:=top 38
theorem vB:zp ["words","word","numbers","number"] ["words"] (zd xI):=⟨rfl,rfl,rfl,by decide +kernel,rfl,by decide +kernel,by decide +kernel⟩
theorem JF (a:At K mg "is_later_row" xI)(B:Blt mg)(Ball:mg "all"=none)(D_is_number:Df P w K mg base "is_number" ["word"] 2 (cSp ZP))(D_is_roll:Df P w K mg base "is_roll" ["word"] 2 (cSp Wv)){pn:aE}(KN:KD K w pn nbK)(MN:mg "NUMBERS_BEHIND"=some (.ref pn)):Df P w K mg base "is_later_row" ["words"] 3 (cSp V5):=by
 refine dfA (k:=2) a vB (fun _ _ _ _ _ _=>Pn1_ fun _=>rfl) (fun xs M Q h=>?_) (fun f cdv A outer s H E hr=>?_)
 ·obtain ⟨_,rfl,_⟩:=h;rfl
 have sc:=vB
 have hsl:=hsl
 refine ⟨_,(zc (zw (i:=1) sc.nd rfl (by first | exact bn rfl | exact bq rfl) (zM qc (pv 0) ze (fun _ _=>rfl)))
  (zc (zw (i:=2) sc.nd rfl (by first | exact bn rfl | exact bq rfl) (qG jZ (pv 0) (qP ze) jz))
  (zc (qb (PW.pt (GZ (zJ (qL hr.units) (pv 1) zl (zy _)) (Ef (zJ (qL hr.units) (Dh KN rfl MN (pv 1) ⟨rfl,rfl,rfl,rfl⟩) (zn zm rfl B.len zP (za (pv 2) zb)) (zy _))))) (zf (zr j8)) zF)
  (zc (qb (zJ (jB hr.units) (pv 1) zl (zy _)) (zf (zr (zH D_is_roll hr rfl (za (zM qc (pv 2) ze (fun _ _=>rfl)) zb)))) zF)
  (zf (zr (zn (kC rfl) rfl Ball Zn (za (qH (ts:=[3]) rfl rfl (kO (pv 2)) (fun _ _ _ _=>(zE (i:=3) sc.nd rfl (by first | exact bn rfl | exact bq rfl))) (fun _ _ _ _=>qJ) (fun _ _ _ _=>(zH D_is_number hr rfl (za (pv 3) zb)))) zb)))))))),?_⟩
 refine ex2 (by walk_at "sim") ?_
 rintro xs M Q ⟨ws,rfl,hw,q⟩
 rw [show zA ["words","word","numbers","number"] [.d (stD ws)]=[some (.d (stD ws)),none,none,none] from rfl]
 obtain ⟨h,r,rfl⟩:∃ h r,ws=h :: r:=by
  cases ws with
  | nil=>exact absurd rfl hw.ne
  | cons h r=>exact ⟨h,r,rfl⟩
 have hl:=hw.l
 rw [aV] at hl
 rw [show qy (h :: r)=(if h ≠ aj "order"/\vM h ≠ some (r.length:Int) then false else if h=aj "roll" then Xk (qo r) else r.all jb) from rfl] at q
 refine zk fun r1 hr1=>?_
 walk_at "ra"
 refine ⟨_,QH _ _,?_⟩
 subst hr1
 refine zk fun r1 hr1=>?_
 walk_at "ra"
 refine ⟨r.map .str,by rw [VP,qd],?_⟩
 subst hr1
 refine zk fun r1 hr1=>?_
 walk_at "ra"
 have hr0:(r.map Dat.str).length=r.length:=ap _
 have go:¬ (h ≠ aj "order"/\vM h ≠ some (r.length:Int))->r1 M { nx:=fun x M'=>rtA M Q (AV.d Dat.non) M',rt:=rtA M Q } [some (AV.d (stD (h :: r))),some (AV.d (Dat.str h)),some (AV.d (Dat.lst (bQ Dat.str r))),none] M:=fun hc=>by
  rw [if_neg hc] at q
  subst hr1
  refine zk fun r1 hr1=>?_
  walk_at "ra"
  by_cases c1:h=aj "roll"
  ·rw [if_pos c1] at q ⊢
   obtain ⟨x,r',rfl⟩:∃ x r',r=x :: r':=by
    cases r with
    | nil=>
     exfalso
     refine hc ⟨by rw [c1];decide +kernel,?_⟩
     unfold vM
     rw [if_pos c1]
     decide
    | cons x r'=>exact ⟨x,r',rfl⟩
   exact ⟨_,QH _ _,x,rfl,hw.a x (by simp),qa Fr.refl q⟩
  ·rw [if_neg c1] at q ⊢
   subst hr1
   walk_at "ra"
   rw [bH]
   refine kE (fun o=>[some (.d (stD (h :: r))),some (.d (.str h)),some (.d (.lst (r.map .str))),o]) (fun z:Str=>AV.d (.str z)) (fun z=>.d (.bl (jb z))) r ⟨_,rfl⟩ trivial (by omega) (fun o z Q hz q=>?_) fun o=>?_
   ·have q:=q (some (.d (.str z)))
    show jC 3 (AV.d (.str z)) _ _ _
    walk_at "ra"
    exact ⟨z,rfl,hw.a z (ba _ hz),q⟩
   refine ⟨r.map fun z=>.bl (jb z),qC _ _,r.map jb,by rw [bH,bH];rfl,?_⟩
   rw [gF]
   exact qa Fr.refl q
 by_cases c0:h=aj "order"
 ·rw [if_neg (fun z=>z c0)]
  exact go fun z=>z.1 c0
 rw [if_pos c0,IR]
 cases hm:vM h with
 | none=>
  refine ⟨.non,rfl,by rw [WE];omega,?_⟩
  rw [VF,if_pos rfl]
  rw [if_pos ⟨c0,by rw [hm];exact fun z=>nomatch z⟩] at q
  exact qa Fr.refl q
 | some m=>
  refine ⟨.int m,rfl,by rw [Jr];omega,?_⟩
  rw [Kg]
  by_cases c2:m=(r.length:Int)
  ·rw [if_neg (by rw [decide_eq_true c2];decide)]
   exact go fun z=>z.2 (by rw [hm,c2])
  ·rw [if_pos (decide_eq_false c2)]
   rw [if_pos ⟨c0,by rw [hm];exact fun z=>c2 (bO z)⟩] at q
   exact qa Fr.refl q
noncomputable def ql:Nat->List (List Str)->List Str->Except Nat (List (List Str))
  | at_,read,[]=>if read=[] then .error at_ else .ok read
  | at_, read, row :: rs => if 100 <= at_ \/ 300 < row.length then .error at_ else if row = aj "" then ql (at_ + 1) read rs else
      if (if read=[] then jo (Txt.split row (sg 32)) else qy (Txt.split row (sg 32)))=true then ql (at_+1) (read ++ [Txt.split row (sg 32)]) rs else .error at_
noncomputable def j7 (z:Str):Except Nat (List (List Str)):=ql 0 [] (Txt.split z (sg 10))
noncomputable def fnR (vs:List V):List (Str × V):=[("row",vs.getD 0 .non)]
noncomputable abbrev B6 (i:Nat):List (Str × V):=[("row",.int i)]
noncomputable abbrev yV:cn:=(yD (top 4) 0)
theorem wF:zp ["self","row"] ["self","row"] (zd yV):=⟨rfl,rfl,rfl,by decide +kernel,rfl,by decide +kernel,by decide +kernel⟩
theorem IU {C f:aE}{fd:dv}(F:Fun K "__init__" "BadRow.__init__" yV f fd)(q:xL K C Y6 "ValueError.__new__" f=true)(hf:eP K (.ref f)=true)(S:Ys K C "row"):MkX P w K mg base C 1 1 fnR:=by
 refine Ga (k:=0) F wF (fun _ _ _ _ _ _=>Pn2_ fun _ _=>rfl) q hf rfl (fun cdv A outer s H E=>?_)
 have sc:=wF
 refine ⟨_,(zf (EW (pv 0) (pv 1) rfl)),?_⟩
 intro a t0 us Q hl ha hq
 match us,hl with
 | [v],_=>
  show FA _ _ _ _ _ _ _
  refine ⟨v,rfl,.ref a,rfl,a,C,t0,rfl,S,.inl ⟨ha,fun dx hd hne=>hq dx hd hne⟩⟩
theorem Zb (h:Asc z) {p:Str}(hp:p ∈ Txt.split z ⟨#[c]⟩):Asc p:=⟨(jf _).mpr fun d hd=>(jf _).mp h.a d ((vX hp).2 d hd),bu (vX hp).1 h.l⟩
theorem Vs (h:Asc z)(hl:z.length<=300):Ws (Txt.split z (sg 32)):=⟨vI _ _,fun p hp=>Zb h hp,bu (yX _ _) (by omega)⟩
noncomputable def FI (cR:aE):Zi:=fun xs M Q E=>∃ z,xs=[.d (.str z)]/\Asc z/\(∀ i,j7 z=.error i->E cR (B6 i) M)/\∀ rs,j7 z=.ok rs->Q (.d (.lst (rs.map stD))) M
noncomputable abbrev ZV:cn:=top 39
theorem Qz:zp ["text","rows","read","at","row","words","written"] ["text"] (zd ZV):=⟨rfl,rfl,rfl,by decide +kernel,rfl,by decide +kernel,by decide +kernel⟩
variable {cBadRow:aE}
theorem WN (a:At K mg "rows_read" ZV)(B:Blt mg) (GL:Glb mg tk)(XG_BadRow:mg "BadRow"=some (.ref cBadRow))(MX_BadRow:MkX P w K mg base cBadRow 2 1 fnR)(D_is_later_row:Df P w K mg base "is_later_row" ["words"] 3 (cSp V5))(D_is_first_row:Df P w K mg base "is_first_row" ["words"] 3 (cSp Vg)):DfX P w K mg base "rows_read" ["text"] 4 (yP (FI cBadRow)):=by
 refine LU (k:=3) a Qz (fun _ _ _ _ _ _=>Pn1_ fun _=>rfl) (fun xs M Q E h=>?_) (fun f cdv A outer s H HX OX MX E1 hr hD=>?_)
 ·obtain ⟨_,rfl,_⟩:=h;rfl
 have sc:=Qz
 have hsl:=hsl
 refine ⟨_,(zc (zw (i:=1) sc.nd rfl (by first | exact bn rfl | exact bq rfl) (jH ci iD iE QG (pv 0) (za zl zb)))
  (zc (zw (i:=2) sc.nd rfl (by first | exact bn rfl | exact bq rfl) (xM (zK zb)))
  (zc (jW hD.po rfl (yf rfl B.enumerate (za (pv 1) zb)) (jS (K:=K) 2 rfl rfl (zZ (zE (i:=3) sc.nd rfl (by first | exact bn rfl | exact bq rfl)) (zZ (zE (i:=4) sc.nd rfl (by first | exact bn rfl | exact bq rfl)) jV))) (zc (qb (PW.pt (QK (zJ WJ (pv 3) (j3 (v:=.int 100) rfl GL.MOST_ROWS ⟨_,rfl⟩) (zy _)) (vT (zJ kh (zn xO rfl B.len zP (za (pv 4) zb)) (j3 (v:=.int 300) rfl GL.MOST_SIGNS ⟨_,rfl⟩) (zy _))))) (zf (xR hD rfl MX_BadRow hr rfl XG_BadRow (za (pv 3) zb))) zF)
  (zf (qb (zJ (qL hr.units) (pv 4) zl (zy _)) (zc (zw (i:=5) sc.nd rfl (by first | exact bn rfl | exact bq rfl) (jH ci iD iE QG (pv 4) (za zl zb)))
  (zc (zw (i:=6) sc.nd rfl (by first | exact bn rfl | exact bq rfl) (QO (zJ kh (zn zm rfl B.len zP (za (pv 2) zb)) ze (zy _)) (zH D_is_later_row hr rfl (za (pv 5) zb)) (zH D_is_first_row hr rfl (za (pv 5) zb))))
  (zc (qb (kc (qY (pv 6) (fun _=>rfl))) (zf (xR hD rfl MX_BadRow hr rfl XG_BadRow (za (pv 3) zb))) zF)
  (zf (xf (jH cL cZ db jG (pv 2) (za (pv 5) zb))))))) zF))))
  (zc (qb (zJ (jB hr.units) (zn zm rfl B.len zP (za (pv 2) zb)) ze (zy _)) (zf (xR hD rfl MX_BadRow hr rfl XG_BadRow (za (zn zm rfl B.len zP (za (pv 1) zb)) zb))) zF)
  (zf (zr (pv 2))))))),?_⟩
 refine exX (by walk_at "sim") ?_
 rintro xs Q E0 rfl ⟨z,rfl,az,qe,q⟩
 rw [show zA ["text","rows","read","at","row","words","written"] [.d (.str z)]=[some (.d (.str z)),none,none,none,none,none,none] from rfl]
 refine zk fun r1 hr1=>?_
 walk_at "ra"
 have al:=az.l
 refine ⟨⟨_,rfl⟩,10,by decide +kernel,by omega,?_⟩
 have hm:=yX z 10
 have hne:=vI z 10
 have has:∀ p ∈ Txt.split z ⟨#[10]⟩,Asc p:=fun p hp=>Zb az hp
 have hM:j7 z=ql 0 [] (Txt.split z ⟨#[10]⟩):=rfl
 rw [hM] at qe q
 clear hM
 generalize Txt.split z ⟨#[10]⟩=rows at *
 subst hr1
 refine zk fun r1 hr1=>?_
 walk_at "ra"
 intro p hp _
 subst hr1
 refine zk fun r1 hr1=>?_
 walk_at "ra"
 generalize hR:ql 0 [] rows=R at *
 have bad:∀ (j:Nat) (M':MH),Fr MX M'->R=.error j->∃ vs,[YB (AV.d (Dat.int (j:Int)))]=bQ some vs/\vs.length=1/\1<=1000/\exA MX E0 cBadRow (fnR vs) M':=fun j M' fr h=>⟨[.int j],rfl,rfl,by decide,_,wt fr .non,qe j h⟩
 refine ⟨fun i ρ M'=>∃ rd u3 u4 u5 u6,ρ=[some (.d (.str z)),some (.d (.lst (rows.map .str))),some (.ref p),u3,u4,u5,u6]/\M'=mup MX p (.lst (rd.map fun ws=>AV.d (stD ws)))/\ql i rd (rows.drop i)=R/\rd.length<=i,⟨[],_,_,_,_,rfl,rfl,by rw [i7];exact hR,aL _⟩,?_,?_⟩
 ·rintro i y ρ M' hy ⟨rd,u3,u4,u5,u6,rfl,rfl,hg,lr⟩
  obtain ⟨d,hd,rfl⟩:=jJ hy
  rw [aK] at hd
  obtain ⟨row,hrow,rfl⟩:=cw.mp hd
  have hi:=(aP.mp hrow).1
  have arow:=has row (br hrow)
  have fr:Fr MX (mup MX p (.lst (rd.map fun ws=>AV.d (stD ws)))):=Fr.refl.mup hp _
  have hpl:mup MX p (.lst (rd.map fun ws=>AV.d (stD ws))) p=some (.lst (rd.map fun ws=>AV.d (stD ws))):=zq
  rw [gW hi,show rows[i]=row from (aP.mp hrow).2] at hg
  refine ⟨trivial,?_⟩
  refine ⟨_,rfl,rfl,?_⟩
  show Jn _ _ _ _ _ _
  refine ⟨_,_,rfl,?_⟩
  refine ⟨_,_,rfl,?_⟩
  refine ⟨rfl,?_⟩
  unfold ql at hg
  refine zk fun r2 hr2=>?_
  walk_at "ra"
  by_cases c1:(100:Int)<=i
  ·rw [if_pos c1]
   rw [if_pos (.inl (by omega))] at hg
   exact bad i _ fr hg.symm
  rw [if_neg c1]
  refine ⟨bu arow.l (by omega),?_⟩
  by_cases c2:(300:Int)<row.length
  ·rw [if_pos c2]
   rw [if_pos (.inr (by omega))] at hg
   exact bad i _ fr hg.symm
  rw [if_neg c2]
  rw [if_neg (by omega)] at hg
  subst hr2
  walk_at "ra"
  by_cases c3:row=aj ""
  ·rw [if_pos c3] at hg
   rw [if_neg (fun z=>z c3)]
   exact ⟨⟨_,rfl⟩,rd,rfl,hg,by omega⟩
  rw [if_neg c3] at hg
  rw [if_pos c3]
  refine ⟨⟨_,rfl⟩,32,by decide +kernel,by have:=arow.l;omega,_,js hpl,?_⟩
  have hw:=Vs arow (by omega)
  have tail:∀ b:Bool,(if rd=[] then jo (Txt.split row (sg 32)) else qy (Txt.split row (sg 32)))=b ->
    if b=false then ∃ vs,[YB (AV.d (Dat.int (i:Int)))]=bQ some vs/\vs.length=1/\1<=1000/\exA MX E0 cBadRow (fnR vs) (mup MX p (.lst (rd.map fun ws=>AV.d (stD ws))))
    else (∃ l,qi (.ref p) (mup MX p (.lst (rd.map fun ws=>AV.d (stD ws))))=some l)/\∃ x3,mup MX p (.lst (rd.map fun ws=>AV.d (stD ws))) p=some (MO.lst x3)/\x3.length<aT/\(∃ x,some (AV.d (Dat.bl b))=x) /\
     ∃ x4:List (List Str),mup (mup MX p (.lst (rd.map fun ws=>AV.d (stD ws)))) p (.lst (x3 ++ [AV.d (Dat.lst (bQ Dat.str (Txt.split row { cps:=#[32] })))]))=mup MX p (.lst (x4.map fun ws=>AV.d (stD ws)))/\ql (i+1) x4 (List.drop (i+1) rows)=R/\x4.length<=i+1:=fun b hb=>by
   rw [hb] at hg
   cases b with
   | false=>
    rw [if_pos rfl]
    rw [if_neg (by decide)] at hg
    exact bad i _ fr hg.symm
   | true=>
    rw [if_neg (by decide)]
    rw [if_pos rfl] at hg
    refine ⟨⟨_,qU hpl⟩,_,hpl,by rw [ap];omega,⟨_,rfl⟩,rd ++ [Txt.split row (sg 32)],?_,hg,by rw [aQ,b7];omega⟩
    rw [yC,bU];rfl
  rw [ap]
  by_cases c4:rd=[]
  ·rw [if_pos c4] at tail
   subst c4
   rw [if_neg (by decide)]
   exact ⟨_,rfl,hw,_,rfl,tail _ rfl⟩
  ·rw [if_neg c4] at tail
   rw [if_pos (by have:=eZ.mpr c4;omega)]
   exact ⟨_,rfl,hw,_,rfl,tail _ rfl⟩
 ·rintro ρ M' ⟨rd,u3,u4,u5,u6,rfl,rfl,hg,lr⟩
  refine ⟨trivial,?_⟩
  rw [iB (by rw [qN,ap];exact aL _)] at hg
  subst hr1
  dsimp only
  refine zk fun r1 hr1=>?_
  walk_at "ra"
  have fr:Fr MX (mup MX p (.lst (rd.map fun ws=>AV.d (stD ws)))):=Fr.refl.mup hp _
  unfold ql at hg
  refine ⟨_,js zq,?_⟩
  rw [ap]
  by_cases c:rd=[]
  ·rw [if_pos c] at hg
   subst c
   rw [if_pos (show ((([]:List (List Str)).length:Nat):Int)=0 from rfl)]
   have e:(yi (rows.map Dat.str)).length=rows.length:=by rw [qN,ap]
   exact bad _ _ fr (by rw [<- hg,e])
  ·rw [if_neg c] at hg
   rw [if_neg (by have:=eZ.mpr c;omega)]
   subst hr1
   walk_at "ra"
   exact ⟨_,_,ZS fr hp zq (qC _ _),q rd hg.symm⟩
noncomputable def wl:ASp:=fun xs M Q=>∃ (b:aE) (many:Int) (N:Nat),xs=[.ref b,.d (.int many)]/\BxM M b N/\N<1000000000/\0<many/\many<1073741824/\∀ r M',BxS M M' b (N+1)->0<=r->r<many->Q (.d (.int r)) M'
theorem Dv (vs:List V)(H:Hp)(Q:VK)(E:XK)(h:cSp wl vs H Q E):Wc vs H Q E:=by
 obtain ⟨xs,M,O,Q',w,r,⟨b,many,N,rfl,hb,h1,h2,h3,q⟩,k⟩:=h
 obtain ⟨v,u,rfl,rv,ru⟩:=ya r
 rw [zI ru,rv.1]
 refine ⟨b,many,N,rfl,hb.bx w,h1,h2,h3,fun r H' kp hb' r0 r1=>?_⟩
 obtain ⟨M',s,e,w'⟩:=IS w hb kp hb'
 exact k _ _ _ _ _ (q r M' s r0 r1) e w' .int
noncomputable def Lx:ASp:=fun xs M Q=>∃ (x:AV) (k:Int) (cs:List Int),xs=[x,.d (.int k)]/\qi x M=some (cs.map fun i=>.d (.int i))/\0<=k/\k<=1000/\cs.length<=1000/\∀ p o,M p=none->BxM (mup M p o) p 0->Q (.ref p) (mup M p o)
theorem Hw (vs:List V)(H:Hp)(Q:VK)(E:XK)(h:cSp Lx vs H Q E):FE vs H Q E:=by
 obtain ⟨xs,M,O,Q',w,r,⟨x,n,cs,rfl,hx,h1,h2,h3,q⟩,k⟩:=h
 obtain ⟨v,u,rfl,rv,ru⟩:=ya r
 rw [zI ru]
 obtain ⟨a,rfl,ha⟩:=A1 w rv hx
 refine ⟨a,n,cs,rfl,ha,h1,h2,h3,fun p H' kp hp hb'=>?_⟩
 obtain ⟨x',y',z',g1,g2⟩:=hb'
 obtain ⟨e1,w1⟩:=JM w kp
 have fr:=w.fresh hp
 have e2:=Ext.owned (O':=xi O p) (p:=p) w ⟨fun a o h e=>⟨(e1.fix a o h e).1,fun z=>z.elim (zj e hp) h⟩,fun a h e=>⟨(e1.prv a h e).1,.inr h,e⟩,fun _ h=>h⟩ hp (.lst ([x',y',z'].map fun i=>.d (.int i)))
 refine k _ _ _ _ _ (q p _ fr.2 ⟨x',y',z',zq,g2⟩) e2 (Je (O:=xi O p) (xs:=[V.int x',V.int y',V.int z']) ⟨fun a o h=>?_,fun a h=>.inr (w1.own a h),fun a h=>?_⟩ (.inl rfl) fr.2 g1 (Jv [x',y',z'])) ⟨rfl,by rw [zq];exact fun z=>nomatch z⟩
 ·have e3:Ext H O M H' (xi O p) M:=⟨fun a o h e=>⟨(e1.fix a o h e).1,fun z=>z.elim (zj e hp) h⟩,fun a h e=>⟨(e1.prv a h e).1,.inr h,e⟩,fun _ h=>h⟩
  refine qA.ext e3 ?_ (w.mo a o h)
  obtain ⟨u,hu,_⟩:=w.al a (w.own a (je h))
  rw [hu];exact kp a u (by simp) hu
 ·rcases h with rfl | h
  ·exact ⟨_,g1,fun xs z=>nomatch z⟩
  ·exact w1.al a h
noncomputable def XD (K:au):ASp:=fun xs M Q=>∃ (m:Int) (ns:List Int),xs=[.d (.scr K ns),.d (.int m)]/\0<m/\m<=60/\ns.length<=63/\∀ cs:List Int,cs.length<=1000->Q (.d (.lst (cs.map .int))) M
theorem YT (vs:List V)(H:Hp)(Q:VK)(E:XK)(h:cSp (XD K) vs H Q E):QC K vs H Q E:=by
 obtain ⟨xs,M,O,Q',w,r,⟨m,ns,rfl,h1,h2,h3,q⟩,k⟩:=h
 obtain ⟨v,u,rfl,rv,ru⟩:=ya r
 rw [zI ru]
 obtain ⟨a,rfl,ha⟩:=Xg rv
 refine ⟨a,m,ns,rfl,ha,h1,h2,h3,fun p H' cs kp hp hc lc=>?_⟩
 obtain ⟨e1,w1⟩:=JM w kp
 exact k _ _ _ _ _ (q cs lc) e1 w1 (Qx (w.fresh hp).1 hc)
noncomputable def W3:ASp:=fun xs M Q=>∃ (x:AV) (n:Nat) (os:List Int),xs=[x]/\qM x M=some (os.map fun i=>.d (.int i))/\zB n os/\n<=1000/\Q (.d (.lst ((jt os n).map ilD))) M
theorem WX (vs:List V)(H:Hp)(Q:VK)(E:XK)(h:cSp W3 vs H Q E):Xa K vs H Q E:=by
 obtain ⟨xs,M,O,Q',w,r,⟨x,n,os,rfl,hx,ho,hn,q⟩,k⟩:=h
 obtain ⟨v,rfl,rv⟩:=qD r
 obtain ⟨a,rfl,ha⟩:=WK w rv hx
 refine ⟨a,n,os,rfl,ha.elim (fun h=>.inl (SqL.of h)) (fun h=>.inr (SqT.of h)),ho,hn,fun p H' rs kp hp h1 h2 er=>?_⟩
 obtain ⟨e1,w1⟩:=JM w kp
 refine k _ _ _ _ _ q e1 w1 (Rep.lst (w.fresh hp).1 h1 (by rw [<- er];unfold rfs;simp) fun i x d i1 i2=>?_)
 rw [<- er] at i2
 unfold rfs at i1
 rw [aK] at i1 i2
 rw [aK] at i2
 cases e:rs[i]? with
 | none=>rw [e] at i1;cases i1
 | some y=>
  rw [e] at i1 i2
  cases i1;cases i2
  have:=h2 y (br e)
  exact Qx (w.fresh this.1).1 this.2.2
noncomputable def LL:ASp:=fun xs M Q=>∃ (x:AV) (n:Nat) (os:List Int),xs=[x]/\qM x M=some (os.map fun i=>.d (.int i))/\os.length=n/\n<=1000/\Q (.d (.int (ZN os n:Nat))) M
noncomputable abbrev VJ:cn:=top 13
theorem Bj:zp ["order","place","goal"] ["order"] (zd VJ):=⟨rfl,rfl,rfl,by decide +kernel,rfl,by decide +kernel,by decide +kernel⟩
theorem HP (a:At K mg "off" VJ)(B:Blt mg):Df P w K mg base "off" ["order"] 1 (cSp LL):=by
 refine dfA (k:=0) a Bj (fun _ _ _ _ _ _=>Pn1_ fun _=>rfl) (fun xs M Q h=>?_) (fun f cdv A outer s H E hr=>?_)
 ·obtain ⟨_,_,_,rfl,_⟩:=h;rfl
 have sc:=Bj
 have hsl:=hsl
 refine ⟨_,(zf (zr (zn zm rfl B.len zP (za (qH (ts:=[1,2]) rfl rfl (yf rfl B.enumerate (za (pv 0) zb)) (fun _ _ _ _=>(jS (K:=K) 2 rfl rfl (zZ (zE (i:=1) sc.nd rfl (by first | exact bn rfl | exact bq rfl)) (zZ (zE (i:=2) sc.nd rfl (by first | exact bn rfl | exact bq rfl)) jV)))) (fun _ _ _ _=>DH (zJ (qL hr.units) (pv 1) (pv 2) (zy _))) (fun _ _ _ _=>(pv 1))) zb)))),?_⟩
 refine ex2 (by walk_at "sim") ?_
 rintro xs M Q ⟨x,n,os,rfl,hx,ho,hn,q⟩
 rw [show zA ["order","place","goal"] [x]=[some x,none,none] from rfl]
 walk_at "ra"
 refine ⟨_,hx,_,jh _,?_⟩
 refine ⟨fun i acc ρ M'=>M=M'/\(∃ ks:List Int,acc=ks.map (fun k=>AV.d (.int k))/\ks.length=ZN os i)/\∃ u v,ρ=[some x,u,v],⟨rfl,⟨[],rfl,rfl⟩,_,_,rfl⟩,?_,?_⟩
 ·rintro i y acc ρ M' hy ⟨rfl,⟨ks,rfl,lk⟩,u,v,rfl⟩
  refine ⟨hx,?_⟩
  obtain ⟨d,hd,rfl⟩:=jJ hy
  rw [aK] at hd
  cases e:os[i]? with
  | none=>rw [e] at hd;cases hd
  | some k=>
   rw [e] at hd
   cases hd
   have hk:os.getD i 0=k:=by rw [aA,e];rfl
   have st:ZN os (i+1)=ZN os i+if k=(i:Int) then 0 else 1:=by
    unfold ZN
    rw [fh,lU,aQ]
    congr 1
    simp only [List.filter_cons,List.filter_nil,hk]
    by_cases c:k=(i:Int)
    ·simp [c]
    ·simp [c]
   have hi:=(aP.mp e).1
   have le:ZN os i<=i:=by have:=iS (fun (i:Nat)=>!decide (os.getD i 0=(i:Int))) (bP i);rw [cC] at this;exact this
   walk_at "ra"
   by_cases c:k=(i:Int)
   ·rw [if_pos c] at st
    rw [if_neg (not_not_intro c.symm)]
    exact ⟨⟨ks,rfl,by omega⟩,_,rfl⟩
   ·rw [if_neg c] at st
    rw [if_pos (fun z=>c z.symm)]
    exact ⟨bt (show ks.length<1001 by omega) (by decide),⟨ks ++ [(i:Int)],by rw [bU];rfl,by rw [aQ];show _+1=_;omega⟩,_,rfl⟩
 ·rintro acc ρ M' ⟨rfl,⟨ks,rfl,lk⟩,u,v,rfl⟩
  refine ⟨hx,_,jh _,?_⟩
  rw [ap,lk,qN,ap,ho]
  exact qa Fr.refl q
noncomputable def FW:ASp:=fun xs M Q=>∃ (x:AV) (n:Nat) (os:List Int),xs=[x]/\qM x M=some (os.map fun i=>.d (.int i))/\zB n os/\n<=1000/\Q (.d (.int (ZN os n+(jt os n).length))) M
noncomputable abbrev Jm:cn:=top 20
theorem KC:zp ["order"] ["order"] (zd Jm):=⟨rfl,rfl,rfl,by decide +kernel,rfl,by decide +kernel,by decide +kernel⟩
theorem Ep (a:At K mg "fewest_moves" Jm)(B:Blt mg)(D_off:Df P w K mg base "off" ["order"] 3 (cSp LL))(D_rings:Df P w K mg base "rings" ["order"] 3 (cSp W3)):Df P w K mg base "fewest_moves" ["order"] 4 (cSp FW):=by
 refine dfA (k:=3) a KC (fun _ _ _ _ _ _=>Pn1_ fun _=>rfl) (fun xs M Q h=>?_) (fun f cdv A outer s H E hr=>?_)
 ·obtain ⟨_,_,_,rfl,_⟩:=h;rfl
 have sc:=KC
 have hsl:=hsl
 refine ⟨_,(zf (zr (zu qf (zH D_off hr rfl (za (pv 0) zb)) (zn zm rfl B.len zP (za (zH D_rings hr rfl (za (pv 0) zb)) zb))))),?_⟩
 refine ex2 (by walk_at "sim") ?_
 rintro xs M Q ⟨x,n,os,rfl,hx,ho,hn,q⟩
 rw [show zA ["order"] [x]=[some x] from rfl]
 walk_at "ra"
 refine ⟨x,n,os,rfl,hx,ho.1,hn,x,n,os,rfl,hx,ho,hn,_,rfl,_,rfl,?_⟩
 rw [ap,ap]
 exact qa Fr.refl q
noncomputable def Yx:Dat->Option (List Dat)
 | .lst l=>some l
 | .tup l=>some l
 | _=>none
theorem HZ {d:Dat}{l:List Dat}(h:Yx d=some l)(M:MH):qM (.d d) M=some (l.map .d):=by
 cases d with
 | lst m=>cases h;rfl
 | tup m=>cases h;rfl
 | _=>cases h
variable {d:Dat} {os:List Int}
theorem jD (h:Yx d=some (os.map .int))(M:MH):qM (.d d) M=some (os.map fun i=>.d (.int i)):=by rw [HZ h,wG]
variable {G:MH->Prop} {n:Nat} {M:MH}
theorem GA {τ:Type}(R:τ->ASt)(f:Nat->Int){ag:AG}{ae:AE} {N:List AV->ASt->MH->Prop} {ρ:ASt} (h0:∃ o,ρ=R o)(hG:G M)(hl:n<=100000)
  (hs:∀ (o:τ) (i:Nat) (Q:AV->ASt->MH->Prop),i<n->(∀ o',Q (.d (.int (f i))) (R o') M)->ag (.d (.int (i:Int))) (R o) M fun ρ2 M2=>ae ρ2 M2 fun y M3=>Q y ρ2 M3) (hN:∀ o,N (((bP n).map f).map fun i=>AV.d (.int i)) (R o) M):YR ag wL (yN ae) G N (J0 0 1 n) [] ρ M:=by
 refine B3 R (fun i=>.d (.int (f i))) h0 hG (by rw [xD];exact hl) (fun o i x Q hx q=>?_) fun o=>?_
 ·obtain ⟨hi,rfl⟩:=vU hx
  rw [mr,iV]
  exact hs o i Q hi q
 ·rw [xD]
  have:=hN o
  rw [bH] at this
  exact this
noncomputable def y6 (n:Nat)(k:Int):List Int:=(bP n).map fun (i:Nat)=>((i:Int)+k) % (n:Int)
noncomputable def ZF (one other:List Int):List Int:=one.map fun p=>other.getD p.toNat 0
noncomputable def FL:ASp:=fun xs M Q=>∃ (n:Nat) (k:Int),xs=[.d (.int n),.d (.int k)]/\n<=2000/\Q (.d (ilD (y6 n k))) M
noncomputable abbrev J7:cn:=top 22
theorem Xd:zp ["n","k","place"] ["n","k"] (zd J7):=⟨rfl,rfl,rfl,by decide +kernel,rfl,by decide +kernel,by decide +kernel⟩
theorem Dq (a:At K mg "roll_order" J7)(B:Blt mg):Df P w K mg base "roll_order" ["n","k"] 1 (cSp FL):=by
 refine dfA (k:=0) a Xd (fun _ _ _ _ _ _=>Pn2_ fun _ _=>rfl) (fun xs M Q h=>?_) (fun f cdv A outer s H E hr=>?_)
 ·obtain ⟨_,_,rfl,_⟩:=h;rfl
 have sc:=Xd
 have hsl:=hsl
 refine ⟨_,(zf (zr (qH (ts:=[2]) rfl rfl (xV rfl B.range (za (pv 0) zb)) (fun _ _ _ _=>(zE (i:=2) sc.nd rfl (by first | exact bn rfl | exact bq rfl))) (fun _ _ _ _=>qJ) (fun _ _ _ _=>(zu jj (zu qf (pv 2) (pv 1)) (pv 0)))))),?_⟩
 refine ex2 (by walk_at "sim") ?_
 rintro xs M Q ⟨n,k,rfl,hn,q⟩
 rw [show zA ["n","k","place"] [.d (.int n),.d (.int k)]=[some (.d (.int n)),some (.d (.int k)),none] from rfl]
 walk_at "ra"
 refine ⟨by omega,by omega,?_⟩
 rw [bB]
 refine GA (fun o=>[some (.d (.int n)),some (.d (.int k)),o]) (fun i=>((i:Int)+k) % (n:Int)) ⟨_,rfl⟩ trivial (by omega) (fun o i Q hi q=>?_) fun o=>⟨_,jh _,qa Fr.refl q⟩
 walk_at "ra"
 exact ⟨by omega,q _⟩
noncomputable def Ac:ASp:=fun xs M Q=>∃ (dx dy:Dat) (a b:List Int),xs=[.d dx,.d dy]/\Yx dx=some (a.map .int)/\Yx dy=some (b.map .int)/\a.length=b.length/\b.length<=2000/\(∀ p ∈ a,0<=p/\p<(b.length:Int))/\Q (.d (ilD (ZF a b))) M
noncomputable def Mz (b:List Int):AV->AV
 | .d (.int p)=>.d (.int (b.getD p.toNat 0))
 | x=>x
noncomputable abbrev Zu:cn:=top 11
theorem QE:zp ["one","other","place"] ["one","other"] (zd Zu):=⟨rfl,rfl,rfl,by decide +kernel,rfl,by decide +kernel,by decide +kernel⟩
theorem Bi (a:At K mg "after" Zu)(B:Blt mg):Df P w K mg base "after" ["one","other"] 1 (cSp Ac):=by
 refine dfA (k:=0) a QE (fun _ _ _ _ _ _=>Pn2_ fun _ _=>rfl) (fun xs M Q h=>?_) (fun f cdv A outer s H E hr=>?_)
 ·obtain ⟨_,_,_,_,rfl,_⟩:=h;rfl
 have sc:=QE
 have hsl:=hsl
 refine ⟨_,(zc (qb (zJ (qL hr.units) (zn zm rfl B.len zP (za (pv 0) zb)) (zn zm rfl B.len zP (za (pv 1) zb)) (zy _)) (zf Q8) zF)
  (zf (zr (qH (ts:=[2]) rfl rfl (kO (pv 0)) (fun _ _ _ _=>(zE (i:=2) sc.nd rfl (by first | exact bn rfl | exact bq rfl))) (fun _ _ _ _=>qJ) (fun _ _ _ _=>(zM (Ir (K:=K) rfl) (pv 1) (pv 2) (fun _ _=>rfl))))))),?_⟩
 refine ex2 (by walk_at "sim") ?_
 rintro xs M Q ⟨dx,dy,a,b,rfl,hx,hy,hl,hb,hp,q⟩
 rw [show zA ["one","other","place"] [.d dx,.d dy]=[some (.d dx),some (.d dy),none] from rfl]
 walk_at "ra"
 refine ⟨_,jD hx M,_,jD hy M,?_⟩
 rw [ap,ap,if_neg (by omega)]
 refine ⟨_,jD hx M,?_⟩
 refine Ih (fun o=>[some (.d dx),some (.d dy),o]) (Mz b) ⟨_,rfl⟩ (jD hx M) (by rw [ap];omega) (fun o y Q hy2 q=>?_) fun o=>?_
 ·obtain ⟨p,hp2,rfl⟩:=cv.mp hy2
  have hb2:=hp p hp2
  walk_at "ra"
  exact ⟨_,jD hy M,_,Ae hb2.1 hb2.2,q _⟩
 ·rw [show (a.map fun i=>AV.d (.int i)).map (Mz b)=(ZF a b).map fun i=>AV.d (.int i) by unfold ZF;rw [bH,bH];rfl]
  exact ⟨_,jh _,qa Fr.refl q⟩
noncomputable def Xh:ASp:=fun xs M Q=>∃ (dx:Dat) (n:Nat) (os:List Int),xs=[.d dx]/\Yx dx=some (os.map .int)/\zB n os/\n<=2000/\∀ bs,kQ os bs->Q (.d (ilD bs)) M
noncomputable abbrev Jq:cn:=top 12
theorem K8:zp ["order","back","place","goal"] ["order"] (zd Jq):=⟨rfl,rfl,rfl,by decide +kernel,rfl,by decide +kernel,by decide +kernel⟩
theorem Du (a:At K mg "back_of" Jq)(B:Blt mg):Df P w K mg base "back_of" ["order"] 1 (cSp Xh):=by
 refine dfA (k:=0) a K8 (fun _ _ _ _ _ _=>Pn1_ fun _=>rfl) (fun xs M Q h=>?_) (fun f cdv A outer s H E hr=>?_)
 ·obtain ⟨_,_,_,rfl,_⟩:=h;rfl
 have sc:=K8
 have hsl:=hsl
 refine ⟨_,(zc (zw (i:=1) sc.nd rfl (by first | exact bn rfl | exact bq rfl) (xM (zu xc (zK (za ze zb)) (zn zm rfl B.len zP (za (pv 0) zb)))))
  (zc (jW cJ rfl (yf rfl B.enumerate (za (pv 0) zb)) (jS (K:=K) 2 rfl rfl (zZ (zE (i:=2) sc.nd rfl (by first | exact bn rfl | exact bq rfl)) (zZ (zE (i:=3) sc.nd rfl (by first | exact bn rfl | exact bq rfl)) jV))) (zf (jN (pv 2) (jT (pv 1) (pv 3) qu))))
  (zf (zr (pv 1))))),?_⟩
 refine ex2 (by walk_at "sim") ?_
 rintro xs M Q ⟨dx,n,os,rfl,hx,ho,hn,q⟩
 rw [show zA ["order","back","place","goal"] [.d dx]=[some (.d dx),none,none,none] from rfl]
 have h1:=ho.1
 refine zk fun r hr0=>?_
 walk_at "ra"
 refine ⟨by omega,_,jD hx M,by rw [ap];omega,by rw [ap];omega,by rw [ap];omega,fun p hp _=>?_⟩
 rw [ap,h1,bB,Ki]
 have hp1:=zq (M:=M) (a:=p) (o:=.lst (aH n (AV.d (.int 0))))
 have f1:=(Fr.refl (M:=M)).mup hp (.lst (aH n (AV.d (.int 0))))
 subst hr0
 refine zk fun r hr0=>?_
 walk_at "ra"
 refine ⟨_,jD hx _,_,jh _,?_⟩
 refine ⟨fun i ρ M'=>∃ u v bs,ρ=[some (.d dx),some (.ref p),u,v]/\M'=mup M p (.lst (bs.map fun i=>AV.d (.int i)))/\bs.length=n/\∀ j,j<i->bs.getD (os.getD j 0).toNat 0=(j:Int),⟨none,none,aH n 0,rfl,by rw [bN],by simp,fun j hj=>nomatch hj⟩,?_,?_⟩
 ·rintro i y ρ M' hy ⟨u,v,bs,rfl,rfl,lb,hj⟩
  refine ⟨jD hx _,?_⟩
  obtain ⟨d,hd,rfl⟩:=jJ hy
  rw [aK] at hd
  cases e:os[i]? with
  | none=>rw [e] at hd;cases hd
  | some k=>
   rw [e] at hd
   cases hd
   have hi:=(aP.mp e).1
   have hk:os.getD i 0=k:=by rw [aA,e];rfl
   have kb:=ho.2.2 k (br e)
   walk_at "ra"
   refine ⟨_,zq,k.toNat,by rw [ap,kP kb.1 (by omega)],bs.set k.toNat (i:Int),?_,by rw [bT];exact lb,fun j hj'=>?_⟩
   ·rw [fO]
   ·rw [WA (by omega)]
    by_cases c:j=i
    ·subst c;rw [hk,if_pos rfl]
    ·rw [if_neg,hj j (by omega)]
     intro z
     have gj:=ho.getD (i:=j) (by omega)
     exact c (ho.inj (by omega) (by omega) (by rw [hk];omega))
 ·rintro ρ M' ⟨u,v,bs,rfl,rfl,lb,hj⟩
  refine ⟨jD hx _,?_⟩
  subst hr0
  walk_at "ra"
  refine ⟨_,_,ZS (Fr.refl.mup hp _) hp zq (jh _),q bs ⟨by omega,fun i hi=>hj i ?_⟩⟩
  simp only [qN,ap]
  exact hi
noncomputable def MG:Dat->Bool
 | .non=>true | .bl _=>true | .int _=>true | .str _=>true
 | _=>false
noncomputable def Lo:ASp:=fun _ _ _=>False
noncomputable def Vh:ASp:=fun xs M Q=>∃ d:Dat,xs=[.d d]/\MG d=true/\Q (.d d) M
noncomputable abbrev yF:cn:=top 9
theorem vq:zp ["thing","part"] ["thing"] (zd yF):=⟨rfl,rfl,rfl,by decide +kernel,rfl,by decide +kernel,by decide +kernel⟩
theorem Wm (a:At K mg "own_copy" yF)(B:Blt mg)(D_own_copy:Df P w K mg base "own_copy" ["thing"] 1 (cSp Lo)):Df P w K mg base "own_copy" ["thing"] 2 (cSp Vh):=by
 refine dfA (k:=1) a vq (fun _ _ _ _ _ _=>Pn1_ fun _=>rfl) (fun xs M Q h=>?_) (fun f cdv A outer s H E hr=>?_)
 ·obtain ⟨_,rfl,_⟩:=h;rfl
 have sc:=vq
 have hsl:=hsl
 refine ⟨_,(zc (qb (qY (zn xk rfl B.isinstance qv (za (pv 0) (za (kD (v:=.ty "list") rfl B.list yA rfl) zb))) (fun _=>rfl)) (zf (zr (qH (ts:=[1]) rfl rfl (kO (pv 0)) (fun _ _ _ _=>(zE (i:=1) sc.nd rfl (by first | exact bn rfl | exact bq rfl))) (fun _ _ _ _=>qJ) (fun _ _ _ _=>(zH D_own_copy hr rfl (za (pv 1) zb)))))) zF)
  (zc (qb (qY (zn xk rfl B.isinstance qv (za (pv 0) (za (kD (v:=.ty "tuple") rfl B.tuple vP rfl) zb))) (fun _=>rfl)) (zf (zr (zL vY rfl B.tuple vP (za (qH (ts:=[1]) rfl rfl (kO (pv 0)) (fun _ _ _ _=>(zE (i:=1) sc.nd rfl (by first | exact bn rfl | exact bq rfl))) (fun _ _ _ _=>qJ) (fun _ _ _ _=>(zH D_own_copy hr rfl (za (pv 1) zb)))) zb)))) zF)
  (zf (zr (pv 0))))),?_⟩
 refine ex2 (by walk_at "sim") ?_
 rintro xs M Q ⟨d,rfl,hd,q⟩
 rw [show zA ["thing","part"] [.d d]=[some (.d d),none] from rfl]
 cases d with
 | non=>walk_at "ra";exact qa Fr.refl q
 | bl b=>walk_at "ra";exact qa Fr.refl q
 | int b=>walk_at "ra";exact qa Fr.refl q
 | str b=>walk_at "ra";exact qa Fr.refl q
 | _=>cases hd
theorem YD (a:At K mg "own_copy" yF):Df P w K mg base "own_copy" ["thing"] 1 (cSp Lo):=
 vi (k:=0) a vq (fun _ _ _ _ _ _=>Pn1_ fun _=>rfl) (fun vs H Q E h=>by obtain ⟨_,_,_,_,_,_,h,_⟩:=h;exact h.elim) (fun f cdv A outer s H vs Q E hr h=>by obtain ⟨_,_,_,_,_,_,h,_⟩:=h;exact h.elim)
def Vw (ts:List Dat)(os:List Int)(rs:List Dat):Prop:=rs.length=os.length/\∀ i,i<os.length->rs[(os.getD i 0).toNat]?=ts[i]?
noncomputable def Fp:ASp:=fun xs M Q=>∃ (n:Nat) (ts:List Dat) (os:List Int),xs=[.d (.lst ts),.d (ilD os)]/\ts.length=n/\(∀ t ∈ ts,MG t=true)/\zB n os/\n<=1000/\∀ rs,Vw ts os rs->Q (.d (.lst rs)) M
noncomputable def oDD:Option Dat->Dat
 | none=>.non
 | some d=>d
noncomputable abbrev BA:cn:=top 10
theorem VM:zp ["things","order","row","place","thing"] ["things","order"] (zd BA):=⟨rfl,rfl,rfl,by decide +kernel,rfl,by decide +kernel,by decide +kernel⟩
theorem Iw (a:At K mg "put" BA)(B:Blt mg)(D_own_copy:Df P w K mg base "own_copy" ["thing"] 2 (cSp Vh)):Df P w K mg base "put" ["things","order"] 3 (cSp Fp):=by
 refine dfA (k:=2) a VM (fun _ _ _ _ _ _=>Pn2_ fun _ _=>rfl) (fun xs M Q h=>?_) (fun f cdv A outer s H E hr=>?_)
 ·obtain ⟨_,_,_,rfl,_⟩:=h;rfl
 have sc:=VM
 have hsl:=hsl
 refine ⟨_,(zc (qb (zJ (qL hr.units) (zn zm rfl B.len zP (za (pv 0) zb)) (zn zm rfl B.len zP (za (pv 1) zb)) (zy _)) (zf Q8) zF)
  (zc (zw (i:=2) sc.nd rfl (by first | exact bn rfl | exact bq rfl) (xM (zu xc (zK (za JN zb)) (zn zm rfl B.len zP (za (pv 1) zb)))))
  (zc (jW cJ rfl (VB rfl B.zip (za (pv 1) (za (pv 0) zb))) (jS (K:=K) 2 rfl rfl (zZ (zE (i:=3) sc.nd rfl (by first | exact bn rfl | exact bq rfl)) (zZ (zE (i:=4) sc.nd rfl (by first | exact bn rfl | exact bq rfl)) jV))) (zf (jN (zH D_own_copy hr rfl (za (pv 4) zb)) (jT (pv 2) (pv 3) qu))))
  (zf (zr (pv 2)))))),?_⟩
 refine ex2 (by walk_at "sim") ?_
 rintro xs M Q ⟨n,ts,os,rfl,tl,tf,ho,hn,q⟩
 rw [show zA ["things","order","row","place","thing"] [.d (.lst ts),.d (ilD os)]=[some (.d (.lst ts)),some (.d (ilD os)),none,none,none] from rfl]
 have ol:=ho.1
 refine zk fun r hr0=>?_
 walk_at "ra"
 rw [if_neg (by omega)]
 subst hr0
 refine zk fun r hr0=>?_
 walk_at "ra"
 refine ⟨by omega,by omega,by omega,by omega,fun p hp _=>?_⟩
 rw [ol,bB,Ki]
 subst hr0
 refine zk fun r hr0=>?_
 walk_at "ra"
 refine ⟨os.map .int,ts,.inl ⟨(wG os).symm,rfl⟩,?_⟩
 refine ⟨fun i ρ M'=>∃ u v cs,ρ=[some (.d (.lst ts)),some (.d (ilD os)),some (.ref p),u,v]/\M'=mup M p (.lst (cs.map fun c=>AV.d (oDD c)))/\cs.length=n/\∀ j,j<i->cs[(os.getD j 0).toNat]?=some ts[j]?,⟨none,none,aH n none,rfl,by rw [bN];rfl,by simp,fun j hj=>nomatch hj⟩,?_,?_⟩
 ·rintro i y ρ M' hy ⟨u,v,cs,rfl,rfl,lc,hj⟩
  refine ⟨trivial,?_⟩
  obtain ⟨d,e,h1,h2,rfl⟩:=vC hy
  rw [aK] at h1
  cases e1:os[i]? with
  | none=>rw [e1] at h1;cases h1
  | some k=>
   rw [e1] at h1
   cases h1
   have hi:=(aP.mp e1).1
   have hk:os.getD i 0=k:=by rw [aA,e1];rfl
   have kb:=ho.2.2 k (br e1)
   walk_at "ra"
   refine ⟨_,rfl,tf e (br h2),_,zq,k.toNat,by rw [ap,kP kb.1 (by omega)],cs.set k.toNat (some e),by rw [yC,fO];rfl,by rw [bT];exact lc,fun j hj'=>?_⟩
   rw [cB]
   by_cases c:j=i
   ·subst c;rw [hk,if_pos rfl,if_pos (by omega),h2]
   ·rw [if_neg,hj j (by omega)]
    intro z
    have gj:=ho.getD (i:=j) (by omega)
    exact c (ho.inj (by omega) (by omega) (by rw [hk];omega))
 ·rintro ρ M' ⟨u,v,cs,rfl,rfl,lc,hj⟩
  refine ⟨trivial,?_⟩
  rw [xm,ap] at hj
  subst hr0
  walk_at "ra"
  refine ⟨_,_,ZS (Fr.refl.mup hp _) hp zq (ds:=cs.map oDD) (qC _ _),q _ ⟨by rw [ap];omega,fun i hi=>?_⟩⟩
  have:=hj i (by omega)
  rw [aK,this]
  have:i<ts.length:=by omega
  rw [aq this];rfl
noncomputable abbrev yc:cn:=top 7
theorem y9:zp ["thing","seen","place"] ["thing"] (zd yc):=⟨rfl,rfl,rfl,by decide +kernel,rfl,by decide +kernel,by decide +kernel⟩
noncomputable abbrev kT:cn:=top 6
theorem yj:zp ["thing","n"] ["thing","n"] (zd kT):=⟨rfl,rfl,rfl,by decide +kernel,rfl,by decide +kernel,by decide +kernel⟩
noncomputable def yJ (d:Dat)(n:Int):Bool:=match d with
 | .int i=>decide (0<=i/\i<n)
 | _=>false
noncomputable def vf:ASp:=fun xs M Q=>∃ (d:Dat) (n:Int),xs=[.d d,.d (.int n)]/\dp d<=100/\Q (.d (.bl (yJ d n))) M
theorem Qs (a:At K mg "is_place" kT)(B:Blt mg):Df P w K mg base "is_place" ["thing","n"] 1 (cSp vf):=by
 refine dfA (k:=0) a yj (fun _ _ _ _ _ _=>Pn2_ fun _ _=>rfl) (fun xs M Q h=>?_) (fun f cdv A outer s H E hr=>?_)
 ·obtain ⟨_,_,rfl,_⟩:=h;rfl
 have sc:=yj
 have hsl:=hsl
 refine ⟨_,(zc (qb (PW.pt (QK (qY (zn xk rfl B.isinstance qv (za (pv 0) (za (kD (v:=.ty "bool") rfl B.bool B7 rfl) zb))) (fun _=>rfl)) (vT (kc (qY (zn xk rfl B.isinstance qv (za (pv 0) (za (kD (v:=.ty "int") rfl B.int jn rfl) zb))) (fun _=>rfl)))))) (zf (zr j8)) zF)
  (zf (zr (Z3 wO Fm ze (pv 0) (pv 1))))),?_⟩
 refine ex2 (by walk_at "sim") ?_
 rintro xs M Q ⟨d,n,rfl,hd,q⟩
 rw [show zA ["thing","n"] [.d d,.d (.int n)]=[some (.d d),some (.d (.int n))] from rfl]
 have fin:=fun b=>wt (M0:=M) Fr.refl (.bl b)
 cases d with
 | non=>walk_at "ra";exact ⟨_,_,fin _,q⟩
 | bl b=>walk_at "ra";exact ⟨_,_,fin _,q⟩
 | str b=>walk_at "ra";exact ⟨_,_,fin _,q⟩
 | lst b=>walk_at "ra";exact ⟨_,_,fin _,q⟩
 | tup b=>walk_at "ra";exact ⟨_,_,fin _,q⟩
 | int i=>
  walk_at "ra"
  have q:Q (.d (.bl (decide (0<=i/\i<n)))) M:=q
  by_cases c:0<=i
  ·rw [if_pos c]
   rw [show decide (0<=i/\i<n)=decide (i<n) by simp [c]] at q
   walk_at "ra"
   exact ⟨_,_,fin _,q⟩
  ·rw [if_neg c]
   rw [show decide (0<=i/\i<n)=false by simp [c]] at q
   walk_at "ra"
   exact ⟨_,_,fin _,q⟩
 | ty _=>rw [dp] at hd;omega
 | rng _ _ _=>rw [dp] at hd;omega
 | scr _ _=>rw [dp] at hd;omega
def qX (l:List Dat):Prop:=∃ os:List Int,l=os.map .int/\zB l.length os
open Classical in
noncomputable def vm:Dat->Bool
 | .lst l=>decide (qX l)
 | .tup l=>decide (qX l)
 | _=>false
open Classical in
theorem Zx (l:List Dat):vm (.lst l)=if qX l then true else false:=by
 unfold vm
 by_cases h:qX l <;> simp [h]
open Classical in
theorem BR (l:List Dat):vm (.tup l)=if qX l then true else false:=by
 unfold vm
 by_cases h:qX l <;> simp [h]
theorem YL (h:zB n os):qX (os.map .int):=⟨os,rfl,by rw [ap,h.1];exact h⟩
theorem QN {d:Dat}{n:Int}(h:yJ d n=true):∃ k:Int,d=.int k/\0<=k/\k<n:=by
 cases d with
 | int k=>exact ⟨k,rfl,of_decide_eq_true h⟩
 | _=>cases h
theorem DB {l:List Dat}(h:qX l){i:Nat}{d:Dat}(hi:l[i]?=some d):yJ d (l.length:Nat)=true:=by
 obtain ⟨os,rfl,ho⟩:=h
 rw [aK] at hi
 cases e:os[i]? with
 | none=>rw [e] at hi;cases hi
 | some k=>
  rw [e] at hi;cases hi
  exact decide_eq_true (ho.2.2 k (br e))
theorem EG {l:List Dat}(h:qX l){os:List Int}{i:Nat}{k:Int}(ht:l.take i=os.map .int)(hi:l[i]?=some (.int k)):k ∉ os:=by
 obtain ⟨qs,rfl,ho⟩:=h
 intro hk
 rw [aK] at hi
 cases e:qs[i]? with
 | none=>rw [e] at hi;cases hi
 | some k'=>
  rw [e] at hi;cases hi
  have ht:qs.take i=os:=by
   rw [<- List.map_take] at ht
   exact (lV (fun _ _ z=>Dat.int.inj z)).mp ht
  rw [<- ht] at hk
  obtain ⟨j,hj,ej⟩:=List.mem_take_iff_getElem.mp hk
  obtain ⟨hi',ei⟩:=aP.mp e
  have:=(h9 (h₀:=by omega) (h₁:=hi') ho.2.1).mp (ej.trans ei.symm)
  omega
noncomputable def Z2:ASp:=fun xs M Q=>∃ (x:AV) (d:Dat),xs=[x]/\wb x M=some d/\xA 100 d/\Q (.d (.bl (vm d))) M
theorem vg {x:AV}{l:List Dat} {D:kM} (hG:∀ o,G (mup M p o))(hp:M p=none)(hl:l.length<=100000)(hd:∀ d ∈ l,dp d<=100)(hx:qM x M=some (l.map .d))(hrt:∀ M',Fr M M'->¬ qX l->D.rt (.d (.bl false)) M')(hnx:∀ u M',Fr M M'->qX l->D.nx [some x,some (.ref p),u] M'){B:MH} :
  FN (jC 2) (Jp (EH (aOr (IJ (aB (VA vf (xh (QS 2) (xh (aCB Il (xh (QS 0) Jy)) Jy))))) (aB (aOp (aIx qM) (QS 1) (QS 2)))) (HM (aC (Dat.bl false))) Ky) (X1 (aC (Dat.bl true)) (AL (QS 1) (QS 2) asL)))
   B D G (l.map .d) [some x,some (.ref p),none] (mup M p (.lst ((aH l.length false).map fun b=>.d (.bl b)))):=by
 refine ⟨fun i ρ M'=>∃ (u:Option AV) (bs:List Bool) (os:List Int),ρ=[some x,some (.ref p),u]/\M'=mup M p (.lst (bs.map fun b=>.d (.bl b)))/\bs.length=l.length/\l.take i=os.map .int/\os.Nodup/\(∀ k ∈ os,0<=k/\k<(l.length:Int))/\∀ k:Nat,k<l.length->(bs.getD k false=true ↔ (k:Int) ∈ os),?_,?_,?_⟩
 ·refine ⟨none,_,[],rfl,rfl,cD,rfl,List.nodup_nil,(fun k hk=>nomatch hk),fun k hk=>?_⟩
  rw [aA,dQ,if_pos hk]
  simp
 ·rintro i y ρ M' hy ⟨u,bs,os,rfl,rfl,lb,ht,nd,hb,hm⟩
  rw [aK] at hy
  cases e:l[i]? with
  | none=>rw [e] at hy;cases hy
  | some d=>
   rw [e] at hy
   cases hy
   refine ⟨hG _,?_⟩
   walk_at "ra"
   rw [vk hx hp]
   walk_at "ra"
   refine ⟨d,_,rfl,hd d (br e),_,rfl,?_⟩
   cases c:yJ d (l.length:Nat) with
   | false=>
    walk_at "ra"
    exact hrt _ (Fr.refl.mup hp _) fun z=>by rw [DB z e] at c;cases c
   | true=>
    obtain ⟨k,rfl,k0,k1⟩:=QN c
    walk_at "ra"
    rw [js zq]
    have hk:=hm k.toNat (by omega)
    rw [lw k0] at hk
    have hat:atI (bs.map fun b=>AV.d (.bl b)) k=some (.d (.bl (bs.getD k.toNat false))):=by rw [Xc,Wg k0 (by omega) false];rfl
    walk_at "ra"
    rw [hat]
    walk_at "ra"
    cases c2:bs.getD k.toNat false with
    | true=>
     walk_at "ra"
     exact hrt _ (Fr.refl.mup hp _) fun z=>EG z ht e (hk.mp c2)
    | false=>
     walk_at "ra"
     have hno:k ∉ os:=fun z=>by rw [hk.mpr z] at c2;cases c2
     refine ⟨_,zq,k.toNat,by rw [ap,kP k0 (by omega)],bs.set k.toNat true,?_,by rw [bT];exact lb,os ++ [k],?_,?_,?_,?_⟩
     ·rw [fO]
     ·rw [hV,e,ht,bU];rfl
     ·rw [List.nodup_append]
      exact ⟨nd,by simp,fun a ha b hb'=>by rw [bG.mp hb'];exact fun z=>hno (z ▸ ha)⟩
     ·intro j hj
      rcases cq.mp hj with z | z
      ·exact hb j z
      ·rw [bG.mp z];exact ⟨k0,k1⟩
     ·intro j hj
      rw [wB (by omega),cq,bG]
      by_cases cj:j=k.toNat
      ·rw [if_pos cj]
       exact ⟨fun _=>.inr (by omega),fun _=>rfl⟩
      ·rw [if_neg cj,hm j hj]
       exact ⟨.inl,fun z=>z.resolve_right (by omega)⟩
 ·rintro ρ M' ⟨u,bs,os,rfl,rfl,lb,ht,nd,hb,hm⟩
  rw [ap,eS] at ht
  refine ⟨hG _,hnx u _ (Fr.refl.mup hp _) ⟨os,ht,?_,nd,hb⟩⟩
  rw [ht,ap]
theorem Q4 (a:At K mg "is_order" yc)(B:Blt mg)(D_is_place:Df P w K mg base "is_place" ["thing","n"] 1 (cSp vf)):Df P w K mg base "is_order" ["thing"] 2 (cSp Z2):=by
 refine dfA (k:=1) a y9 (fun _ _ _ _ _ _=>Pn1_ fun _=>rfl) (fun xs M Q h=>?_) (fun f cdv A outer s H E hr=>?_)
 ·obtain ⟨_,_,rfl,_⟩:=h;rfl
 have sc:=y9
 have hsl:=hsl
 have hs2:0+1+1<=aT:=by omega
 refine ⟨_,(zc (qb (kc (qY (zn XO rfl B.isinstance qv (za (pv 0) (za (zU (za (kD (v:=.ty "list") rfl B.list yA rfl) (za (kD (v:=.ty "tuple") rfl B.tuple vP rfl) zb))) zb))) (fun _=>rfl))) (zf (zr j8)) zF)
  (zc (zw (i:=1) sc.nd rfl (by first | exact bn rfl | exact bq rfl) (xM (zu xc (zK (za j8 zb)) (zn zm rfl B.len zP (za (pv 0) zb)))))
  (zc (jW cJ rfl (kO (pv 0)) (zE (i:=2) sc.nd rfl (by first | exact bn rfl | exact bq rfl)) (zc (qb (PW.pt (QK (kc (qY (zH D_is_place hr rfl (za (pv 2) (za (zn zm rfl B.len zP (za (pv 0) zb)) zb))) (fun _=>rfl))) (vT (qY (zM qc (pv 1) (pv 2) (fun _ _=>rfl)) (fun _=>rfl))))) (zf (zr j8)) zF)
  (zf (jN j8 (jT (pv 1) (pv 2) qu)))))
  (zf (zr j8))))),?_⟩
 refine ex2 (by walk_at "sim") ?_
 rintro xs M Q ⟨x,d,rfl,hx,hd,q⟩
 rw [show zA ["thing","seen","place"] [x]=[some x,none,none] from rfl]
 have fin:=fun b M' (f:Fr M M')=>wt f (.bl b)
 cases d with
 | non=>obtain rfl:=jI hx (fun _ z=>nomatch z);walk_at "ra";exact ⟨hs2,_,_,fin _ _ Fr.refl,q⟩
 | bl b=>obtain rfl:=jI hx (fun _ z=>nomatch z);walk_at "ra";exact ⟨hs2,_,_,fin _ _ Fr.refl,q⟩
 | int b=>obtain rfl:=jI hx (fun _ z=>nomatch z);walk_at "ra";exact ⟨hs2,_,_,fin _ _ Fr.refl,q⟩
 | str b=>obtain rfl:=jI hx (fun _ z=>nomatch z);walk_at "ra";exact ⟨hs2,_,_,fin _ _ Fr.refl,q⟩
 | lst l=>
  obtain ⟨_,hs,t1,_⟩:=We hx
  have t2:=BP
  obtain ⟨hl,hdl⟩:=hd.lst
  have hdl:∀ d ∈ l,dp d<=100:=fun d h=>bu (hdl d h).1 (by omega)
  have he:=Zx l
  walk_at "ra"
  rw [t1]
  walk_at "ra"
  rw [hs]
  walk_at "ra"
  refine ⟨by omega,by omega,by omega,by omega,by omega,fun p hp _=>⟨_,vk hs hp _,?_⟩⟩
  rw [bB,Ki,show aH l.length (AV.d (Dat.bl false))=(aH l.length false).map fun b=>AV.d (.bl b) by rw [bN]]
  refine vg (fun o=>vk hs hp o) hp hl hdl hs (fun M' f hn=>?_) fun u M' f hn=>?_
  ·rw [he,if_neg hn] at q
   exact ⟨_,_,fin _ _ f,q⟩
  ·rw [he,if_pos hn] at q
   walk_at "ra"
   exact ⟨_,_,fin _ _ f,q⟩
 | tup l=>
  obtain rfl:=jI hx (fun _ z=>nomatch z)
  have hs:qM (.d (.tup l)) M=some (l.map .d):=rfl
  have t1:tyA (.d (.tup l)) M=some "tuple":=rfl
  have t2:=WG
  obtain ⟨hl,hdl⟩:=hd.tup
  have hdl:∀ d ∈ l,dp d<=100:=fun d h=>bu (hdl d h).1 (by omega)
  have he:=BR l
  walk_at "ra"
  refine ⟨by omega,by omega,by omega,by omega,by omega,fun p hp _=>?_⟩
  rw [bB,Ki,show aH l.length (AV.d (Dat.bl false))=(aH l.length false).map fun b=>AV.d (.bl b) by rw [bN]]
  refine vg (fun o=>trivial) hp hl hdl hs (fun M' f hn=>?_) fun u M' f hn=>?_
  ·rw [he,if_neg hn] at q
   exact ⟨_,_,fin _ _ f,q⟩
  ·rw [he,if_pos hn] at q
   walk_at "ra"
   exact ⟨_,_,fin _ _ f,q⟩
 | ty t=>have:=hd.1;rw [dp] at this;omega
 | rng _ _ _=>have:=hd.1;rw [dp] at this;omega
 | scr _ _=>have:=hd.1;rw [dp] at this;omega
noncomputable def bL (row:List (Option Int)):List Int:=(bP row.length).map fun k:Nat=>(row.idxOf (some (k:Int)):Int)
theorem Zt (ho:zB n os) (hk:k<n):(k:Int) ∈ os:=by
 obtain ⟨i,hi,e⟩:=ho.ex hk
 have hl:=ho.1
 rw [aA,aq (by omega)] at e
 have e:os[i]=(k:Int):=e
 rw [<- e];exact bI _
theorem KO (os:List Int)(x:Int):(os.map some).idxOf (some x)=os.idxOf x:=by
 induction os with
 | nil=>rfl
 | cons a l ih=>
  rw [bp,List.idxOf_cons,List.idxOf_cons,ih]
  rfl
theorem Ey {os bs:List Int}(ho:zB n os)(hb:kQ os bs):bs=bL (os.map some):=by
 have h1:=ho.1
 unfold bL
 rw [ap]
 refine fX (by rw [ap,cC];exact hb.1) fun k k1 k2=>?_
 rw [List.getElem_map,List.getElem_range,KO]
 have kn:k<n:=by rw [<- h1,<- hb.1];exact k1
 have hm:=Zt ho kn
 have hi:os.idxOf (k:Int)<os.length:=eD hm
 have:=hb.2 (os.idxOf (k:Int)) hi
 have e:os.getD (os.idxOf (k:Int)) 0=(k:Int):=by
  rw [aA,aq hi]
  exact gR hi
 rw [e,bB,aA,aq k1] at this
 exact this
structure SS where
 ws:List Str
 os:List Int
 ds:List (List Int)
 tot:Int
noncomputable abbrev Ye (C dl:aE)(s:SS):MO:=.ins C [("words",.d (stD s.ws)),("order",.d (ilD s.os)),("deeds",.ref dl),("total",.d (.int s.tot))]
noncomputable abbrev dsO (ds:List (List Int)):MO:=.lst (ds.map fun o=>AV.d (ilD o))
structure ShM (C:aE)(M:MH)(p dl:aE)(s:SS):Prop where
 ins:M p=some (Ye C dl s)
 ds:M dl=some (dsO s.ds)
noncomputable def shP (C:aE)(M:MH)(p dl:aE)(s:SS):MH:=mup (mup M p (Ye C dl s)) dl (dsO s.ds)
structure ZX (s:SS):Prop where
 o:zB s.ws.length s.os
 d:∀ o ∈ s.ds,zB s.ws.length o
 n:s.ws.length<=60
 w:∀ z ∈ s.ws,z.length<=8
 dl:s.ds.length<=1000
 t0:0<=s.tot
 t1:s.tot<=1000000
structure STx (K:au)(C:aE):Prop where
 cl:Cls K C
 nw:qE K C "words"
 no:qE K C "order"
 nd:qE K C "deeds"
 nt:qE K C "total"
section
variable {C:aE}{M:MH}{p dl:aE}{s s':SS}
theorem ShM.ne (h:ShM C M p dl s):p ≠ dl:=fun z=>by have:=h.ins;rw [z,h.ds] at this;cases this
theorem ShM.same (h:ShM C M p dl s):shP C M p dl s=M:=by
 funext b
 unfold shP mup
 by_cases c1:b=dl
 ·rw [if_pos c1,c1,h.ds]
 ·rw [if_neg c1]
  by_cases c2:b=p
  ·rw [if_pos c2,c2,h.ins]
  ·rw [if_neg c2]
theorem Z0 (n:p ≠ dl):ShM C (shP C M p dl s) p dl s:=⟨by unfold shP;rw [zG n,zq],by unfold shP;exact zq⟩
theorem Hf {q:aE}(h:q ≠ p/\q ≠ dl):shP C M p dl s q=M q:=by unfold shP;rw [zG h.2,zG h.1]
theorem ShM.fld (h:ShM C M p dl s)(e:s'.ds=s.ds):mup M p (Ye C dl s')=shP C M p dl s':=by
 funext b
 unfold shP mup
 by_cases c1:b=dl
 ·rw [if_neg (fun z=>h.ne (z.symm.trans c1)),if_pos c1,c1,h.ds,e]
 ·rw [if_neg c1]
theorem ShM.again (s1 s2:SS):shP C (shP C M p dl s1) p dl s2=shP C M p dl s2:=by
 funext b
 unfold shP mup
 by_cases c1:b=dl <;> by_cases c2:b=p <;> simp [c1,c2]
theorem KR {M0:MH}(n:p ≠ dl)(s':SS)(d:Dat)(k:∀ q o,M0 q=some o->M0 q=some o):Qj M0 (shP C M0 p dl s') (.d d) (.d d) (shP C M0 p dl s'):=by
 have t:=Z0 (C:=C) (M:=M0) (s:=s') n
 refine ⟨fun q=>.inl rfl,fun q o e=>?_,.inl ⟨rfl,fun p z=>nomatch z⟩⟩
 by_cases c1:q=dl
 ·rw [c1,t.ds] at e
  cases e
  exact .inr fun z hz=>by
   obtain ⟨x,hx,hz⟩:=(show ∃ x ∈ s'.ds.map fun o=>AV.d (ilD o),x.Has z from hz)
   obtain ⟨o,_,rfl⟩:=cv.mp hx
   exact (show False from hz).elim
 ·by_cases c2:q=p
  ·rw [c2,t.ins] at e
   cases e
   refine .inr fun z hz=>?_
   obtain ⟨y,hy,hz⟩:=(show ∃ x ∈ [AV.d (stD s'.ws),AV.d (ilD s'.os),AV.ref dl,AV.d (.int s'.tot)],x.Has z from hz)
   simp only [aJ,bM,or_false] at hy
   rcases hy with rfl | rfl | rfl | rfl
   ·exact (show False from hz).elim
   ·exact (show False from hz).elim
   ·obtain rfl:dl=z:=hz
    rw [t.ds];exact fun z=>nomatch z
   ·exact (show False from hz).elim
  ·rw [Hf ⟨c2,c1⟩] at e;exact .inl e
theorem ShM.rt {Q:AK} (h:ShM C M p dl s)(q:Q (.d d) (shP C M p dl s')):rtA M Q (.d d) (shP C M p dl s'):=⟨_,_,KR h.ne s' d (fun _ _ e=>e),q⟩
end
noncomputable def Fc:ASp:=fun xs M Q=>∃ n:Nat,xs=[.d (.int n)]/\n<=1000/\Q (.d (ilD (jQ 0 1 n))) M
noncomputable abbrev JG:cn:=top 8
theorem Xt:zp ["n"] ["n"] (zd JG):=⟨rfl,rfl,rfl,by decide +kernel,rfl,by decide +kernel,by decide +kernel⟩
theorem Dr (a:At K mg "staying" JG)(B:Blt mg):Df P w K mg base "staying" ["n"] 1 (cSp Fc):=by
 refine dfA (k:=0) a Xt (fun _ _ _ _ _ _=>Pn1_ fun _=>rfl) (fun xs M Q h=>?_) (fun f cdv A outer s H E hr=>?_)
 ·obtain ⟨_,rfl,_⟩:=h;rfl
 have sc:=Xt
 have hsl:=hsl
 refine ⟨_,(zf (zr (zL (wd rfl) rfl B.list yA (za (zL QI rfl B.range W6 (za (pv 0) zb)) zb)))),?_⟩
 refine ex2 (by walk_at "sim") ?_
 rintro xs M Q ⟨n,rfl,hn,q⟩
 rw [show zA ["n"] [.d (.int n)]=[some (.d (.int n))] from rfl]
 walk_at "ra"
 refine ⟨_,_,_,rfl,small_one (by omega) (by omega) (by omega) (by omega),n,by rw [rangeSize_one];split <;> omega,by omega,qa Fr.refl q⟩
noncomputable def qZ (ws:List Str):SS:=⟨ws,jQ 0 1 ws.length,[],0⟩
theorem LS {a b y:AV}:qV (aj "deeds") y [(aj "words",a),(aj "order",b)]=[(aj "words",a),(aj "order",b),(aj "deeds",y)]:=by
 unfold qV;rw [if_neg (by decide +kernel)];unfold qV;rw [if_neg (by decide +kernel)];rfl
theorem Mf {a b c y:AV}:qV (aj "total") y [(aj "words",a),(aj "order",b),(aj "deeds",c)]=[(aj "words",a),(aj "order",b),(aj "deeds",c),(aj "total",y)]:=by
 unfold qV;rw [if_neg (by decide +kernel)];unfold qV;rw [if_neg (by decide +kernel)];unfold qV;rw [if_neg (by decide +kernel)];rfl
noncomputable def ZM (C:aE):ASp:=fun xs M Q=>∃ (p:aE) (ws:List Str),xs=[.ref p,.d (stD ws)]/\M p=some (.ins C [])/\ws.length<=60/\∀ dl,M dl=none->dl ≠ p->Q (.d .non) (shP C M p dl (qZ ws))
noncomputable abbrev yY:cn:=(yD (top 47) 0)
theorem Zc:zp ["self","words"] ["self","words"] (zd yY):=⟨rfl,rfl,rfl,by decide +kernel,rfl,by decide +kernel,by decide +kernel⟩
variable {C:aE}
theorem YH (a:AtM K C "__init__" "Sheet.__init__" yY)(R:STx K C)(B:Blt mg)(D_staying:Df P w K mg base "staying" ["n"] 1 (cSp Fc)):Dm P w K mg base C "__init__" ["self","words"] 2 (cSp (ZM C)):=by
 refine dmA (k:=1) a Zc (fun _ _ _ _ _ _=>Pn2_ fun _ _=>rfl) (fun xs M Q h=>?_) (fun f cdv A outer s H E hr=>?_)
 ·obtain ⟨_,_,rfl,_⟩:=h;rfl
 have sc:=Zc
 have hsl:=hsl
 have CL:=R.cl
 refine ⟨_,(zc (vy (pv 0) (pv 1) rfl)
  (zc (vy (pv 0) (zH D_staying hr rfl (za (zn zm rfl B.len zP (za (pv 1) zb)) zb)) rfl)
  (zc (vy (pv 0) (xM (zK zb)) rfl)
  (zf (vy (pv 0) ze rfl))))),?_⟩
 refine ex2 (by walk_at "sim") ?_
 rintro xs M Q ⟨p,ws,rfl,hp,hn,q⟩
 rw [show zA ["self","words"] [.ref p,.d (stD ws)]=[some (.ref p),some (.d (stD ws))] from rfl]
 refine zk fun r1 hr1=>?_
 walk_at "ra"
 refine ⟨C,[],hp,R.cl,R.nw,cV rfl,?_⟩
 subst hr1
 refine zk fun r1 hr1=>?_
 walk_at "ra"
 refine ⟨ws.length,rfl,by omega,_,_,zq,R.cl,R.no,cV rfl,?_⟩
 rw [yC]
 subst hr1
 refine zk fun r1 hr1=>?_
 walk_at "ra"
 intro dl hdl _
 have n1:dl ≠ p:=fun z=>by rw [z,zq] at hdl;cases hdl
 rw [zG n1] at hdl
 rw [if_neg (show ¬ aj "words"=aj "order" by decide +kernel)]
 refine ⟨_,_,by rw [zG (Ne.symm n1),zq],R.cl,R.nd,cV rfl,?_⟩
 rw [LS]
 subst hr1
 walk_at "ra"
 refine ⟨_,_,zq,R.cl,R.nt,cV rfl,?_⟩
 rw [Mf]
 have em:mup (mup (mup M p (.ins C [(aj "words",.d (stD ws)),(aj "order",.d (ilD (jQ 0 1 ws.length)))])) dl (.lst [])) p (Ye C dl (qZ ws))=shP C M p dl (qZ ws):=by
  funext b
  unfold shP mup
  by_cases c1:b=dl
  ·have:¬ dl=p:=n1
   simp [c1,this,qZ]
  ·by_cases c2:b=p
   ·have:¬ p=dl:=Ne.symm n1
    simp [c2,this,qZ]
   ·simp [c1,c2,qZ]
 show rtA M Q _ (mup (mup (mup M p (.ins C [(aj "words",.d (stD ws)),(aj "order",.d (ilD (jQ 0 1 ws.length)))])) dl (.lst [])) p (Ye C dl (qZ ws)))
 rw [em]
 exact ⟨_,_,KR (Ne.symm n1) _ _ (fun _ _ e=>e),q dl hdl n1⟩
theorem XA (s:SS)(dl:aE):bD (aj "words") [(aj "words",AV.d (stD s.ws)),(aj "order",AV.d (ilD s.os)),(aj "deeds",AV.ref dl),(aj "total",AV.d (.int s.tot))]=some (.d (stD s.ws)):=by
 unfold bD;rw [show (aj "words" == aj "words")=true from by decide +kernel]
theorem Ba (s:SS)(dl:aE):bD (aj "order") [(aj "words",AV.d (stD s.ws)),(aj "order",AV.d (ilD s.os)),(aj "deeds",AV.ref dl),(aj "total",AV.d (.int s.tot))]=some (.d (ilD s.os)):=by
 unfold bD;rw [show (aj "order" == aj "words")=false from by decide +kernel]
 unfold bD;rw [show (aj "order" == aj "order")=true from by decide +kernel]
theorem BK (s:SS)(dl:aE):bD (aj "deeds") [(aj "words",AV.d (stD s.ws)),(aj "order",AV.d (ilD s.os)),(aj "deeds",AV.ref dl),(aj "total",AV.d (.int s.tot))]=some (.ref dl):=by
 unfold bD;rw [show (aj "deeds" == aj "words")=false from by decide +kernel]
 unfold bD;rw [show (aj "deeds" == aj "order")=false from by decide +kernel]
 unfold bD;rw [show (aj "deeds" == aj "deeds")=true from by decide +kernel]
theorem Fl (s:SS)(dl:aE):bD (aj "total") [(aj "words",AV.d (stD s.ws)),(aj "order",AV.d (ilD s.os)),(aj "deeds",AV.ref dl),(aj "total",AV.d (.int s.tot))]=some (.d (.int s.tot)):=by
 unfold bD;rw [show (aj "total" == aj "words")=false from by decide +kernel]
 unfold bD;rw [show (aj "total" == aj "order")=false from by decide +kernel]
 unfold bD;rw [show (aj "total" == aj "deeds")=false from by decide +kernel]
 unfold bD;rw [show (aj "total" == aj "total")=true from by decide +kernel]
theorem Mn (a b d y:AV)(dl:aE):qV (aj "order") y [(aj "words",a),(aj "order",b),(aj "deeds",AV.ref dl),(aj "total",d)]=[(aj "words",a),(aj "order",y),(aj "deeds",AV.ref dl),(aj "total",d)]:=by
 unfold qV;rw [if_neg (by decide +kernel)];unfold qV;rw [if_pos (by decide +kernel)]
theorem Lz (a b d y:AV)(dl:aE):qV (aj "total") y [(aj "words",a),(aj "order",b),(aj "deeds",AV.ref dl),(aj "total",d)]=[(aj "words",a),(aj "order",b),(aj "deeds",AV.ref dl),(aj "total",y)]:=by
 unfold qV;rw [if_neg (by decide +kernel)];unfold qV;rw [if_neg (by decide +kernel)];unfold qV;rw [if_neg (by decide +kernel)];unfold qV;rw [if_pos (by decide +kernel)]
noncomputable def jP (n:Nat)(o:List Int):Int:=(ZN o n:Nat)+((jt o n).length:Nat)
noncomputable abbrev VZ (i:Int):Str:=aj (toString i)
noncomputable def goS (s:SS)(o:List Int):SS:=⟨s.ws,ZF s.os o,s.ds,s.tot+jP s.ws.length o⟩
noncomputable def Y9 (C:aE):ASp:=fun xs M Q=>∃ (p dl:aE) (s:SS) (dx:Dat) (o:List Int),xs=[.ref p,.d dx]/\Yx dx=some (o.map .int)/\ShM C M p dl s/\ZX s/\zB s.ws.length o/\Q (.d (.str (VZ (jP s.ws.length o)))) (shP C M p dl (goS s o))
theorem AY (os:List Int)(n:Nat):ZN os n<=n:=by
 have:=iS (fun (i:Nat)=>!decide (os.getD i 0=(i:Int))) (bP n)
 rw [cC] at this
 exact this
variable {o:List Int}
theorem yW (ho:zB n o)(hn:n<=60):0<=jP n o/\jP n o<=1000:=by
 have a:=AY o n
 have b:=kR o n
 unfold jP
 omega
noncomputable abbrev Kc:cn:=(yD (top 47) 1)
theorem KM:zp ["self","order","many"] ["self","order"] (zd Kc):=⟨rfl,rfl,rfl,by decide +kernel,rfl,by decide +kernel,by decide +kernel⟩
theorem Dz (a:AtM K C "go_by" "Sheet.go_by" Kc)(R:STx K C)(B:Blt mg)(D_fewest_moves:Df P w K mg base "fewest_moves" ["order"] 4 (cSp FW))(D_after:Df P w K mg base "after" ["one","other"] 4 (cSp Ac)):Dm P w K mg base C "go_by" ["self","order"] 5 (cSp (Y9 C)):=by
 refine dmA (k:=4) a KM (fun _ _ _ _ _ _=>Pn2_ fun _ _=>rfl) (fun xs M Q h=>?_) (fun f cdv A outer s H E hr=>?_)
 ·obtain ⟨_,_,_,_,_,rfl,_⟩:=h;rfl
 have sc:=KM
 have hsl:=hsl
 have CL:=R.cl
 refine ⟨_,(zc (zw (i:=2) sc.nd rfl (by first | exact bn rfl | exact bq rfl) (zH D_fewest_moves hr rfl (za (pv 1) zb)))
  (zc (vy (pv 0) (zH D_after hr rfl (za (ji (pv 0) rfl) (za (pv 1) zb))) rfl)
  (zc (YA (pv 0) (pv 2) GJ)
  (zf (zr (zL j5 rfl B.str Ks (za (pv 2) zb))))))),?_⟩
 refine ex2 (by walk_at "sim") ?_
 rintro xs M Q ⟨p,dl,s,dx,o,rfl,hx,h,ok,ho,q⟩
 rw [show zA ["self","order","many"] [.ref p,.d dx]=[some (.ref p),some (.d dx),none] from rfl]
 have hn:=ok.n
 obtain ⟨m0,m1⟩:=yW ho hn
 refine zk fun r1 hr1=>?_
 walk_at "ra"
 refine ⟨.d dx,s.ws.length,o,rfl,jD hx M,ho,by omega,?_⟩
 subst hr1
 refine zk fun r1 hr1=>?_
 walk_at "ra"
 have hw:∀ z ∈ s.os,0<=z/\z<(o.length:Int):=fun z hz=>by
  have:=ok.o.2.2 z hz
  rw [ho.1];exact this
 refine ⟨_,_,h.ins,R.cl,R.no,_,Ba _ _,.lst (s.os.map .int),dx,s.os,o,rfl,rfl,hx,by rw [ok.o.1,ho.1],by rw [ho.1];omega,hw,_,_,h.ins,R.cl,R.no,cV rfl,?_⟩
 rw [Mn]
 subst hr1
 refine zk fun r1 hr1=>?_
 walk_at "ra"
 refine ⟨_,_,zq,R.cl,R.nt,_,Fl ⟨s.ws,ZF s.os o,s.ds,s.tot⟩ dl,_,zq,cV rfl,?_⟩
 rw [Lz]
 subst hr1
 walk_at "ra"
 have lg:(jP s.ws.length o).natAbs.log2<1920:=lW (Nat.log2_le_self _) (by omega)
 refine ⟨lg,?_⟩
 show rtA M Q _ (mup M p (Ye C dl (goS s o)))
 rw [h.fld (s':=goS s o) rfl]
 exact h.rt q
noncomputable def wc (ws:List Str)(os:List Int):List Str:=(bP os.length).map fun k:Nat=>ws.getD (os.idxOf (k:Int)) mw
variable {ws:List Str}
theorem DS {rs:List Dat}(ho:zB ws.length os)(h:Vw (ws.map .str) os rs):rs=(wc ws os).map .str:=by
 have ol:=ho.1
 apply List.ext_getElem?
 intro k
 unfold wc
 rw [aK,aK]
 by_cases hk:k<os.length
 ·rw [dP hk]
  have hm:=Zt ho (by omega:k<ws.length)
  have hlt:os.idxOf (k:Int)<os.length:=eD hm
  have hg:os.getD (os.idxOf (k:Int)) 0=(k:Int):=by
   rw [aA,aq hlt]
   exact gR hlt
  have:=h.2 _ hlt
  rw [hg,bB,aK] at this
  rw [this,iP,iP,aA,aq (by omega)]
  rfl
 ·rw [iT (by rw [h.1];omega),iT (by rw [cC];omega)];rfl
noncomputable def Vi (C:aE):ASp:=fun xs M Q=>∃ (p dl:aE) (s:SS),xs=[.ref p]/\ShM C M p dl s/\ZX s/\Q (.d (stD (wc s.ws s.os))) M
noncomputable abbrev xW:cn:=(yD (top 47) 2)
theorem yQ:zp ["self"] ["self"] (zd xW):=⟨rfl,rfl,rfl,by decide +kernel,rfl,by decide +kernel,by decide +kernel⟩
theorem Jo (a:AtM K C "words_now" "Sheet.words_now" xW)(R:STx K C)(B:Blt mg)(D_put:Df P w K mg base "put" ["things","order"] 3 (cSp Fp)):Dm P w K mg base C "words_now" ["self"] 4 (cSp (Vi C)):=by
 refine dmA (k:=3) a yQ (fun _ _ _ _ _ _=>Pn1_ fun _=>rfl) (fun xs M Q h=>?_) (fun f cdv A outer s H E hr=>?_)
 ·obtain ⟨_,_,_,rfl,_⟩:=h;rfl
 have sc:=yQ
 have hsl:=hsl
 have CL:=R.cl
 refine ⟨_,(zf (zr (zH D_put hr rfl (za (ji (pv 0) rfl) (za (ji (pv 0) rfl) zb))))),?_⟩
 refine ex2 (by walk_at "sim") ?_
 rintro xs M Q ⟨p,dl,s,rfl,h,ok,q⟩
 rw [show zA ["self"] [.ref p]=[some (.ref p)] from rfl]
 have hn:=ok.n
 walk_at "ra"
 refine ⟨_,_,h.ins,R.cl,R.nw,_,XA _ _,_,_,h.ins,R.cl,R.no,_,Ba _ _,s.ws.length,s.ws.map .str,s.os,rfl,by rw [ap],fun t ht=>?_,ok.o,by omega,fun rs hrs=>?_⟩
 ·obtain ⟨z,_,rfl⟩:=cv.mp ht;rfl
 ·rw [DS ok.o hrs];exact qa Fr.refl q
theorem Lw {i:Nat}(h:i<=1000000):i.log2<1920:=by
 by_cases c:i=0
 ·rw [c];decide
 ·exact (Nat.log2_lt c).mpr (lW h (bt (show 1000000<2 ^ 20 by decide) (Nat.pow_le_pow_right (by decide) (by decide))))
theorem LA (ho:zB n os){k:Int}(k0:0<=k)(k1:k<n):atI (os.map fun i=>AV.d (.int i)) k=some (.d (.int (os.getD k.toNat 0)))/\0<=os.getD k.toNat 0/\os.getD k.toNat 0<n:=by
 have hl:=ho.1
 have hk:k.toNat<os.length:=by omega
 have e:os.getD k.toNat 0=os[k.toNat]:=by rw [aA,aq hk];rfl
 refine ⟨?_,?_⟩
 ·unfold atI
  rw [ap,kP k0 (by omega)]
  show (os.map _)[k.toNat]?=_
  rw [aK,aq hk,e];rfl
 ·rw [e];exact ho.2.2 _ (bI hk)
open Classical in
noncomputable def Zv (s:SS)(ns:List Int):Option (List Int):=if zB s.ws.length ns then some ns else none
noncomputable def yl (s:SS)(ns:List Int):Option (List Int):=some (y6 s.ws.length (ns.getD 0 0))
noncomputable def oD2:Option (List Int)->Dat
 | none=>.non
 | some o=>ilD o
noncomputable def jU (C:aE)(f:SS->List Int->Option (List Int))(m:Nat->Prop):ASp:=fun xs M Q=>∃ (p dl:aE) (s:SS) (ns:List Int),xs=[.ref p,.d (ilD ns)]/\ShM C M p dl s/\ZX s/\ns.length<=1000/\m ns.length/\Q (.d (oD2 (f s ns))) M
noncomputable def qR (C:aE)(f:SS->List Int->Str × SS)(m:Nat->Prop):ASp:=fun xs M Q=>∃ (p dl:aE) (s:SS) (ns:List Int),xs=[.ref p,.d (ilD ns)]/\ShM C M p dl s/\ZX s/\ns.length<=1000/\(m ns.length/\∀ k ∈ ns,0<=k)/\Q (.d (.str (f s ns).1)) (shP C M p dl (f s ns).2)
noncomputable abbrev Kr:cn:=top 48
theorem Xr:zp ["sheet","numbers"] ["sheet","numbers"] (zd Kr):=⟨rfl,rfl,rfl,by decide +kernel,rfl,by decide +kernel,by decide +kernel⟩
theorem BU (a:At K mg "order_written" Kr)(B:Blt mg)(D_is_order:Df P w K mg base "is_order" ["thing"] 3 (cSp Z2)) (R:STx K C):Df P w K mg base "order_written" ["sheet","numbers"] 4 (cSp (jU C Zv fun _=>True)):=by
 refine dfA (k:=3) a Xr (fun _ _ _ _ _ _=>Pn2_ fun _ _=>rfl) (fun xs M Q h=>?_) (fun f cdv A outer s H E hr=>?_)
 ·obtain ⟨_,_,_,_,rfl,_⟩:=h;rfl
 have sc:=Xr
 have hsl:=hsl
 refine ⟨_,(zc (qb (PW.pt (QK (zJ (qL hr.units) (zn zm rfl B.len zP (za (pv 1) zb)) (zn zm rfl B.len zP (za (ji (pv 0) rfl) zb)) (zy _)) (vT (kc (qY (zH D_is_order hr rfl (za (pv 1) zb)) (fun _=>rfl)))))) (zf (zr JN)) zF)
  (zf (zr (pv 1)))),?_⟩
 refine ex2 (by walk_at "sim") ?_
 rintro xs M Q ⟨p,dl,s,ns,rfl,h,ok,hn,_,q⟩
 rw [show zA ["sheet","numbers"] [.ref p,.d (ilD ns)]=[some (.ref p),some (.d (ilD ns))] from rfl]
 have hw:=ok.n
 unfold Zv at q
 refine zk fun r1 hr1=>?_
 walk_at "ra"
 refine ⟨_,_,h.ins,R.cl,R.nw,_,XA _ _,_,rfl,?_⟩
 rw [ap,ap]
 by_cases c:ns.length=s.ws.length
 case neg=>
  rw [if_pos (by omega)]
  rw [if_neg (fun z=>c z.1)] at q
  exact qa Fr.refl q
 rw [if_neg (by omega)]
 refine ⟨_,ilD ns,rfl,rfl,((XN (ns:=ns) (by omega)).mono (by omega)),_,rfl,?_⟩
 have hD:qX (ns.map .int) ↔ zB s.ws.length ns:=by
  constructor
  ·rintro ⟨os,e,ho⟩
   have e:ns=os:=(lV (fun _ _ z=>Dat.int.inj z)).mp e
   rw [ap,c] at ho
   rw [e];exact ho
  ·intro ho;exact YL ho
 by_cases c2:zB s.ws.length ns
 ·rw [if_pos c2] at q
  rw [show vm (ilD ns)=true from (Zx _).trans (if_pos (hD.mpr c2)),if_neg (by decide)]
  subst hr1
  walk_at "ra"
  exact qa Fr.refl q
 ·rw [if_neg c2] at q
  rw [show vm (ilD ns)=false from (Zx _).trans (if_neg (fun z=>c2 (hD.mp z))),if_pos rfl]
  exact qa Fr.refl q
noncomputable abbrev Ku:cn:=top 49
theorem Xu:zp ["sheet","numbers"] ["sheet","numbers"] (zd Ku):=⟨rfl,rfl,rfl,by decide +kernel,rfl,by decide +kernel,by decide +kernel⟩
theorem Ew (a:At K mg "order_rolled" Ku)(B:Blt mg)(D_roll_order:Df P w K mg base "roll_order" ["n","k"] 1 (cSp FL)) (R:STx K C):Df P w K mg base "order_rolled" ["sheet","numbers"] 2 (cSp (jU C yl fun m=>m=1)):=by
 refine dfA (k:=1) a Xu (fun _ _ _ _ _ _=>Pn2_ fun _ _=>rfl) (fun xs M Q h=>?_) (fun f cdv A outer s H E hr=>?_)
 ·obtain ⟨_,_,_,_,rfl,_⟩:=h;rfl
 have sc:=Xu
 have hsl:=hsl
 refine ⟨_,(zf (zr (zH D_roll_order hr rfl (za (zn zm rfl B.len zP (za (ji (pv 0) rfl) zb)) (za (zM qc (pv 1) ze (fun _ _=>rfl)) zb))))),?_⟩
 refine ex2 (by walk_at "sim") ?_
 rintro xs M Q ⟨p,dl,s,ns,rfl,h,ok,hn,hm,q⟩
 rw [show zA ["sheet","numbers"] [.ref p,.d (ilD ns)]=[some (.ref p),some (.d (ilD ns))] from rfl]
 have hw:=ok.n
 obtain ⟨k,rfl⟩:∃ k,ns=[k]:=by
  cases ns with
  | nil=>cases hm
  | cons k r=>cases r with
   | nil=>exact ⟨k,rfl⟩
   | cons _ _=>simp at hm
 walk_at "ra"
 refine ⟨_,_,h.ins,R.cl,R.nw,_,XA _ _,_,rfl,_,rfl,?_⟩
 rw [ap,ap]
 exact ⟨s.ws.length,k,rfl,by omega,qa Fr.refl q⟩
noncomputable def Bc (z:Str):Str:=if z=aj "" then aj "-" else z
noncomputable def FQ:ASp:=fun xs M Q=>∃ z,xs=[.d (.str z)]/\Q (.d (.str (Bc z))) M
noncomputable abbrev yS:cn:=top 56
theorem wr:zp ["text"] ["text"] (zd yS):=⟨rfl,rfl,rfl,by decide +kernel,rfl,by decide +kernel,by decide +kernel⟩
theorem Yq (a:At K mg "or_dash" yS)(B:Blt mg):Df P w K mg base "or_dash" ["text"] 1 (cSp FQ):=by
 refine dfA (k:=0) a wr (fun _ _ _ _ _ _=>Pn1_ fun _=>rfl) (fun xs M Q h=>?_) (fun f cdv A outer s H E hr=>?_)
 ·obtain ⟨_,rfl,_⟩:=h;rfl
 have sc:=wr
 have hsl:=hsl
 refine ⟨_,(zf (zr (QO (zJ (qL hr.units) (pv 0) zl (zy _)) (pv 0) zl))),?_⟩
 refine ex2 (by walk_at "sim") ?_
 rintro xs M Q ⟨z,rfl,q⟩
 rw [show zA ["text"] [.d (.str z)]=[some (.d (.str z))] from rfl]
 unfold Bc at q
 walk_at "ra"
 by_cases c:z=aj ""
 ·rw [if_pos c] at q;rw [if_neg (fun z=>z c)];exact qa Fr.refl q
 ·rw [if_neg c] at q;rw [if_pos c];exact qa Fr.refl q
noncomputable abbrev spT:Str:=aj " "
noncomputable def Jk (s:SS)(_:List Int):Str × SS:=(Bc (bX spT (wc s.ws s.os)),s)
variable {s:SS}
theorem Ml (ok:ZX s):yk spT (wc s.ws s.os)<=1000:=by
 have hl:(wc s.ws s.os).length=s.os.length:=by unfold wc;rw [ap,cC]
 have:=StrLaws.sumLen_le (B:=8) (wc s.ws s.os) fun y hy=>by
  obtain ⟨k,_,rfl⟩:=cv.mp hy
  rw [aA]
  cases e:s.ws[s.os.idxOf (k:Int)]? with
  | none=>exact cb _
  | some z=>exact ok.w z (br e)
 have hn:=ok.n
 have ho:=ok.o.1
 unfold yk
 rw [hl] at this ⊢
 rw [show spT.length=1 by decide +kernel]
 omega
noncomputable abbrev xH:cn:=top 57
theorem vN:zp ["sheet","numbers"] ["sheet","numbers"] (zd xH):=⟨rfl,rfl,rfl,by decide +kernel,rfl,by decide +kernel,by decide +kernel⟩
theorem JY (a:At K mg "tell_row" xH)(B:Blt mg)(D_or_dash:Df P w K mg base "or_dash" ["text"] 4 (cSp FQ)) (R:STx K C)(CL:Cls K C)(M_words_now:Dm P w K mg base C "words_now" ["self"] 4 (cSp (Vi C))):Df P w K mg base "tell_row" ["sheet","numbers"] 5 (cSp (qR C Jk fun _=>True)):=by
 refine dfA (k:=4) a vN (fun _ _ _ _ _ _=>Pn2_ fun _ _=>rfl) (fun xs M Q h=>?_) (fun f cdv A outer s H E hr=>?_)
 ·obtain ⟨_,_,_,_,rfl,_⟩:=h;rfl
 have sc:=vN
 have hsl:=hsl
 refine ⟨_,(zf (zr (zH D_or_dash hr rfl (za (jH ci dA dB xr zl (za (GM CL M_words_now hr (pv 0)) zb)) zb)))),?_⟩
 refine ex2 (by walk_at "sim") ?_
 rintro xs M Q ⟨p,dl,s,ns,rfl,h,ok,hn,hm,q⟩
 rw [show zA ["sheet","numbers"] [.ref p,.d (ilD ns)]=[some (.ref p),some (.d (ilD ns))] from rfl]
 have hj:=Ml ok
 rw [show (Jk s ns).2=s from rfl,h.same] at q
 walk_at "ra"
 exact ⟨⟨_,rfl⟩,_,h.ins,rfl,p,dl,s,rfl,h,ok,wc s.ws s.os,by show some _=_;rw [bH];rfl,bu hj (by omega),_,rfl,qa Fr.refl q⟩
noncomputable def JV (s:SS)(_:List Int):Str × SS:=(VZ s.tot,s)
noncomputable abbrev xT:cn:=top 58
theorem vQ:zp ["sheet","numbers"] ["sheet","numbers"] (zd xT):=⟨rfl,rfl,rfl,by decide +kernel,rfl,by decide +kernel,by decide +kernel⟩
theorem Ke (a:At K mg "tell_moves" xT)(B:Blt mg) (R:STx K C):Df P w K mg base "tell_moves" ["sheet","numbers"] 1 (cSp (qR C JV fun _=>True)):=by
 refine dfA (k:=0) a vQ (fun _ _ _ _ _ _=>Pn2_ fun _ _=>rfl) (fun xs M Q h=>?_) (fun f cdv A outer s H E hr=>?_)
 ·obtain ⟨_,_,_,_,rfl,_⟩:=h;rfl
 have sc:=vQ
 have hsl:=hsl
 refine ⟨_,(zf (zr (zL j5 rfl B.str Ks (za (ji (pv 0) rfl) zb)))),?_⟩
 refine ex2 (by walk_at "sim") ?_
 rintro xs M Q ⟨p,dl,s,ns,rfl,h,ok,hn,hm,q⟩
 rw [show zA ["sheet","numbers"] [.ref p,.d (ilD ns)]=[some (.ref p),some (.d (ilD ns))] from rfl]
 rw [show (JV s ns).2=s from rfl,h.same] at q
 have t0:=ok.t0
 have t1:=ok.t1
 walk_at "ra"
 exact ⟨_,_,h.ins,R.cl,R.nt,_,Fl _ _,_,rfl,Lw (by omega),qa Fr.refl q⟩
noncomputable def j4 (s:SS)(ns:List Int):Str × SS:=(if (s.ws.length:Int)<=ns.getD 0 0 then aj "refused" else VZ (s.os.getD (ns.getD 0 0).toNat 0),s)
noncomputable abbrev vW:cn:=top 60
theorem wN:zp ["sheet","numbers"] ["sheet","numbers"] (zd vW):=⟨rfl,rfl,rfl,by decide +kernel,rfl,by decide +kernel,by decide +kernel⟩
theorem YZ (a:At K mg "tell_place" vW)(B:Blt mg) (R:STx K C):Df P w K mg base "tell_place" ["sheet","numbers"] 1 (cSp (qR C j4 fun m=>m=1)):=by
 refine dfA (k:=0) a wN (fun _ _ _ _ _ _=>Pn2_ fun _ _=>rfl) (fun xs M Q h=>?_) (fun f cdv A outer s H E hr=>?_)
 ·obtain ⟨_,_,_,_,rfl,_⟩:=h;rfl
 have sc:=wN
 have hsl:=hsl
 refine ⟨_,(zc (qb (zJ WJ (zM qc (pv 1) ze (fun _ _=>rfl)) (zn zm rfl B.len zP (za (ji (pv 0) rfl) zb)) (zy _)) (zf (zr zl)) zF)
  (zf (zr (zL j5 rfl B.str Ks (za (zM qc (ji (pv 0) rfl) (zM qc (pv 1) ze (fun _ _=>rfl)) (fun _ _=>rfl)) zb))))),?_⟩
 refine ex2 (by walk_at "sim") ?_
 rintro xs M Q ⟨p,dl,s,ns,rfl,h,ok,hn,⟨hm,hk⟩,q⟩
 rw [show zA ["sheet","numbers"] [.ref p,.d (ilD ns)]=[some (.ref p),some (.d (ilD ns))] from rfl]
 rw [show (j4 s ns).2=s from rfl,h.same] at q
 have hw:=ok.n
 have ho:=ok.o.1
 obtain ⟨k,rfl⟩:∃ k,ns=[k]:=by
  cases ns with
  | nil=>cases hm
  | cons k r=>cases r with
   | nil=>exact ⟨k,rfl⟩
   | cons _ _=>simp at hm
 have k0:=hk k (by simp)
 unfold j4 at q
 rw [show ([k]:List Int).getD 0 0=k from rfl] at q
 walk_at "ra"
 refine ⟨_,rfl,_,_,h.ins,R.cl,R.nw,_,XA _ _,_,rfl,k,rfl,?_⟩
 rw [ap,ap]
 by_cases c:(s.ws.length:Int)<=k
 ·rw [if_pos c] at q ⊢;exact qa Fr.refl q
 rw [if_neg c] at q ⊢
 obtain ⟨e1,e2,e3⟩:=LA ok.o k0 (by omega)
 exact ⟨_,_,h.ins,R.cl,R.no,_,Ba _ _,_,rfl,_,E3 _ _,k,rfl,_,e1,_,rfl,Lw (by omega),qa Fr.refl q⟩
noncomputable def yp (o:List Int):List Int:=bL (o.map some)
noncomputable def yr (s:SS)(_:List Int):Str × SS:=
 if s.ds=[] then (aj "none",s)
 else (VZ (jP s.ws.length (yp (s.ds.getLastD []))),goS ⟨s.ws,s.os,s.ds.dropLast,s.tot⟩ (yp (s.ds.getLastD [])))
noncomputable abbrev Jl:cn:=top 55
theorem KF:zp ["sheet","numbers"] ["sheet","numbers"] (zd Jl):=⟨rfl,rfl,rfl,by decide +kernel,rfl,by decide +kernel,by decide +kernel⟩
theorem Dl (a:At K mg "undo" Jl)(B:Blt mg)(D_back_of:Df P w K mg base "back_of" ["order"] 5 (cSp Xh)) (R:STx K C)(CL:Cls K C)(M_go_by:Dm P w K mg base C "go_by" ["self","order"] 5 (cSp (Y9 C))):Df P w K mg base "undo" ["sheet","numbers"] 6 (cSp (qR C yr fun _=>True)):=by
 refine dfA (k:=5) a KF (fun _ _ _ _ _ _=>Pn2_ fun _ _=>rfl) (fun xs M Q h=>?_) (fun f cdv A outer s H E hr=>?_)
 ·obtain ⟨_,_,_,_,rfl,_⟩:=h;rfl
 have sc:=KF
 have hsl:=hsl
 refine ⟨_,(zc (qb (zJ (jB hr.units) (zn zm rfl B.len zP (za (ji (pv 0) rfl) zb)) ze (zy _)) (zf (zr zl)) zF)
  (zf (zr (F3 CL M_go_by hr (pv 0) (za (zH D_back_of hr rfl (za (Gs cL PySem.F.slot_list_pop PySem.F.type_list_pop IT (ji (pv 0) rfl)) zb)) zb))))),?_⟩
 refine ex2 (by walk_at "sim") ?_
 rintro xs M Q ⟨p,dl,s,ns,rfl,h,ok,hn,hm,q⟩
 rw [show zA ["sheet","numbers"] [.ref p,.d (ilD ns)]=[some (.ref p),some (.d (ilD ns))] from rfl]
 have hw:=ok.n
 have ho:=ok.o.1
 unfold yr at q
 refine zk fun r1 hr1=>?_
 walk_at "ra"
 refine ⟨_,_,h.ins,R.cl,R.nd,_,BK _ _,_,js h.ds,?_⟩
 rw [ap]
 by_cases c:s.ds=[]
 ·rw [if_pos c] at q
  dsimp only at q
  rw [h.same] at q
  rw [if_pos (by rw [c];rfl)]
  exact qa Fr.refl q
 rw [if_neg c] at q
 rw [if_neg (by have:=eZ.mpr c;omega)]
 subst hr1
 walk_at "ra"
 have hlen:=eZ.mpr c
 obtain ⟨o,ho_⟩:∃ o,s.ds[s.ds.length - 1]?=some o:=⟨_,aq (by omega)⟩
 have hod:=ok.d o (br ho_)
 have hol:=hod.1
 have hlast:s.ds.getLastD []=o:=by
  rw [gX,List.getLast?_eq_getElem?,ho_];rfl
 rw [hlast] at q
 refine ⟨_,h.ins,rfl,_,_,h.ins,R.cl,R.nd,_,BK _ _,⟨_,qU h.ds⟩,dl,rfl,_,h.ds,.d (ilD o),(by rw [ap,aK,ho_];rfl),ilD o,rfl,s.ws.length,o,rfl,hod,by omega,fun bs hb=>?_⟩
 have eb:bs=yp o:=Ey hod hb
 subst eb
 have ed:(s.ds.map fun o=>AV.d (ilD o)).dropLast=s.ds.dropLast.map fun o=>AV.d (ilD o):=by rw [List.map_dropLast]
 have em:mup M dl (.lst ((s.ds.map fun o=>AV.d (ilD o)).dropLast))=shP C M p dl ⟨s.ws,s.os,s.ds.dropLast,s.tot⟩:=by
  rw [ed]
  funext b
  unfold shP mup
  by_cases c1:b=dl
  ·rw [if_pos c1,if_pos c1]
  ·rw [if_neg c1,if_neg c1]
   by_cases c2:b=p
   ·rw [if_pos c2,c2,h.ins]
   ·rw [if_neg c2]
 rw [em]
 refine ⟨p,dl,_,_,yp o,rfl,rfl,Z0 h.ne,⟨ok.o,fun x hx=>ok.d x (i9 _ hx),hw,ok.w,(by have:=ok.dl;show (s.ds.dropLast).length<=1000;rw [gm];omega),ok.t0,ok.t1⟩,hb.ord hod,?_⟩
 rw [ShM.again]
 exact h.rt q
noncomputable def zW (r:List Str):List Int:=r.map fun w=>(dU w).getD 0
noncomputable def xu (f:SS->List Int->Option (List Int))(s:SS)(ns:List Int):Str × SS:=
 match f s ns with
 | none=>(aj "refused",s)
 | some o=>(VZ (jP s.ws.length o),goS ⟨s.ws,s.os,s.ds ++ [o],s.tot⟩ o)
noncomputable def vd (s:SS)(ws:List Str):Str × SS:=
 let h:=qo ws
 let ns:=zW ws.tail
 if h=aj "undo" then yr s ns else if h=aj "row" then Jk s ns else if h=aj "moves" then JV s ns else if h=aj "place" then j4 s ns
 else if h=aj "order" then xu Zv s ns else xu yl s ns
structure Qy (ws:List Str):Prop where
 w:Ws ws
 n:∀ z ∈ ws.tail,∃ n,dU z=some n/\z.length<=640
 c:((qo ws=aj "undo" \/ qo ws=aj "row" \/ qo ws=aj "moves")/\ws.tail=[]) \/ (qo ws=aj "place"/\∃ k,zW ws.tail=[k]/\0<=k) \/ qo ws=aj "order" \/ (qo ws=aj "roll"/\ws.tail.length=1)
noncomputable def tbO (C:aE):Str->Option ASp:=fun z=>
 if z=aj "undo" then some (qR C yr fun _=>True) else if z=aj "row" then some (qR C Jk fun _=>True) else if z=aj "moves" then some (qR C JV fun _=>True) else if z=aj "place" then some (qR C j4 fun m=>m=1) else none
noncomputable def tbD (C:aE):Str->Option ASp:=fun z=>
 if z=aj "order" then some (jU C Zv fun _=>True) else if z=aj "roll" then some (jU C yl fun m=>m=1) else none
noncomputable abbrev kvO (f1 f2 f3 f4 f5:aE):List (Key × V):=[(.inr (aj "undo"),.ref f1),(.inr (aj "row"),.ref f2),(.inr (aj "moves"),.ref f3),(.inr (aj "rings"),.ref f4),(.inr (aj "place"),.ref f5)]
noncomputable abbrev kvD (f1 f2 f3 f4 f5 f6 f7:aE):List (Key × V):=[(.inr (aj "order"),.ref f1),(.inr (aj "roll"),.ref f2),(.inr (aj "turn"),.ref f3),(.inr (aj "weave"),.ref f4),(.inr (aj "unweave"),.ref f5),(.inr (aj "gather"),.ref f6),(.inr (aj "swap"),.ref f7)]
noncomputable def Mx (C:aE):ASp:=fun xs M Q=>∃ (p dl:aE) (s:SS) (ws:List Str),xs=[.ref p,.d (stD ws)]/\ShM C M p dl s/\ZX s/\s.ds.length<1000/\Qy ws/\Q (.d (.str (vd s ws).1)) (shP C M p dl (vd s ws).2)
variable {f1 f2 f3 f4 f5:aE}
theorem K0 (h:z=aj "order" \/ z=aj "roll"):(jk (kvO f1 f2 f3 f4 f5) (.inr z)).isSome=false:=by
 unfold kvO
 simp only [Bb]
 rcases h with rfl | rfl
 ·repeat rw [if_neg (by decide +kernel)]
  rfl
 ·repeat rw [if_neg (by decide +kernel)]
  rfl
theorem yB (h:z=aj "undo" \/ z=aj "row" \/ z=aj "moves" \/ z=aj "place"):(jk (kvO f1 f2 f3 f4 f5) (.inr z)).isSome=true:=by
 unfold kvO
 simp only [Bb]
 rcases h with rfl | rfl | rfl | rfl
 ·rw [if_pos rfl];rfl
 ·rw [if_neg (by decide +kernel),if_pos rfl];rfl
 ·rw [if_neg (by decide +kernel),if_neg (by decide +kernel),if_pos rfl];rfl
 ·rw [if_neg (by decide +kernel),if_neg (by decide +kernel),if_neg (by decide +kernel),if_neg (by decide +kernel),if_pos rfl];rfl
theorem Ms:tbO C (aj "undo")=some (qR C yr fun _=>True):=by unfold tbO;rw [if_pos rfl]
theorem LP:tbO C (aj "row")=some (qR C Jk fun _=>True):=by unfold tbO;rw [if_neg (by decide +kernel),if_pos rfl]
theorem LJ:tbO C (aj "moves")=some (qR C JV fun _=>True):=by unfold tbO;rw [if_neg (by decide +kernel),if_neg (by decide +kernel),if_pos rfl]
theorem Le:tbO C (aj "place")=some (qR C j4 fun m=>m=1):=by unfold tbO;rw [if_neg (by decide +kernel),if_neg (by decide +kernel),if_neg (by decide +kernel),if_pos rfl]
theorem Mi:tbD C (aj "order")=some (jU C Zv fun _=>True):=by unfold tbD;rw [if_pos rfl]
theorem LX:tbD C (aj "roll")=some (jU C yl fun m=>m=1):=by unfold tbD;rw [if_neg (by decide +kernel),if_pos rfl]
theorem ShM.dsl {C p dl:aE} (h:ShM C M p dl s)(ds':List (List Int)):mup M dl (dsO ds')=shP C M p dl ⟨s.ws,s.os,ds',s.tot⟩:=by
 funext b
 unfold shP mup
 by_cases c1:b=dl
 ·rw [if_pos c1,if_pos c1]
 ·rw [if_neg c1,if_neg c1]
  by_cases c2:b=p
  ·rw [if_pos c2,c2,h.ins]
  ·rw [if_neg c2]
theorem wI (n:Nat)(k:Int):(y6 n k).length=n:=by simp [y6]
theorem xU {k:Int}{i:Nat}(h:i<n):(y6 n k).getD i 0=((i:Int)+k) % (n:Int):=by
 rw [qQ (by rw [wI];exact h)];simp [y6]
theorem wA (n:Nat)(k:Int):zB n (y6 n k):=by
 refine xj (wI n k) (fun i hi=>?_) (fun i j hi hj e=>?_)
 ·rw [xU hi]
  exact ⟨Int.emod_nonneg _ (by omega),lT _ (by omega)⟩
 ·rw [xU hi,xU hj] at e
  have d:(((i:Int)+k) - ((j:Int)+k)) % (n:Int)=0:=by
   rw [Int.sub_emod,e,Int.sub_self,Int.zero_emod]
  rw [show ((i:Int)+k) - ((j:Int)+k)=(i:Int) - j by omega] at d
  obtain ⟨c,hc⟩:=Int.dvd_of_emod_eq_zero d
  have h1:(i:Int) - j<n:=by omega
  have h2:-(n:Int)<(i:Int) - j:=by omega
  have hn:(0:Int)<n:=by omega
  have c0:c=0:=by
   rcases Int.lt_trichotomy c 0 with z | z | z
   ·exfalso
    have:(n:Int) * c<=(n:Int) * (-1):=gu (by omega) (by omega)
    omega
   ·exact z
   ·exfalso
    have:(n:Int) * 1<=(n:Int) * c:=gu (by omega) (by omega)
    omega
  subst c0
  omega
noncomputable abbrev V7:cn:=top 63
theorem Vv:zp ["sheet","words","numbers","deed","order","other","word"] ["sheet","words"] (zd V7):=⟨rfl,rfl,rfl,by decide +kernel,rfl,by decide +kernel,by decide +kernel⟩
theorem La (a:At K mg "answer" V7)(B:Blt mg) (R:STx K C)(CL:Cls K C)(M_go_by:Dm P w K mg base C "go_by" ["self","order"] 6 (cSp (Y9 C))){pO pD f1 f2 f3 f4 f5 d1 d2 d3 d4 d5 d6 d7:aE}{TO TD:List (aE × Sp)}(KF_OTHERS:KD K w pO (kvO f1 f2 f3 f4 f5))(MF_OTHERS:mg "OTHERS"=some (.ref pO))(FO:FnT P w K mg base ["sheet","numbers"] 6 TO)(tO:wm (kvO f1 f2 f3 f4 f5) TO (tbO C))(KF_DEEDS:KD K w pD (kvD d1 d2 d3 d4 d5 d6 d7))(MF_DEEDS:mg "DEEDS"=some (.ref pD))(FD:FnT P w K mg base ["sheet","numbers"] 6 TD)(tD:wm (kvD d1 d2 d3 d4 d5 d6 d7) TD (tbD C)):Df P w K mg base "answer" ["sheet","words"] 7 (cSp (Mx C)):=by
 refine dfA (k:=6) a Vv (fun _ _ _ _ _ _=>Pn2_ fun _ _=>rfl) (fun xs M Q h=>?_) (fun f cdv A outer s H E hr=>?_)
 ·obtain ⟨_,_,_,_,rfl,_⟩:=h;rfl
 have sc:=Vv
 have hsl:=hsl
 refine ⟨_,(zc (Ei (j:=2) rfl sc.nd rfl (by first | exact bn rfl | exact bq rfl) (ts:=[6]) rfl (kO (qG jZ (pv 1) (qP ze) jz)) (fun _ _ _ _=>(zE (i:=6) sc.nd rfl (by first | exact bn rfl | exact bq rfl))) (fun _ _ _ _=>qJ) (fun _ _ _ _=>(zL Y5 rfl B.int jn (za (pv 6) zb))))
  (zc (qb (GS (Gb KF_OTHERS rfl MF_OTHERS (zM qc (pv 1) ze (fun _ _=>rfl)))) (zc (zw (i:=5) sc.nd rfl (by first | exact bn rfl | exact bq rfl) (VT KF_OTHERS rfl MF_OTHERS (zM qc (pv 1) ze (fun _ _=>rfl)) (fun _ _=>rfl)))
  (zf (zr (Qa FO hr (pv 5) (za (pv 0) (za (pv 2) zb)))))) zF)
  (zc (zw (i:=3) sc.nd rfl (by first | exact bn rfl | exact bq rfl) (VT KF_DEEDS rfl MF_DEEDS (zM qc (pv 1) ze (fun _ _=>rfl)) (fun _ _=>rfl)))
  (zc (zw (i:=4) sc.nd rfl (by first | exact bn rfl | exact bq rfl) (Qa FD hr (pv 3) (za (pv 0) (za (pv 2) zb))))
  (zc (qb (zJ G3 (pv 4) JN (zy _)) (zf (zr zl)) zF)
  (zc (xf (jH cL cZ db jG (ji (pv 0) rfl) (za (pv 4) zb)))
  (zf (zr (F3 CL M_go_by hr (pv 0) (za (pv 4) zb)))))))))),?_⟩
 refine ex2 (by walk_at "sim") ?_
 rintro xs M Q ⟨p,dl,s,ws,rfl,h,ok,hd,aw,q⟩
 rw [show zA ["sheet","words","numbers","deed","order","other","word"] [.ref p,.d (stD ws)]=[some (.ref p),some (.d (stD ws)),none,none,none,none,none] from rfl]
 refine zk fun r1 hr1=>?_
 walk_at "ra"
 obtain ⟨z0,r,rfl⟩:∃ z0 r,ws=z0 :: r:=by
  cases ws with
  | nil=>exact absurd rfl aw.w.ne
  | cons h r=>exact ⟨h,r,rfl⟩
 have hl:=aw.w.l
 rw [aV] at hl
 have hN:∀ z ∈ r,∃ n,dU z=some n/\z.length<=640:=aw.n
 have hC:=aw.c
 change ((z0=aj "undo" \/ z0=aj "row" \/ z0=aj "moves")/\r=[]) \/ (z0=aj "place"/\∃ k,zW r=[k]/\0<=k) \/ z0=aj "order" \/ (z0=aj "roll"/\r.length=1) at hC
 rw [show vd s (z0 :: r)=(if z0=aj "undo" then yr s (zW r) else if z0=aj "row" then Jk s (zW r) else if z0=aj "moves" then JV s (zW r) else if z0=aj "place" then j4 s (zW r) else if z0=aj "order" then xu Zv s (zW r) else xu yl s (zW r)) from rfl] at q
 have nl:(zW r).length=r.length:=ap _
 refine ⟨r.map .str,by rw [bp,bp,VP,qd],?_⟩
 rw [bH]
 refine kE (fun o=>[some (.ref p),some (.d (stD (z0 :: r))),none,none,none,none,o]) (fun z:Str=>AV.d (.str z)) (fun z=>.d (.int ((dU z).getD 0))) r ⟨_,rfl⟩ trivial (by omega) (fun o z Q hz q=>?_) fun o=>?_
 ·have q:=q (some (.d (.str z)))
  obtain ⟨n,hn,hz⟩:=hN z hz
  rw [hn] at q
  show jC 6 (AV.d (.str z)) _ _ _
  walk_at "ra"
  exact ⟨hz,n,hn,q⟩
 refine ⟨(zW r).map .int,by unfold zW;rw [bH];exact qC _ _,?_⟩
 subst hr1
 refine zk fun r1 hr1=>?_
 walk_at "ra"
 refine ⟨_,QH _ _,?_⟩
 refine ⟨z0,rfl,?_⟩
 have small:(zW r).length<=1000:=by omega
 have ask:∀ (f:SS->List Int->Str × SS) (m:Nat->Prop),tbO C z0=some (qR C f m)->(jk (kvO f1 f2 f3 f4 f5) (aZ z0)).isSome=true->m (zW r).length->(∀ k ∈ zW r,0<=k)->Q (.d (.str (f s (zW r)).1)) (shP C M p dl (f s (zW r)).2)->if (jk (kvO f1 f2 f3 f4 f5) (aZ z0)).isSome=true then 5<0+1+1+1+1+1+1+1/\∃ x,atI (AV.d (Dat.str z0) :: bQ AV.d (bQ Dat.str r)) 0=some x/\∃ z,x=AV.d (Dat.str z)/\∃ x,tbO C z=some x/\x [AV.ref p,AV.d (Dat.lst (bQ Dat.int (zW r)))] M (rtA M Q) else r1 M { nx:=fun x M'=>rtA M Q (AV.d Dat.non) M',rt:=rtA M Q } [some (AV.ref p),some (AV.d (stD (z0 :: r))),some (AV.d (Dat.lst (bQ Dat.int (zW r)))),none,none,none,none] M:=fun f m e1 e2 hm hk q=>by
  rw [if_pos e2]
  exact ⟨by omega,_,QH _ _,z0,rfl,_,e1,p,dl,s,zW r,rfl,h,ok,small,⟨hm,hk⟩,h.rt q⟩
 have deed:∀ (f:SS->List Int->Option (List Int)) (m:Nat->Prop),tbD C z0=some (jU C f m)->(jk (kvO f1 f2 f3 f4 f5) (aZ z0)).isSome=false->m (zW r).length->(∀ o,f s (zW r)=some o->zB s.ws.length o)->Q (.d (.str (xu f s (zW r)).1)) (shP C M p dl (xu f s (zW r)).2)->if (jk (kvO f1 f2 f3 f4 f5) (aZ z0)).isSome=true then 5<0+1+1+1+1+1+1+1/\∃ x,atI (AV.d (Dat.str z0) :: bQ AV.d (bQ Dat.str r)) 0=some x/\∃ z,x=AV.d (Dat.str z)/\∃ x,tbO C z=some x/\x [AV.ref p,AV.d (Dat.lst (bQ Dat.int (zW r)))] M (rtA M Q) else r1 M { nx:=fun x M'=>rtA M Q (AV.d Dat.non) M',rt:=rtA M Q } [some (AV.ref p),some (AV.d (stD (z0 :: r))),some (AV.d (Dat.lst (bQ Dat.int (zW r)))),none,none,none,none] M:=fun f m e1 e2 hm ho q=>by
  rw [if_neg (by rw [e2];decide)]
  subst hr1
  clear ask
  walk_at "ra"
  refine ⟨by omega,_,QH _ _,z0,rfl,_,e1,p,dl,s,zW r,rfl,h,ok,small,hm,?_⟩
  dsimp only
  unfold xu at q
  cases ef:f s (zW r) with
  | none=>
   rw [ef] at q
   dsimp only at q
   rw [h.same] at q
   rw [if_pos (show j6 (AV.d (oD2 none))=true from rfl)]
   exact qa Fr.refl q
  | some o=>
   rw [ef] at q
   dsimp only at q
   have hod:=ho o ef
   rw [if_neg (show ¬ j6 (AV.d (oD2 (some o)))=true from fun z=>nomatch z)]
   refine ⟨_,_,h.ins,R.cl,R.nd,_,BK _ _,⟨_,qU h.ds⟩,dl,rfl,_,h.ds,by rw [ap];omega,_,by rw [zG h.ne];exact h.ins,rfl,?_⟩
   rw [show (s.ds.map fun o=>AV.d (ilD o)) ++ [AV.d (oD2 (some o))]=(s.ds ++ [o]).map fun o=>AV.d (ilD o) by rw [bU];rfl,h.dsl (s.ds ++ [o])]
   refine ⟨p,dl,_,_,o,rfl,rfl,Z0 h.ne,⟨ok.o,fun x hx=>?_,ok.n,ok.w,?_,ok.t0,ok.t1⟩,hod,?_⟩
   ·rcases cq.mp hx with hx | hx
    ·exact ok.d x hx
    ·rw [bG.mp hx];exact hod
   ·show (s.ds ++ [o]).length<=1000
    rw [aQ,b7];omega
   rw [ShM.again]
   exact h.rt q
 rcases hC with ⟨h1,rfl⟩ | ⟨h1,k,hk,k0⟩ | h1 | ⟨h1,h2⟩
 ·rcases h1 with rfl | rfl | rfl
  ·rw [if_pos rfl] at q
   exact ask _ _ Ms (yB (.inl rfl)) trivial (fun _ z=>nomatch z) q
  ·rw [if_neg (by decide +kernel),if_pos rfl] at q
   exact ask _ _ LP (yB (.inr (.inl rfl))) trivial (fun _ z=>nomatch z) q
  ·rw [if_neg (by decide +kernel),if_neg (by decide +kernel),if_pos rfl] at q
   exact ask _ _ LJ (yB (.inr (.inr (.inl rfl)))) trivial (fun _ z=>nomatch z) q
 ·subst h1
  rw [if_neg (by decide +kernel),if_neg (by decide +kernel),if_neg (by decide +kernel),if_pos rfl] at q
  refine ask _ _ Le (yB (.inr (.inr (.inr rfl)))) ?_ ?_ q
  ·rw [hk];rfl
  ·rw [hk];intro j hj;rw [bG.mp hj];exact k0
 ·subst h1
  rw [if_neg (by decide +kernel),if_neg (by decide +kernel),if_neg (by decide +kernel),if_neg (by decide +kernel),if_pos rfl] at q
  refine deed _ _ Mi (K0 (.inl rfl)) trivial (fun o e=>?_) q
  unfold Zv at e
  split at e
  ·next c=>rw [<- bO e];exact c
  ·cases e
 ·subst h1
  rw [if_neg (by decide +kernel),if_neg (by decide +kernel),if_neg (by decide +kernel),if_neg (by decide +kernel),if_neg (by decide +kernel)] at q
  refine deed _ _ LX (K0 (.inr rfl)) (nl.trans h2) (fun o e=>?_) q
  unfold yl at e
  rw [<- bO e]
  exact wA _ _
theorem E9 (h1:zB n os)(h2:zB n o):zB n (ZF os o):=by
 have l1:=h1.1
 have g:∀ i,i<n->(ZF os o).getD i 0=o.getD (os.getD i 0).toNat 0:=fun i hi=>by
  unfold ZF
  rw [aA,aK,aA (l:=os),aq (by omega)]
  rfl
 have b:∀ i,i<n->(os.getD i 0).toNat<n:=fun i hi=>by have:=h1.getD hi;omega
 refine xj (by unfold ZF;rw [ap];exact l1) (fun i hi=>?_) fun i k hi hk e=>?_
 ·rw [g i hi];exact h2.getD (b i hi)
 ·rw [g i hi,g k hk] at e
  have:=h2.inj (b i hi) (b k hk) e
  refine h1.inj hi hk ?_
  have a1:=h1.getD hi
  have a2:=h1.getD hk
  omega
theorem Js (h:zB n os):zB n (yp os):=by
 have l:=h.1
 have hb:kQ os (yp os):=by
  refine ⟨by unfold yp bL;rw [ap,cC,ap],fun i hi=>?_⟩
  obtain ⟨k0,k1⟩:=h.getD (i:=i) (by omega)
  obtain ⟨k,hk⟩:∃ k:Nat,os.getD i 0=(k:Int):=⟨_,(lw k0).symm⟩
  rw [hk,bB]
  have kn:k<n:=by omega
  unfold yp bL
  rw [aA,aK,ap,dP (by omega),iP,mE,KO]
  have hm:=Zt h kn
  have hlt:os.idxOf (k:Int)<os.length:=eD hm
  have e:os.getD (os.idxOf (k:Int)) 0=(k:Int):=by
   rw [aA,aq hlt]
   exact gR hlt
  rw [h.inj (by omega) (by omega) (e.trans hk.symm)]
 exact hb.ord h
theorem Mr (ok:ZX s)(ho:zB s.ws.length o)(t:s.tot<=999000):ZX (goS s o):=by
 obtain ⟨m0,m1⟩:=yW ho ok.n
 have t0:=ok.t0
 exact ⟨E9 ok.o ho,ok.d,ok.n,ok.w,ok.dl,by show 0<=s.tot+_;omega,by show s.tot+_<=1000000;omega⟩
structure vH (i:Nat)(s:SS):Prop where
 ok:ZX s
 d:s.ds.length<=i
 t:s.tot<=1000 * i
theorem vH.same {i:Nat} (h:vH i s):vH (i+1) s:=⟨h.ok,by have:=h.d;omega,by have:=h.t;omega⟩
theorem vH.go {i:Nat} (h:vH i s)(hi:i<=900)(ho:zB s.ws.length o)(ds':List (List Int))(hd:ds'.length<=i+1)(hO:∀ o ∈ ds',zB s.ws.length o):vH (i+1) (goS ⟨s.ws,s.os,ds',s.tot⟩ o):=by
 obtain ⟨m0,m1⟩:=yW ho h.ok.n
 have t:=h.t
 have ok:=h.ok
 refine ⟨Mr (s:=⟨s.ws,s.os,ds',s.tot⟩) ⟨ok.o,hO,ok.n,ok.w,by show ds'.length<=1000;omega,ok.t0,ok.t1⟩ ho (by show s.tot<=999000;omega),hd,?_⟩
 show s.tot+jP s.ws.length o<=_
 omega
theorem HW {i:Nat} (h:vH i s)(hi:i<=900)(a:Qy ws):vH (i+1) (vd s ws).2:=by
 have hd:=h.d
 have deed:∀ f:SS->List Int->Option (List Int),(∀ ns o,f s ns=some o->zB s.ws.length o)->vH (i+1) (xu f s (zW ws.tail)).2:=fun f hf=>by
  unfold xu
  cases e:f s (zW ws.tail) with
  | none=>exact h.same
  | some o=>
   have ho:=hf _ _ e
   refine h.go hi ho _ (by rw [aQ,b7];omega) fun x hx=>?_
   rcases cq.mp hx with hx | hx
   ·exact h.ok.d x hx
   ·rw [bG.mp hx];exact ho
 unfold vd
 dsimp only
 by_cases c1:qo ws=aj "undo"
 ·rw [if_pos c1]
  unfold yr
  by_cases c:s.ds=[]
  ·rw [if_pos c];exact h.same
  ·rw [if_neg c]
   refine h.go hi (Js (h.ok.d _ ?_)) _ (by rw [gm];omega) fun x hx=>h.ok.d x (i9 _ hx)
   rw [gX,List.getLast?_eq_some_getLast c]
   exact List.getLast_mem c
 rw [if_neg c1]
 by_cases c2:qo ws=aj "row"
 ·rw [if_pos c2];exact h.same
 rw [if_neg c2]
 by_cases c3:qo ws=aj "moves"
 ·rw [if_pos c3];exact h.same
 rw [if_neg c3]
 by_cases c4:qo ws=aj "place"
 ·rw [if_pos c4];exact h.same
 rw [if_neg c4]
 by_cases c5:qo ws=aj "order"
 ·rw [if_pos c5]
  refine deed _ fun ns o e=>?_
  unfold Zv at e
  split at e
  ·next c=>rw [<- bO e];exact c
  ·cases e
 ·rw [if_neg c5]
  refine deed _ fun ns o e=>?_
  unfold yl at e
  rw [<- bO e]
  exact wA _ _
noncomputable def yv:SS->List (List Str)->List Str
 | _,[]=>[]
 | s,ws :: r=>(vd s ws).1 :: yv (vd s ws).2 r
theorem Z6:∀ (s:SS) (l:List (List Str)),(yv s l).length=l.length
 | _,[]=>rfl
 | s,ws :: r=>by rw [yv,aV,aV,Z6]
theorem vO:∀ (l:List Str) (i:Nat) (rd out:List (List Str)),ql i rd l=.ok out->rd.length<=i->i<=100->(∀ h t,rd=h :: t->jo h=true)->out.length<=100/\∃ h t,out=h :: t/\jo h=true
 | [],i,rd,out,e,l,hi,hf=>by
  unfold ql at e
  split at e
  ·cases e
  ·next c=>
   cases e
   cases rd with
   | nil=>exact absurd rfl c
   | cons h t=>exact ⟨by omega,h,t,rfl,hf h t rfl⟩
 | row :: rs,i,rd,out,e,l,hi,hf=>by
  unfold ql at e
  by_cases c:100<=i \/ 300<row.length
  ·rw [if_pos c] at e;cases e
  rw [if_neg c] at e
  by_cases c2:row=aj ""
  ·rw [if_pos c2] at e
   exact vO rs (i+1) rd out e (by omega) (by omega) hf
  rw [if_neg c2] at e
  by_cases c3:(if rd=[] then jo (Txt.split row (sg 32)) else qy (Txt.split row (sg 32)))=true
  ·rw [if_pos c3] at e
   refine vO rs (i+1) _ out e (by rw [aQ,b7];omega) (by omega) fun h t eh=>?_
   cases rd with
   | nil=>
    rw [if_pos rfl] at c3
    cases eh
    exact c3
   | cons h' t'=>
    cases eh
    exact hf _ _ rfl
  ·rw [if_neg c3] at e;cases e
theorem BG {h:List Str}(f:jo h=true):vH 0 (qZ h.tail):=by
 unfold jo at f
 rw [bj,bj] at f
 obtain ⟨_,f2,f3⟩:=f
 have f2:=of_decide_eq_true f2
 refine ⟨⟨zB.rng _,(fun o ho=>nomatch ho),f2,fun z hz=>?_,cb _,Int.le_refl 0,by show (0:Int)<=1000000;omega⟩,aL 0,Int.le_refl 0⟩
 have:=bv.mp f3 z hz
 unfold kj at this
 rw [bj,bj] at this
 exact of_decide_eq_true this.2.1
noncomputable def IC (cR:aE):Zi:=fun xs M Q E=>∃ z,xs=[.d (.str z)]/\Asc z/\(∀ i,j7 z=.error i->E cR (B6 i) M)/\∀ rs,j7 z=.ok rs->(∀ ws ∈ rs.tail,Qy ws)/\Q (.d (stD (yv (qZ (rs.headD []).tail) rs.tail))) M
noncomputable abbrev WZ:cn:=top 64
theorem WB:zp ["text","rows","sheet","words"] ["text"] (zd WZ):=⟨rfl,rfl,rfl,by decide +kernel,rfl,by decide +kernel,by decide +kernel⟩
theorem IW (a:At K mg "run" WZ)(B:Blt mg) (R:STx K C)(CL:Cls K C)(M_Sheet:Mkr P w K mg base "Sheet" C ["self","words"] 6 (cSp (ZM C)))(D_answer:Df P w K mg base "answer" ["sheet","words"] 7 (cSp (Mx C)))(DX_rows_read:DfX P w K mg base "rows_read" ["text"] 7 (yP (FI cBadRow))):DfX P w K mg base "run" ["text"] 8 (yP (IC cBadRow)):=by
 refine LU (k:=7) a WB (fun _ _ _ _ _ _=>Pn1_ fun _=>rfl) (fun xs M Q E h=>?_) (fun f cdv A outer s H HX OX MX E1 hr hD=>?_)
 ·obtain ⟨_,rfl,_⟩:=h;rfl
 have sc:=WB
 have hsl:=hsl
 refine ⟨_,(zc (zw (i:=1) sc.nd rfl (by first | exact bn rfl | exact bq rfl) (Vf DX_rows_read hr rfl hD.passX (za (pv 0) zb)))
  (zc (zw (i:=2) sc.nd rfl (by first | exact bn rfl | exact bq rfl) (Ly M_Sheet hr rfl (za (qG jZ (zM qc (pv 1) ze (fun _ _=>rfl)) (qP ze) jz) zb)))
  (zf (zr (qH (ts:=[3]) rfl rfl (kO (qG jZ (pv 1) (qP ze) jz)) (fun _ _ _ _=>(zE (i:=3) sc.nd rfl (by first | exact bn rfl | exact bq rfl))) (fun _ _ _ _=>qJ) (fun _ _ _ _=>(zH D_answer hr rfl (za (pv 2) (za (pv 3) zb))))))))),?_⟩
 refine exX (by walk_at "sim") ?_
 rintro xs Q E0 rfl ⟨z,rfl,az,qe,q⟩
 rw [show zA ["text","rows","sheet","words"] [.d (.str z)]=[some (.d (.str z)),none,none,none] from rfl]
 refine zk fun r1 hr1=>?_
 walk_at "ra"
 refine ⟨z,rfl,az,fun i hi=>⟨_,wt Fr.refl .non,qe i hi⟩,fun rs hrs=>?_⟩
 obtain ⟨ha,q⟩:=q rs hrs
 obtain ⟨hl,h,t,rfl,hf⟩:=vO _ _ _ _ hrs (aL 0) (by omega) (fun _ _ z=>nomatch z)
 rw [show (h :: t).tail=t from rfl] at ha q
 rw [show ((h :: t).headD [])=h from rfl] at q
 have hs:=BG hf
 subst hr1
 refine zk fun r1 hr1=>?_
 walk_at "ra"
 obtain ⟨h0,h',rfl⟩:∃ h0 h',h=h0 :: h':=by
  cases h with
  | nil=>exact absurd hf (by decide +kernel)
  | cons a b=>exact ⟨a,b,rfl⟩
 rw [show (h0 :: h').tail=h' from rfl] at hs q
 refine ⟨_,QH _ _,_,rfl,h'.map .str,by rw [bp,bp,VP,qd],fun p hp=>⟨p,h',rfl,zq,hs.ok.n,fun dl hdl n1=>⟨rfl,?_⟩⟩⟩
 have fr:∀ s,Fr MX (shP C (mup MX p (.ins C [])) p dl s):=fun s=>by
  rw [zG n1] at hdl
  unfold shP
  exact ((Fr.refl.mup hp _).mup hp _).mup hdl _
 subst hr1
 walk_at "ra"
 have hsl2:100000<aT:=by rw [bY];decide
 rw [aV] at hl
 refine ⟨t.map stD,by rw [VP,qd],?_⟩
 refine ⟨fun i acc ρ M'=>∃ s o done,vH i s/\acc=done.map (fun z:Str=>AV.d (.str z))/\done.length=i/\done ++ yv s (t.drop i)=yv (qZ h') t/\ρ=[some (.d (.str z)),some (.d (.lst (stD (h0 :: h') :: t.map stD))),some (.ref p),o]/\M'=shP C (mup MX p (.ins C [])) p dl s,⟨qZ h',none,[],hs,rfl,rfl,rfl,rfl,rfl⟩,?_,?_⟩
 ·rintro i x acc ρ M' hx ⟨s,o,done,sa,rfl,hdn,hd2,rfl,rfl⟩
  rw [aK,aK] at hx
  obtain ⟨d,hd,rfl⟩:=cw.mp hx
  obtain ⟨ws,hws,rfl⟩:=cw.mp hd
  have hi:=(aP.mp hws).1
  have aw:=ha ws (br hws)
  rw [gW hi,show t[i]=ws from (aP.mp hws).2,yv] at hd2
  refine ⟨trivial,?_⟩
  show jC 3 (AV.d (stD ws)) _ _ _
  walk_at "ra"
  have it:i<100:=by omega
  refine ⟨p,dl,s,ws,rfl,Z0 n1.symm,sa.ok,by have:=sa.d;omega,aw,by omega,(vd s ws).2,HW sa (by omega) aw,_,done ++ [(vd s ws).1],by rw [bU];rfl,by rw [aQ,b7,hdn],?_,rfl,ShM.again _ _⟩
  rw [<- hd2,dI];rfl
 ·rintro acc ρ M' ⟨s,o,done,sa,rfl,hdn,hd2,rfl,rfl⟩
  refine ⟨trivial,done.map .str,qC _ _,?_⟩
  rw [ap,ap,mI,yv,b9] at hd2
  rw [hd2]
  exact ⟨_,_,wt (fr _) _,q⟩
noncomputable def G2 (z:Str):Bool:=z.cps.toList.all (fun c=>decide (c<128)) && decide (z.length<=90000)
theorem Gy (h:G2 z=true):Asc z:=by
 unfold G2 at h
 rw [bj] at h
 exact ⟨(jf z).mpr fun c hc=>of_decide_eq_true (bv.mp h.1 c hc),of_decide_eq_true h.2⟩
noncomputable def A4 (ws:List Str):Bool:=
  !ws.isEmpty && (decide (ws.length<=1000) && (ws.all G2 && (ws.tail.all (fun z=>(dU z).isSome && decide (z.length<=640)) &&
    (((decide (qo ws=aj "undo") || (decide (qo ws=aj "row") || decide (qo ws=aj "moves"))) && ws.tail.isEmpty) ||
     ((decide (qo ws=aj "place") && (match zW ws.tail with | [k]=>decide (0<=k) | _=>false)) ||
      (decide (qo ws=aj "order") || (decide (qo ws=aj "roll") && decide (ws.tail.length=1))))))))
theorem VI (h:A4 ws=true):Qy ws:=by
 unfold A4 at h
 simp only [bj,iM,decide_eq_true_eq] at h
 obtain ⟨h1,h2,h3,h4,h5⟩:=h
 refine ⟨⟨fun z=>?_,fun z hz=>Gy (bv.mp h3 z hz),h2⟩,fun z hz=>?_,?_⟩
 ·rw [z] at h1;cases h1
 ·have:=bv.mp h4 z hz
  rw [bj] at this
  obtain ⟨n,hn⟩:=hZ.mp this.1
  exact ⟨n,hn,of_decide_eq_true this.2⟩
 ·rcases h5 with ⟨a,b⟩ | ⟨a,b⟩ | a | ⟨a,b⟩
  ·exact .inl ⟨a,List.isEmpty_iff.mp b⟩
  ·refine .inr (.inl ⟨a,?_⟩)
   split at b
   ·next k e=>exact ⟨k,e,of_decide_eq_true b⟩
   ·cases b
  ·exact .inr (.inr (.inl a))
  ·exact .inr (.inr (.inr ⟨a,b⟩))
noncomputable abbrev Zz (n:Nat):Dat:=.tup [.str (aj "answers"),.int n]
noncomputable abbrev yy (n:Nat):Dat:=.tup [.str (aj "row"),.int n]
noncomputable def we (z:Str):Dat:=match j7 z with
 | .error i=>yy i
 | .ok rs=>Zz rs.tail.length
structure jE (z:Str)(d:Dat):Prop where
 a:Asc z
 f:we z=d
 o:∀ rs,j7 z=.ok rs->∀ ws ∈ rs.tail,Qy ws
theorem kW:∀ (l:List Str) (i:Nat) (rd:List (List Str)),rd ≠ []->(∀ r ∈ l,r.length<=300/\(r=aj "" \/ qy (Txt.split r (sg 32))=true))->i<=100 ->
  ql i rd l=if i+l.length<=100 then .ok (rd ++ (l.filter fun r=>decide (r ≠ aj "")).map fun r=>Txt.split r (sg 32)) else .error 100
 | [],i,rd,h0,h,hi=>by
  unfold ql
  rw [if_neg h0,if_pos (by simpa using hi)]
  simp
 | r :: l,i,rd,h0,h,hi=>by
  obtain ⟨h1,h2⟩:=h r (by simp)
  have hl:∀ r ∈ l,r.length<=300/\(r=aj "" \/ qy (Txt.split r (sg 32))=true):=fun x hx=>h x (ba _ hx)
  unfold ql
  by_cases c:100<=i
  ·rw [if_pos (.inl c),if_neg (by rw [aV];omega)]
   rw [show i=100 by omega]
  rw [if_neg (by omega)]
  by_cases c2:r=aj ""
  ·rw [if_pos c2,kW l (i+1) rd h0 hl (by omega),io (by simp [c2]),aV]
   rw [show i+1+l.length=i+(l.length+1) by omega]
  ·rw [if_neg c2,if_neg h0]
   rw [if_pos (h2.resolve_left c2),kW l (i+1) _ (by simp) hl (by omega),ip (by simpa using c2),aV]
   rw [show i+1+l.length=i+(l.length+1) by omega,bp,dI]
   rfl
theorem x8:∀ (l:List Str) (b:Str) (m:List Str) (i:Nat) (rd:List (List Str)),rd ≠ []->(∀ r ∈ l,r.length<=300/\(r=aj "" \/ qy (Txt.split r (sg 32))=true))->b ≠ aj ""->qy (Txt.split b (sg 32))=false->i<=100 ->
  ql i rd (l ++ b :: m)=.error (min (i+l.length) 100)
 | [],b,m,i,rd,h0,h,hb,hl,hi=>by
  rw [dD]
  unfold ql
  by_cases c:100<=i \/ 300<b.length
  ·rw [if_pos c]
   rw [d9,Nat.add_zero,iO hi]
  rw [if_neg c,if_neg hb,if_neg h0,hl,if_neg (by decide)]
  rw [d9,Nat.add_zero,iO hi]
 | r :: l,b,m,i,rd,h0,h,hb,hlb,hi=>by
  obtain ⟨h1,h2⟩:=h r (by simp)
  have hl:∀ r ∈ l,r.length<=300/\(r=aj "" \/ qy (Txt.split r (sg 32))=true):=fun x hx=>h x (ba _ hx)
  rw [dW]
  unfold ql
  by_cases c:100<=i
  ·rw [if_pos (.inl c),mH (by omega)]
   rw [show i=100 by omega]
  rw [if_neg (by omega)]
  have e:i+1+l.length=i+(r :: l).length:=by rw [aV];omega
  by_cases c2:r=aj ""
  ·rw [if_pos c2,x8 l b m (i+1) rd h0 hl hb hlb (by omega),e]
  ·rw [if_neg c2,if_neg h0]
   rw [if_pos (h2.resolve_left c2),x8 l b m (i+1) _ (by simp) hl hb hlb (by omega),e]
theorem ZO {a b:Str}(h:a.cps.toList=b.cps.toList):a=b:=by
 cases a;cases b;congr 1;exact mL.mp h
noncomputable def jL (c:Nat):List (List Nat)->List Nat
 | []=>[]
 | [x]=>x
 | x :: y :: r=>x ++ (c :: jL c (y :: r))
theorem zQ (c:Nat):∀ l:List Str,(bX ⟨#[c]⟩ l).cps.toList=jL c (l.map fun z=>z.cps.toList)
 | []=>rfl
 | [x]=>rfl
 | x :: y :: r=>by
  rw [jl,zt,zt,zQ c (y :: r)]
  show _=x.cps.toList ++ (c :: jL c ((y :: r).map fun z=>z.cps.toList))
  simp
theorem Jg (l:List (Array Nat)):∀ a:Array Nat,(l.foldl (· ++ ·) a).toList=a.toList ++ (l.map lY).flatten:=by
 induction l with
 | nil=>intro a;simp
 | cons x l ih=>intro a;rw [List.foldl_cons,ih];simp
theorem jY (h:1<n)(hz:z.length ≠ 0):(eT z (n:Int)).cps.toList=(aH n z.cps.toList).flatten:=by
 unfold eT
 rw [if_neg (by omega),if_neg (by simp;omega)]
 show (lM _ _ _:Array Nat).toList=_
 rw [bB,Jg]
 simp
theorem JR (c:Nat):∀ l:List (List Nat),l ≠ []->(jL c l).length+1=(l.map gk).sum+l.length
 | [x],_=>by simp [jL]
 | x :: y :: r,_=>by
  have:=JR c (y :: r) (by simp)
  rw [jL,aQ,aV]
  rw [bp,List.sum_cons,aV]
  omega
theorem Zp {c d:Nat}:∀ {l:List (List Nat)},d ∈ jL c l->d=c \/ ∃ x ∈ l,d ∈ x
 | [x],h=>.inr ⟨x,by simp,h⟩
 | x :: y :: r,h=>by
  rw [jL] at h
  rcases cq.mp h with h | h
  ·exact .inr ⟨x,by simp,h⟩
  ·rcases aJ.mp h with h | h
   ·exact .inl h
   ·rcases Zp h with h | ⟨z,hz,h⟩
    ·exact .inl h
    ·exact .inr ⟨z,ba _ hz,h⟩
noncomputable abbrev qz (ws:List Str):Str:=bX ⟨#[32]⟩ ws
noncomputable abbrev jv (W:List (List Str)):Str:=bX ⟨#[10]⟩ (W.map qz)
noncomputable def X8 (ws:List Str):Nat:=(ws.map dm).sum+ws.length - 1
theorem xt (h:ws ≠ []):(qz ws).length=X8 ws:=by
 have:=JR 32 (ws.map fun z=>z.cps.toList) (by simpa using h)
 rw [<- zv,zQ]
 unfold X8
 rw [bH,ap] at this
 rw [show (ws.map (gk ∘ fun z:Str=>z.cps.toList))=ws.map dm from eY fun z _=>zv z] at this
 omega
noncomputable def wv (z:Str):Bool:=!z.cps.toList.isEmpty && z.cps.toList.all fun c=>decide (c<128/\c ≠ 32/\c ≠ 10)
noncomputable def Qw (W:List (List Str)):Bool:=!W.isEmpty && (W.all (fun ws=>!ws.isEmpty && ws.all wv) && decide ((W.map X8).sum+W.length<=90000))
noncomputable def ym:Nat->List (List Str)->List (List Str)->Except Nat (List (List Str))
 | at_,read,[]=>if read=[] then .error at_ else .ok read
 | at_,read,ws :: rs=>if 100<=at_ \/ 300<X8 ws then .error at_ else if (if read=[] then jo ws else qy ws)=true then ym (at_+1) (read ++ [ws]) rs else .error at_
theorem xx (h:wv z=true):z.cps.toList ≠ []/\∀ c ∈ z.cps.toList,c<128/\c ≠ 32/\c ≠ 10:=by
 unfold wv at h
 rw [bj] at h
 exact ⟨fun e=>by rw [e] at h;exact absurd h.1 (by decide),fun c hc=>of_decide_eq_true (bv.mp h.2 c hc)⟩
theorem Ze (h0:ws ≠ [])(h:∀ z ∈ ws,wv z=true):Txt.split (qz ws) (sg 32)=ws/\qz ws ≠ aj ""/\10 ∉ (qz ws).cps.toList/\∀ c ∈ (qz ws).cps.toList,c<128:=by
 refine ⟨xa h0 fun p hp z=>((xx (h p hp)).2 32 z).2.1 rfl,fun e=>?_,fun z=>?_,fun c hc=>?_⟩
 ·cases ws with
  | nil=>exact h0 rfl
  | cons a r=>
   have h1:=(xx (h a (by simp))).1
   have:a.length<=(qz (a :: r)).length:=ye (y:=⟨#[32]⟩) (l:=a :: r) (p:=a) (by simp)
   rw [e,show (aj "").length=0 by decide +kernel,<- zv] at this
   exact h1 (fv.mp (Nat.le_zero.mp this))
 ·rw [zQ] at z
  rcases Zp z with z | ⟨x,hx,z⟩
  ·exact absurd z (by decide)
  ·obtain ⟨p,hp,rfl⟩:=cv.mp hx
   exact ((xx (h p hp)).2 10 z).2.2 rfl
 ·rw [zQ] at hc
  rcases Zp hc with z | ⟨x,hx,z⟩
  ·omega
  ·obtain ⟨p,hp,rfl⟩:=cv.mp hx
   exact ((xx (h p hp)).2 c z).1
variable {W:List (List Str)}
theorem AZ (h:Qw W=true):W ≠ []/\(∀ ws ∈ W,ws ≠ []/\∀ z ∈ ws,wv z=true)/\(W.map X8).sum+W.length<=90000:=by
 unfold Qw at h
 rw [bj,bj] at h
 refine ⟨fun e=>by rw [e] at h;exact absurd h.1 (by decide),fun ws hw=>?_,of_decide_eq_true h.2.2⟩
 have:=bv.mp h.2.1 ws hw
 rw [bj] at this
 exact ⟨fun e=>by rw [e] at this;exact absurd this.1 (by decide),fun z hz=>bv.mp this.2 z hz⟩
theorem KZ:∀ (W:List (List Str)) (i:Nat) (rd:List (List Str)),(∀ ws ∈ W,ws ≠ []/\∀ z ∈ ws,wv z=true)->ql i rd (W.map qz)=ym i rd W
 | [],i,rd,h=>rfl
 | ws :: r,i,rd,h=>by
  obtain ⟨h0,h1⟩:=h ws (by simp)
  obtain ⟨e1,e2,_,_⟩:=Ze h0 h1
  rw [bp,ql,ym,e1,xt h0,if_neg e2,KZ r (i+1) (rd ++ [ws]) fun x hx=>h x (ba _ hx)]
theorem Q9 (h0:l ≠ [])(h:∀ p ∈ l,∀ c ∈ p.cps.toList,c<128)(hl:(l.map dm).sum+l.length<=90000):Asc (bX ⟨#[10]⟩ l):=by
 refine ⟨(jf _).mpr fun c hc=>?_,?_⟩
 ·rw [zQ] at hc
  rcases Zp hc with z | ⟨x,hx,z⟩
  ·omega
  ·obtain ⟨p,hp,rfl⟩:=cv.mp hx
   exact h p hp c z
 ·have:=JR 10 (l.map fun z=>z.cps.toList) (by simpa using h0)
  rw [<- zv,zQ]
  rw [bH,ap] at this
  rw [show (l.map (gk ∘ fun z:Str=>z.cps.toList))=l.map dm from eY fun z _=>zv z] at this
  omega
theorem Zr (h:Qw W=true):j7 (jv W)=ym 0 [] W/\Asc (jv W):=by
 obtain ⟨h0,h1,h2⟩:=AZ h
 refine ⟨?_,Q9 (by simpa using h0) (fun p hp=>?_) ?_⟩
 ·unfold j7
  rw [xa (by simpa using h0) (fun p hp=>?_)]
  ·exact KZ W 0 [] h1
  ·obtain ⟨ws,hw,rfl⟩:=cv.mp hp
   exact (Ze (h1 ws hw).1 (h1 ws hw).2).2.2.1
 ·obtain ⟨ws,hw,rfl⟩:=cv.mp hp
  exact (Ze (h1 ws hw).1 (h1 ws hw).2).2.2.2
 ·rw [bH,ap]
  rw [show W.map (dm ∘ qz)=W.map X8 from eY fun ws hw=>xt (h1 ws hw).1]
  exact h2
noncomputable def va (W:List (List Str))(n:Nat):Bool:=Qw W && (match ym 0 [] W with | .error _=>false | .ok rs=>decide (rs.tail.length=n) && rs.tail.all A4)
noncomputable def vb (W:List (List Str))(n:Nat):Bool:=Qw W && (match ym 0 [] W with | .error i=>decide (i=n) | .ok _=>false)
theorem qO {W:List (List Str)}{z:Str}{n:Nat}(h:va W n=true)(e:z.cps.toList=(jv W).cps.toList):jE z (Zz n):=by
 unfold va at h
 rw [bj] at h
 obtain ⟨h1,h2⟩:=h
 obtain ⟨e1,e2⟩:=Zr h1
 rw [ZO e]
 cases e3:ym 0 [] W with
 | error i=>rw [e3] at h2;cases h2
 | ok rs=>
  rw [e3] at h2 e1
  dsimp only at h2
  rw [bj] at h2
  refine ⟨e2,?_,fun rs' e' ws hw=>?_⟩
  ·unfold we;rw [e1];dsimp only;rw [of_decide_eq_true h2.1]
  ·rw [e1] at e';cases e';exact VI (bv.mp h2.2 ws hw)
theorem jx {W:List (List Str)}{z:Str}{n:Nat}(h:vb W n=true)(e:z.cps.toList=(jv W).cps.toList):jE z (yy n):=by
 unfold vb at h
 rw [bj] at h
 obtain ⟨h1,h2⟩:=h
 obtain ⟨e1,e2⟩:=Zr h1
 rw [ZO e]
 cases e3:ym 0 [] W with
 | ok rs=>rw [e3] at h2;cases h2
 | error i=>
  rw [e3] at h2 e1
  refine ⟨e2,?_,fun rs' e'=>by rw [e1] at e';cases e'⟩
  unfold we;rw [e1];dsimp only;rw [of_decide_eq_true h2]
structure Ls (K:au)(cR:aE):Prop where
 x:Gj K cR
 t:gO K (.ref cR) (.ref cR)=some true
 hd:dG K cR=true
 fr:bz K (.ref cR) "row"=some none
theorem II (i:Nat):bD (aj "row") (B6 i)=some (.int i):=by
 unfold B6 bD
 rw [show (aj "row" == ("row":Str))=true from by decide +kernel]
noncomputable def Mu:ASp:=fun xs M Q=>∃ z d,xs=[.d (.str z)]/\jE z d/\Q (.d d) M
noncomputable abbrev vD:cn:=top 69
theorem wJ:zp ["_law_text","_law_found_here","error"] ["_law_text"] (zd vD):=⟨rfl,rfl,rfl,by decide +kernel,rfl,by decide +kernel,by decide +kernel⟩
theorem X4 (a:At K mg "_law_found" vD)(B:Blt mg) (XG_BadRow:mg "BadRow"=some (.ref cBadRow))(DX_run:DfX P w K mg base "run" ["text"] 8 (yP (IC cBadRow)))(X2:Ls K cBadRow):Df P w K mg base "_law_found" ["_law_text"] 9 (cSp Mu):=by
 refine dfA (k:=8) a wJ (fun _ _ _ _ _ _=>Pn1_ fun _=>rfl) (fun xs M Q h=>?_) (fun f cdv A outer s H E hr=>?_)
 ·obtain ⟨_,_,rfl,_⟩:=h;rfl
 have sc:=wJ
 have hsl:=hsl
 refine ⟨_,(zc (Bu (K:=K) (i:=2) rfl rfl rfl rfl sc.nd rfl rfl rfl XG_BadRow (fun pins xe Eh hP=>(zf (zw (i:=1) sc.nd rfl (by first | exact bn rfl | exact bq rfl) (zU (za zl (za (zn (vZ (K:=K) rfl) rfl B.len zP (za (Vf DX_run hr rfl hP (za (pv 0) zb)) zb)) zb)))))) (fun x=>(zf (zw (i:=1) sc.nd rfl (by first | exact bn rfl | exact bq rfl) (zU (za zl (za (W8 (K:=K) rfl (pv 2) rfl) zb)))))))
  (zf (zr (pv 1)))),?_⟩
 refine ex2 (by walk_at "sim") ?_
 rintro xs M Q ⟨z,d,rfl,g,q⟩
 rw [show zA ["_law_text","_law_found_here","error"] [.d (.str z)]=[some (.d (.str z)),none,none] from rfl]
 refine zk fun r1 hr1=>?_
 walk_at "ra"
 have hsl2:100000<aT:=by rw [bY];decide
 refine ⟨z,rfl,g.a,fun i hi=>⟨X2.t,fun y hy=>?_⟩,fun rs hrs=>⟨g.o rs hrs,?_⟩⟩
 ·have e:d=yy i:=by rw [<- g.f];unfold we;rw [hi]
  subst hr1
  refine ⟨_,_,zq,X2.x,X2.hd,X2.fr,_,II _,_,rfl,by omega,?_⟩
  walk_at "ra"
  rw [e] at q
  exact qa (Fr.refl.mup hy _) q
 ·have e:d=Zz rs.tail.length:=by rw [<- g.f];unfold we;rw [hrs]
  subst hr1
  refine ⟨_,rfl,by omega,?_⟩
  walk_at "ra"
  rw [Z6]
  rw [e] at q
  exact qa Fr.refl q
noncomputable def kL (c:Nat):ASp:=fun xs M Q=>∃ (b:aE) (N:Nat),xs=[.ref b]/\BxM M b N/\N<10000000/\∀ z d M',BxS M M' b (N+c)->jE z d->Q (.d (.tup [.str z,d])) M'
noncomputable abbrev S (s:String):Str:=aj s
variable {r:Int}
theorem in3 (h0:0<=r)(h:r<3):r=0 \/ r=1 \/ r=2:=by omega
theorem in4 (h0:0<=r)(h:r<4):r=0 \/ r=1 \/ r=2 \/ r=3:=by omega
theorem spE:aj " "=sg 32:=by decide +kernel
noncomputable abbrev thW (m:Nat):List (List Str):=(S "row" :: aH m (S "a")) :: [[S "place",S "59"],[S "place",S "9999"],[S "roll",S "9999"],[S "roll",S "-9999"]]
theorem MS (m:Nat)(h:m=59 \/ m=60 \/ m=61):(bX (sg 32) (aj "row" :: aH m (aj "a")) ++ aj "\nplace 59\nplace 9999\nroll 9999\nroll -9999").cps.toList=(jv (thW m)).cps.toList:=by
 rcases h with rfl | rfl | rfl
 all_goals
  simp only [zt,zQ,jv,qz,bp,gE,bN]
  decide +kernel
noncomputable abbrev xP:cn:=top 74
theorem vz:zp ["_law_box_here","_law_many_here","_law_text"] ["_law_box_here"] (zd xP):=⟨rfl,rfl,rfl,by decide +kernel,rfl,by decide +kernel,by decide +kernel⟩
theorem Kn (a:At K mg "_law_things" xP)(B:Blt mg)(D_law_take:Df P w K mg base "_law_take" ["_law_box_here","_law_many_here"] 2 (cSp wl)):Df P w K mg base "_law_things" ["_law_box_here"] 3 (cSp (kL 1)):=by
 refine dfA (k:=2) a vz (fun _ _ _ _ _ _=>Pn1_ fun _=>rfl) (fun xs M Q h=>?_) (fun f cdv A outer s H E hr=>?_)
 ·obtain ⟨_,_,rfl,_⟩:=h;rfl
 have sc:=vz
 have hsl:=hsl
 refine ⟨_,(zc (zw (i:=1) sc.nd rfl (by first | exact bn rfl | exact bq rfl) (zu qf ze (zH D_law_take hr rfl (za (pv 0) (za ze zb)))))
  (zc (zw (i:=2) sc.nd rfl (by first | exact bn rfl | exact bq rfl) (zu zV (jH ci dA dB xr zl (za (zu ZZ (zK (za zl zb)) (zu xc (zK (za zl zb)) (pv 1))) zb)) zl))
  (zf (zr (zU (za (pv 2) (za (zM qc (zK (za (zU (za zl (za ze zb))) (za (zU (za zl (za ze zb))) zb))) (zL qr rfl B.int jn (za (zX kh (pv 1) ze (zy _)) zb)) (fun _ _=>rfl)) zb))))))),?_⟩
 refine ex2 (by walk_at "sim") ?_
 rintro xs M Q ⟨b,N,rfl,bx,hN,q⟩
 rw [show zA ["_law_box_here","_law_many_here","_law_text"] [.ref b]=[some (.ref b),none,none] from rfl]
 have sb:=SB.refl bx
 refine zk fun r1 hr1=>?_
 walk_at "ra"
 refine ⟨b,3,_,rfl,sb.bx,by omega,by omega,by omega,fun m M1 s1 a1 a2=>⟨m,rfl,?_⟩⟩
 have sb:=sb.go s1
 subst hr1
 refine zk fun r1 hr1=>?_
 walk_at "ra"
 have hsl2:100000<aT:=by rw [bY];decide
 obtain ⟨k,hk,hk3⟩:∃ k:Nat,59+m=(k:Int)/\(k=59 \/ k=60 \/ k=61):=⟨(59+m).toNat,by omega,by omega⟩
 rw [hk,bB,fP,spE]
 have k1:k<=61:=by omega
 have hg:(if 60<(k:Int) then jE (bX (sg 32) (S "row" :: aH k (S "a")) ++ S "\nplace 59\nplace 9999\nroll 9999\nroll -9999") (yy 0) else jE (bX (sg 32) (S "row" :: aH k (S "a")) ++ S "\nplace 59\nplace 9999\nroll 9999\nroll -9999") (Zz 4)):=by
  have e:=MS k hk3
  rcases hk3 with rfl | rfl | rfl
  ·exact qO (W:=thW 59) (by decide +kernel) e
  ·exact qO (W:=thW 60) (by decide +kernel) e
  ·exact jx (W:=thW 61) (by decide +kernel) e
 have hj:yk (sg 32) (S "row" :: aH k (S "a"))<=1000:=by rcases hk3 with rfl | rfl | rfl <;> decide +kernel
 have hlen:(bX (sg 32) (S "row" :: aH k (S "a"))).length<=1000:=by
  rw [xt (by simp)]
  rcases hk3 with rfl | rfl | rfl <;> decide +kernel
 have hlit:(aj "\nplace 59\nplace 9999\nroll 9999\nroll -9999").length<=100:=by decide +kernel
 refine ⟨⟨_,rfl⟩,by omega,by omega,by omega,by omega,by omega,aH k (.str (S "a")),by rw [show aH k (AV.d (Dat.str (aj "a")))=(aH k (Dat.str (S "a"))).map AV.d from bN.symm,qd],by rw [cD];omega,S "row" :: aH k (S "a"),by rw [bp,bN,bN],by omega,by omega,?_⟩
 subst hr1
 walk_at "ra"
 by_cases c:60<(k:Int)
 ·rw [if_pos c] at hg ⊢
  exact ⟨by omega,by omega,by omega,_,rfl,by omega,_,rfl,sb.rt fun M' s=>q _ _ M' s hg⟩
 ·rw [if_neg c] at hg ⊢
  exact ⟨by omega,by omega,by omega,_,rfl,by omega,_,rfl,sb.rt fun M' s=>q _ _ M' s hg⟩
noncomputable abbrev nbW (m:Nat):List (List Str):=[[S "row",S "a"],S "order" :: aH m (S "0")]
theorem M8 (m:Nat)(h:m=61 \/ m=147 \/ m=148):(aj "row a\norder" ++ eT (aj " 0") (m:Int)).cps.toList=(jv (nbW m)).cps.toList:=by
 rcases h with rfl | rfl | rfl
 all_goals
  rw [zt,jY (by decide) (by decide +kernel)]
  simp only [zQ,jv,qz,bp,gE,bN]
  decide +kernel
theorem Wd {m:Nat}(h:m<=1000)(hz:z.length<=10):MulOk z (m:Int):=by
 have hb:z.length * m<=10 * 1000:=Nat.mul_le_mul hz h
 refine ⟨?_,fun _ _=>?_,fun _ _=>?_⟩
 ·rw [decide_eq_false (by omega),decide_eq_false (by omega)];rfl
 ·have hm:0<m:=by omega
  have:(10:Int)<=(2 ^ 63 - 1) / (m:Int):=by
   rw [Int.le_ediv_iff_mul_le (by omega)]
   omega
  omega
 ·rw [bB]
  have hsl2:100000<aT:=by rw [bY];decide
  unfold PySem.Builtin.Str.tooLong
  exact decide_eq_false (by omega)
noncomputable abbrev Zh:cn:=top 73
theorem Qd:zp ["_law_box_here","_law_many_here"] ["_law_box_here"] (zd Zh):=⟨rfl,rfl,rfl,by decide +kernel,rfl,by decide +kernel,by decide +kernel⟩
theorem Ai (a:At K mg "_law_numbers" Zh)(B:Blt mg)(D_law_take:Df P w K mg base "_law_take" ["_law_box_here","_law_many_here"] 2 (cSp wl)):Df P w K mg base "_law_numbers" ["_law_box_here"] 3 (cSp (kL 1)):=by
 refine dfA (k:=2) a Qd (fun _ _ _ _ _ _=>Pn1_ fun _=>rfl) (fun xs M Q h=>?_) (fun f cdv A outer s H E hr=>?_)
 ·obtain ⟨_,_,rfl,_⟩:=h;rfl
 have sc:=Qd
 have hsl:=hsl
 refine ⟨_,(zc (zw (i:=1) sc.nd rfl (by first | exact bn rfl | exact bq rfl) (zM qc (zK (za ze (za ze (za ze zb)))) (zH D_law_take hr rfl (za (pv 0) (za ze zb))) (fun _ _=>rfl)))
  (zf (zr (zU (za (zu zV zl (zu K2 zl (pv 1))) (za (zM qc (zK (za (zU (za zl (za ze zb))) (za (zU (za zl (za ze zb))) zb))) (zL qr rfl B.int jn (za (zX kh (pv 1) ze (zy _)) zb)) (fun _ _=>rfl)) zb)))))),?_⟩
 refine ex2 (by walk_at "sim") ?_
 rintro xs M Q ⟨b,N,rfl,bx,hN,q⟩
 rw [show zA ["_law_box_here","_law_many_here"] [.ref b]=[some (.ref b),none] from rfl]
 have sb:=SB.refl bx
 refine zk fun r1 hr1=>?_
 walk_at "ra"
 have hsl2:100000<aT:=by rw [bY];decide
 refine ⟨by omega,b,3,_,rfl,sb.bx,by omega,by omega,by omega,fun i M1 s1 a1 a2=>⟨i,rfl,?_⟩⟩
 have sb:=sb.go s1
 obtain ⟨m,hm,hx⟩:∃ m:Nat,(m=61 \/ m=147 \/ m=148)/\atI [AV.d (Dat.int 61),AV.d (Dat.int 147),AV.d (Dat.int 148)] i=some (.d (.int (m:Int))):=by
  rcases in3 a1 a2 with rfl | rfl | rfl
  ·exact ⟨61,.inl rfl,rfl⟩
  ·exact ⟨147,.inr (.inl rfl),rfl⟩
  ·exact ⟨148,.inr (.inr rfl),rfl⟩
 refine ⟨_,hx,?_⟩
 have hg:(if 147<(m:Int) then jE (aj "row a\norder" ++ eT (aj " 0") (m:Int)) (yy 1) else jE (aj "row a\norder" ++ eT (aj " 0") (m:Int)) (Zz 1)):=by
  have e:=M8 m hm
  rcases hm with rfl | rfl | rfl
  ·exact qO (W:=nbW 61) (by decide +kernel) e
  ·exact qO (W:=nbW 147) (by decide +kernel) e
  ·exact jx (W:=nbW 148) (by decide +kernel) e
 subst hr1
 walk_at "ra"
 have ml:(eT (aj " 0") (m:Int)).length=m * 2:=by
  rw [<- zv,jY (by omega) (by decide +kernel),lz,bN,iF]
  rfl
 have l1:(aj "row a\norder").length=11:=by decide +kernel
 refine ⟨Wd (by omega) (by decide +kernel),by omega,by omega,by omega,by omega,?_⟩
 by_cases c:147<(m:Int)
 ·rw [if_pos c] at hg ⊢
  exact ⟨_,rfl,by omega,_,rfl,sb.rt fun M' s=>q _ _ M' s hg⟩
 ·rw [if_neg c] at hg ⊢
  exact ⟨_,rfl,by omega,_,rfl,sb.rt fun M' s=>q _ _ M' s hg⟩
noncomputable abbrev szL (r:Int):List Int:=aH 31 8 ++ (if 18<r then [8,4,r - 15] else [8,r - 10])
noncomputable abbrev wdL (k:Int):Str:=vo (S "abcdefgh") none (some k)
noncomputable abbrev lgW (i:Int):List (List Str):=[S "row" :: (szL (17+i)).map wdL,[S "row"]]
theorem M9 (i:Int)(h0:0<=i)(h1:i<4):(bX (sg 32) (S "row" :: (szL (17+i)).map wdL) ++ S "\nrow").cps.toList=(jv (lgW i)).cps.toList:=by
 simp only [zt,zQ,jv,qz,bp,gE,lgW]
 rcases in4 h0 h1 with rfl | rfl | rfl | rfl <;> decide +kernel
noncomputable abbrev ZA:cn:=top 71
theorem Z9:zp ["_law_box_here","_law_rest","_law_sizes","_law_row","_law_size"] ["_law_box_here"] (zd ZA):=⟨rfl,rfl,rfl,by decide +kernel,rfl,by decide +kernel,by decide +kernel⟩
theorem AM (a:At K mg "_law_long" ZA)(B:Blt mg)(D_law_take:Df P w K mg base "_law_take" ["_law_box_here","_law_many_here"] 2 (cSp wl)):Df P w K mg base "_law_long" ["_law_box_here"] 3 (cSp (kL 1)):=by
 refine dfA (k:=2) a Z9 (fun _ _ _ _ _ _=>Pn1_ fun _=>rfl) (fun xs M Q h=>?_) (fun f cdv A outer s H E hr=>?_)
 ·obtain ⟨_,_,rfl,_⟩:=h;rfl
 have sc:=Z9
 have hsl:=hsl
 refine ⟨_,(zc (zw (i:=1) sc.nd rfl (by first | exact bn rfl | exact bq rfl) (zu qf ze (zH D_law_take hr rfl (za (pv 0) (za ze zb)))))
  (zc (zw (i:=2) sc.nd rfl (by first | exact bn rfl | exact bq rfl) (zu ZZ (zu xc (zK (za ze zb)) ze) (zM qc (zK (za (zK (za ze (za (zu J9 (pv 1) ze) zb))) (za (zK (za ze (za ze (za (zu J9 (pv 1) ze) zb)))) zb))) (zL qr rfl B.int jn (za (zX kh (pv 1) ze (zy _)) zb)) (fun _ _=>rfl))))
  (zc (zw (i:=3) sc.nd rfl (by first | exact bn rfl | exact bq rfl) (jH ci dA dB xr zl (za (zu ZZ (zK (za zl zb)) (qH (ts:=[4]) rfl rfl (kO (pv 2)) (fun _ _ _ _=>(zE (i:=4) sc.nd rfl (by first | exact bn rfl | exact bq rfl))) (fun _ _ _ _=>qJ) (fun _ _ _ _=>(qG Bt zl jz (qP (pv 4)))))) zb)))
  (zf (zr (zU (za (zu zV (pv 3) zl) (za (zM qc (zK (za (zU (za zl (za ze zb))) (za (zU (za zl (za ze zb))) zb))) (zL qr rfl B.int jn (za (zX kh (pv 1) ze (zy _)) zb)) (fun _ _=>rfl)) zb)))))))),?_⟩
 refine ex2 (by walk_at "sim") ?_
 rintro xs M Q ⟨b,N,rfl,bx,hN,q⟩
 rw [show zA ["_law_box_here","_law_rest","_law_sizes","_law_row","_law_size"] [.ref b]=[some (.ref b),none,none,none,none] from rfl]
 have sb:=SB.refl bx
 refine zk fun r1 hr1=>?_
 walk_at "ra"
 refine ⟨b,4,_,rfl,sb.bx,by omega,by omega,by omega,fun i M1 s1 a1 a2=>⟨i,rfl,?_⟩⟩
 have sb:=sb.go s1
 subst hr1
 refine zk fun r1 hr1=>?_
 walk_at "ra"
 have hsl2:100000<aT:=by rw [bY];decide
 obtain ⟨L2,hL⟩:∃ L2:List Int,L2=if 18<17+i then [8,4,17+i - 15] else [8,17+i - 10]:=⟨_,rfl⟩
 have hx:atI [AV.d (Dat.lst [Dat.int 8,Dat.int (17+i - 10)]),AV.d (Dat.lst [Dat.int 8,Dat.int 4,Dat.int (17+i - 15)])] (if 18<17+i then 1 else 0)=some (.d (ilD L2)):=by
  by_cases c:18<17+i
  ·rw [if_pos c] at hL ⊢;rw [hL];rfl
  ·rw [if_neg c] at hL ⊢;rw [hL];rfl
 have l2:L2.length<=3:=by rw [hL];split <;> simp
 have hz:aH 31 8 ++ L2=szL (17+i):=by rw [hL]
 refine ⟨by omega,by omega,by omega,by rw [show Int.toNat 31=31 from rfl];omega,aH 31 (.int 8),by rw [show Int.toNat 31=31 from rfl,fP,show aH 31 (AV.d (Dat.int 8))=(aH 31 (Dat.int 8)).map AV.d from bN.symm,qd],by omega,by omega,by omega,_,hx,_,rfl,?_,(szL (17+i)).map .int,?_,?_⟩
 ·rw [ap,ap,cD];omega
 ·have e:(bQ AV.d (aH 31 (Dat.int 8)) ++ (L2.map Dat.int).map AV.d)=((aH 31 (8:Int) ++ L2).map Dat.int).map AV.d:=by rw [bU,bU,bN (f:=Dat.int)]
  rw [<- hz]
  exact (congrArg pur e).trans (qd _)
 clear hx
 have ls:(szL (17+i)).length<=34:=by rw [<- hz,aQ,cD];omega
 subst hr1
 refine zk fun r1 hr1=>?_
 walk_at "ra"
 refine ⟨⟨_,rfl⟩,by omega,?_⟩
 refine kE (fun o=>[some (.ref b),some (.d (.int (17+i))),some (.d (.lst ((szL (17+i)).map .int))),none,o]) (fun k:Int=>AV.d (.int k)) (fun k=>.d (.str (wdL k))) (szL (17+i)) ⟨_,rfl⟩ trivial (by omega) (fun o k Q hk q=>?_) fun o=>?_
 ·have q:=q (some (.d (.int k)))
  show jC 4 (AV.d (.int k)) _ _ _
  walk_at "ra"
  exact ⟨by rw [show (aj "abcdefgh").length=8 by decide +kernel];omega,q⟩
 have hj:yk (sg 32) (S "row" :: (szL (17+i)).map wdL)<=1000:=by
  clear hz hL sb s1
  rcases in4 a1 a2 with rfl | rfl | rfl | rfl <;> decide +kernel
 rw [spE]
 refine ⟨(szL (17+i)).map fun k=>.str (wdL k),qC _ _,by rw [ap];omega,S "row" :: (szL (17+i)).map wdL,by rw [bp,bH,bH];rfl,by omega,?_⟩
 have hg:(if 18<17+i then jE (bX (sg 32) (S "row" :: (szL (17+i)).map wdL) ++ S "\nrow") (yy 0) else jE (bX (sg 32) (S "row" :: (szL (17+i)).map wdL) ++ S "\nrow") (Zz 1)):=by
  have e:=M9 i a1 a2
  clear hz hL sb s1 hj
  rcases in4 a1 a2 with rfl | rfl | rfl | rfl
  ·exact qO (W:=lgW 0) (by decide +kernel) e
  ·exact qO (W:=lgW 1) (by decide +kernel) e
  ·exact jx (W:=lgW 2) (by decide +kernel) e
  ·exact jx (W:=lgW 3) (by decide +kernel) e
 have hlen:(bX (sg 32) (S "row" :: (szL (17+i)).map wdL)).length<=1000:=by
  rw [xt (by simp)]
  clear hz hL sb s1 hj hg
  rcases in4 a1 a2 with rfl | rfl | rfl | rfl <;> decide +kernel
 generalize bX (sg 32) (S "row" :: (szL (17+i)).map wdL)=z at *
 have lr:(aj "\nrow").length=4:=by decide +kernel
 subst hr1
 walk_at "ra"
 refine ⟨by omega,by omega,by omega,by omega,?_⟩
 by_cases c:18<17+i
 ·rw [if_pos c] at hg ⊢
  exact ⟨_,rfl,by omega,_,rfl,sb.rt fun M' s=>q _ _ M' s hg⟩
 ·rw [if_neg c] at hg ⊢
  exact ⟨_,rfl,by omega,_,rfl,sb.rt fun M' s=>q _ _ M' s hg⟩
noncomputable def tlW (i:Int):List Str:=if i=0 then [S "100"] else if i=1 then [S "1000"] else if i=2 then [S "10",S "10"] else [S "10",S "100"]
noncomputable abbrev odW (i:Int):List Str:=S "order" :: (aH 58 (S "1000") ++ tlW i)
noncomputable abbrev rab:List Str:=[S "row",S "a",S "b"]
noncomputable abbrev Gw:List (List Str):=[[S "label"],[S "roll"],[S "row",S "a"],[S "x"]]
theorem ld1:(([0,1,2,3]:List Int).all fun i=>Gw.all fun b=>vb [rab,b,odW i] 1)=true:=by decide +kernel
theorem ld2:(([0,1,2,3]:List Int).all fun i=>Gw.all fun b=>vb [rab,[S "row"],odW i,b] (if 1<i then 2 else 3))=true:=by decide +kernel
theorem ld0:(([0,1,2,3]:List Int).all fun i=>if 1<i then vb [rab,[S "row"],odW i] 2 else va [rab,[S "row"],odW i] 2)=true:=by decide +kernel
theorem MV {e:Str}(he:(i=0/\e=S " 100") \/ (i=1/\e=S " 1000") \/ (i=2/\e=S " 10 10") \/ (i=3/\e=S " 10 100")):(aj "order" ++ eT (aj " 1000") 58 ++ e).cps.toList=(qz (odW i)).cps.toList:=by
 rw [zt,zt,show (58:Int)=((58:Nat):Int) from rfl,jY (by omega) (by decide +kernel),zQ]
 rcases he with ⟨rfl,rfl⟩ | ⟨rfl,rfl⟩ | ⟨rfl,rfl⟩ | ⟨rfl,rfl⟩ <;> decide +kernel
variable {b:Str}
theorem MW (h:b=S "label" \/ b=S "roll" \/ b=S "row a" \/ b=S "x"):∃ w ∈ Gw,b.cps.toList=(qz w).cps.toList:=by
 rcases h with rfl | rfl | rfl | rfl
 ·exact ⟨_,.head _,by decide +kernel⟩
 ·exact ⟨_,.tail _ (.head _),by decide +kernel⟩
 ·exact ⟨_,.tail _ (.tail _ (.head _)),by decide +kernel⟩
 ·exact ⟨_,.tail _ (.tail _ (.tail _ (.head _))),by decide +kernel⟩
theorem Lf:(aj "row a b\n").cps.toList=(qz rab).cps.toList ++ [10]:=by decide +kernel
theorem Vo:(aj "row a b\nrow\n").cps.toList=(qz rab).cps.toList ++ 10 :: ((qz [S "row"]).cps.toList ++ [10]):=by decide +kernel
theorem tx3 (a b c:List Str):(jv [a,b,c]).cps.toList=(qz a).cps.toList ++ 10 :: ((qz b).cps.toList ++ 10 :: (qz c).cps.toList):=(zQ 10 [qz a,qz b,qz c]).trans rfl
theorem tx4 (a b c d:List Str):(jv [a,b,c,d]).cps.toList=(qz a).cps.toList ++ 10 :: ((qz b).cps.toList ++ 10 :: ((qz c).cps.toList ++ 10 :: (qz d).cps.toList)):=(zQ 10 [qz a,qz b,qz c,qz d]).trans rfl
theorem Lr:(aj "\n").cps.toList=[10]:=by decide +kernel
noncomputable abbrev yL:cn:=top 72
theorem wz:zp ["_law_box_here","_law_rest","_law_row","_law_bad","_law_way"] ["_law_box_here"] (zd yL):=⟨rfl,rfl,rfl,by decide +kernel,rfl,by decide +kernel,by decide +kernel⟩
theorem YQ (a:At K mg "_law_long_deed" yL)(B:Blt mg)(D_law_take:Df P w K mg base "_law_take" ["_law_box_here","_law_many_here"] 2 (cSp wl)):Df P w K mg base "_law_long_deed" ["_law_box_here"] 3 (cSp (kL 3)):=by
 refine dfA (k:=2) a wz (fun _ _ _ _ _ _=>Pn1_ fun _=>rfl) (fun xs M Q h=>?_) (fun f cdv A outer s H E hr=>?_)
 ·obtain ⟨_,_,rfl,_⟩:=h;rfl
 have sc:=wz
 have hsl:=hsl
 refine ⟨_,(zc (zw (i:=1) sc.nd rfl (by first | exact bn rfl | exact bq rfl) (zH D_law_take hr rfl (za (pv 0) (za ze zb))))
  (zc (zw (i:=2) sc.nd rfl (by first | exact bn rfl | exact bq rfl) (zu zV (zu zV zl (zu K2 zl ze)) (zM qc (zK (za zl (za zl (za zl (za zl zb))))) (pv 1) (fun _ _=>rfl))))
  (zc (zw (i:=3) sc.nd rfl (by first | exact bn rfl | exact bq rfl) (zM qc (zK (za zl (za zl (za zl (za zl zb))))) (zH D_law_take hr rfl (za (pv 0) (za ze zb))) (fun _ _=>rfl)))
  (zc (zw (i:=4) sc.nd rfl (by first | exact bn rfl | exact bq rfl) (zH D_law_take hr rfl (za (pv 0) (za ze zb))))
  (zc (qb (zJ (jB hr.units) (pv 4) ze (zy _)) (zf (zr (zU (za (zu zV (zu zV (zu zV zl (pv 3)) zl) (pv 2)) (za (zU (za zl (za ze zb))) zb))))) zF)
  (zc (qb (zJ (jB hr.units) (pv 4) ze (zy _)) (zf (zr (zU (za (zu zV (zu zV (zu zV zl (pv 2)) zl) (pv 3)) (za (zU (za zl (za (zM qc (zK (za ze (za ze zb))) (zL qr rfl B.int jn (za (zX kh (pv 1) ze (zy _)) zb)) (fun _ _=>rfl)) zb))) zb))))) zF)
  (zf (zr (zU (za (zu zV zl (pv 2)) (za (zM qc (zK (za (zU (za zl (za ze zb))) (za (zU (za zl (za ze zb))) zb))) (zL qr rfl B.int jn (za (zX kh (pv 1) ze (zy _)) zb)) (fun _ _=>rfl)) zb))))))))))),?_⟩
 refine ex2 (by walk_at "sim") ?_
 rintro xs M Q ⟨b,N,rfl,bx,hN,q⟩
 rw [show zA ["_law_box_here","_law_rest","_law_row","_law_bad","_law_way"] [.ref b]=[some (.ref b),none,none,none,none] from rfl]
 have sb:=SB.refl bx
 refine zk fun r1 hr1=>?_
 walk_at "ra"
 refine ⟨b,4,_,rfl,sb.bx,by omega,by omega,by omega,fun i M1 s1 i1 i2=>?_⟩
 have sb:=sb.go s1
 subst hr1
 refine zk fun r1 hr1=>?_
 walk_at "ra"
 have hsl2:100000<aT:=by rw [bY];decide
 have ml:(eT (aj " 1000") 58).length=290:=by
  rw [<- zv,show (58:Int)=((58:Nat):Int) from rfl,jY (by omega) (by decide +kernel),lz,bN,iF]
  rfl
 have lo:(aj "order").length=5:=by decide +kernel
 obtain ⟨e,he,hx⟩:∃ e:Str,((i=0/\e=S " 100") \/ (i=1/\e=S " 1000") \/ (i=2/\e=S " 10 10") \/ (i=3/\e=S " 10 100"))/\atI [AV.d (Dat.str (aj " 100")),AV.d (Dat.str (aj " 1000")),AV.d (Dat.str (aj " 10 10")),AV.d (Dat.str (aj " 10 100"))] i=some (.d (.str e)):=by
  rcases in4 i1 i2 with rfl | rfl | rfl | rfl
  ·exact ⟨_,.inl ⟨rfl,rfl⟩,rfl⟩
  ·exact ⟨_,.inr (.inl ⟨rfl,rfl⟩),rfl⟩
  ·exact ⟨_,.inr (.inr (.inl ⟨rfl,rfl⟩)),rfl⟩
  ·exact ⟨_,.inr (.inr (.inr ⟨rfl,rfl⟩)),rfl⟩
 have el:e.length<=10:=by rcases he with ⟨_,rfl⟩ | ⟨_,rfl⟩ | ⟨_,rfl⟩ | ⟨_,rfl⟩ <;> decide +kernel
 have al:(aj "order" ++ eT (aj " 1000") 58).length=295:=by rw [<- zv,zt,aQ,zv,zv,ml,lo]
 refine ⟨Wd (m:=58) (by omega) (by decide +kernel),by omega,by omega,_,hx,e,rfl,by omega,?_⟩
 have rl:(aj "order" ++ eT (aj " 1000") 58 ++ e).length<=305:=by rw [<- zv,zt,aQ,zv,zv,al];omega
 obtain ⟨row,hrow⟩:∃ row:Str,row=aj "order" ++ eT (aj " 1000") 58 ++ e:=⟨_,rfl⟩
 rw [<- hrow] at rl ⊢
 subst hr1
 refine zk fun r1 hr1=>?_
 walk_at "ra"
 refine ⟨by omega,b,4,_,rfl,sb.bx,by omega,by omega,by omega,fun j M1 s1 j1 j2=>⟨j,rfl,?_⟩⟩
 have sb:=sb.go s1
 obtain ⟨bad,hb,hx⟩:∃ bad:Str,(bad=S "label" \/ bad=S "roll" \/ bad=S "row a" \/ bad=S "x")/\atI [AV.d (Dat.str (aj "label")),AV.d (Dat.str (aj "roll")),AV.d (Dat.str (aj "row a")),AV.d (Dat.str (aj "x"))] j=some (.d (.str bad)):=by
  rcases in4 j1 j2 with rfl | rfl | rfl | rfl
  ·exact ⟨_,.inl rfl,rfl⟩
  ·exact ⟨_,.inr (.inl rfl),rfl⟩
  ·exact ⟨_,.inr (.inr (.inl rfl)),rfl⟩
  ·exact ⟨_,.inr (.inr (.inr rfl)),rfl⟩
 refine ⟨_,hx,?_⟩
 subst hr1
 refine zk fun r1 hr1=>?_
 walk_at "ra"
 refine ⟨b,3,_,rfl,sb.bx,by omega,by omega,by omega,fun w M1 s1 w1 w2=>?_⟩
 have sb:=sb.go s1
 have bl:bad.length<=10:=by rcases hb with rfl | rfl | rfl | rfl <;> decide +kernel
 subst hr1
 refine zk fun r1 hr1=>?_
 walk_at "ra"
 have hi:i ∈ ([0,1,2,3]:List Int):=by rcases in4 i1 i2 with rfl | rfl | rfl | rfl <;> simp
 have er:=MV he
 rw [<- hrow] at er
 obtain ⟨bw,hbw,eb⟩:=MW hb
 have la:∀ a b:Str,(a ++ b).length=a.length+b.length:=fun a b=>by rw [<- zv,zt,aQ,zv,zv]
 have n1:(aj "row a b\n").length=8:=by decide +kernel
 have n2:(aj "row a b\nrow\n").length=12:=by decide +kernel
 have n3:(aj "\n").length=1:=by decide +kernel
 by_cases c1:w=1
 ·rw [if_pos c1]
  have g:jE (aj "row a b\n" ++ bad ++ aj "\n" ++ row) (yy 1):=by
   refine jx (W:=[rab,bw,odW i]) (bv.mp (bv.mp ld1 i hi) bw hbw) ?_
   rw [zt,zt,zt,er,eb,Lf,Lr,tx3]
   simp only [dI,dW,dD]
  rw [la,la,la,n1,n3]
  exact ⟨by omega,by omega,by omega,by omega,by omega,sb.rt fun M' s=>q _ _ M' s g⟩
 rw [if_neg c1]
 subst hr1
 refine zk fun r1 hr1=>?_
 walk_at "ra"
 by_cases c2:w=2
 ·rw [if_pos c2]
  have g:jE (aj "row a b\nrow\n" ++ row ++ aj "\n" ++ bad) (yy (if 1<i then 2 else 3)):=by
   refine jx (W:=[rab,[S "row"],odW i,bw]) (bv.mp (bv.mp ld2 i hi) bw hbw) ?_
   rw [zt,zt,zt,er,eb,Vo,Lr,tx4]
   simp only [dI,dW,dD]
  rw [la,la,la,n2,n3]
  refine ⟨by omega,by omega,by omega,by omega,?_⟩
  by_cases c:1<i
  ·rw [if_pos c] at g ⊢
   exact ⟨_,rfl,by omega,_,rfl,by omega,sb.rt fun M' s=>q _ _ M' s g⟩
  ·rw [if_neg c] at g ⊢
   exact ⟨_,rfl,by omega,_,rfl,by omega,sb.rt fun M' s=>q _ _ M' s g⟩
 rw [if_neg c2]
 subst hr1
 walk_at "ra"
 have g:(if 1<i then jE (aj "row a b\nrow\n" ++ row) (yy 2) else jE (aj "row a b\nrow\n" ++ row) (Zz 2)):=by
  have e:(aj "row a b\nrow\n" ++ row).cps.toList=(jv [rab,[S "row"],odW i]).cps.toList:=by
   rw [zt,er,Vo,tx3]
   simp only [dI,dW,dD]
  have h:=bv.mp ld0 i hi
  by_cases c:1<i
  ·rw [if_pos c] at h ⊢;exact jx h e
  ·rw [if_neg c] at h ⊢;exact qO h e
 rw [n2]
 refine ⟨by omega,by omega,by omega,by omega,?_⟩
 by_cases c:1<i
 ·rw [if_pos c] at g ⊢
  exact ⟨_,rfl,by omega,_,rfl,sb.rt fun M' s=>q _ _ M' s g⟩
 ·rw [if_neg c] at g ⊢
  exact ⟨_,rfl,by omega,_,rfl,sb.rt fun M' s=>q _ _ M' s g⟩
noncomputable abbrev YM:List Str:=[S "",S "moves",S "roll 2",S "undo"]
noncomputable abbrev V4 (l:List Str):Int:=((l.filter fun r=>decide (r ≠ aj "")).length:Nat)
theorem nlE:aj "\n"=sg 10:=by decide +kernel
theorem Vc {α:Type}(l:List α)(x:α):atI (l ++ [x]) (-1)=some x:=by
 unfold atI
 rw [show ixN (l ++ [x]).length (-1)=some l.length from by
  unfold ixN;simp only [aQ,b7];split <;> simp_all <;> omega]
 show (l ++ [x])[l.length]?=_
 simp
theorem Dw (l:List Str)(y:Str):(V4 l+if decide (y=aj "")=false then 1 else 0)=V4 (l ++ [y]):=by
 unfold V4
 rw [lU,aQ]
 by_cases c:y=aj ""
 ·rw [if_neg (by simp [c]),io (by simp [c])];simp
 ·rw [if_pos (by simp [c]),ip (by simpa using c)];simp
theorem Mh:(YM.all fun r=>decide (r.length<=8) && ((decide (r=S "") || (qy (Txt.split r (sg 32)) && A4 (Txt.split r (sg 32)))) && r.cps.toList.all fun c=>decide (c<128/\c ≠ 10)))=true:=by decide +kernel
theorem LR:(([S "label",S "roll",S "row a",S "x"]:List Str).all fun r=>decide (r.length<=8) && (decide (r ≠ S "") && (!qy (Txt.split r (sg 32)) && r.cps.toList.all fun c=>decide (c<128/\c ≠ 10))))=true:=by decide +kernel
theorem Wn:(S "row b a").length=7/\S "row b a" ≠ aj ""/\jo (Txt.split (S "row b a") (sg 32))=true/\∀ c ∈ (S "row b a").cps.toList,c<128/\c ≠ 10:=⟨by decide +kernel,by decide +kernel,by decide +kernel,fun c hc=>of_decide_eq_true (bv.mp (show (S "row b a").cps.toList.all (fun c=>decide (c<128/\c ≠ 10))=true by decide +kernel) c hc)⟩
theorem xq {r:Str}(h:r ∈ YM):r.length<=8/\(r=aj "" \/ (qy (Txt.split r (sg 32))=true/\A4 (Txt.split r (sg 32))=true))/\∀ c ∈ r.cps.toList,c<128/\c ≠ 10:=by
 have:=bv.mp Mh r h
 rw [bj,bj,iM,bj] at this
 exact ⟨of_decide_eq_true this.1,this.2.1.imp of_decide_eq_true id,fun c hc=>of_decide_eq_true (bv.mp this.2.2 c hc)⟩
theorem FH {r:Str}(h:r ∈ ([S "label",S "roll",S "row a",S "x"]:List Str)):r.length<=8/\r ≠ aj ""/\qy (Txt.split r (sg 32))=false/\∀ c ∈ r.cps.toList,c<128/\c ≠ 10:=by
 have:=bv.mp LR r h
 rw [bj,bj,bj,mq] at this
 exact ⟨of_decide_eq_true this.1,of_decide_eq_true this.2.1,this.2.2.1,fun c hc=>of_decide_eq_true (bv.mp this.2.2.2 c hc)⟩
theorem Bm {l:List Str}(h:∀ z ∈ l,z.length<=8):(l.map dm).sum<=8 * l.length:=by
 induction l with
 | nil=>exact aL _
 | cons a r ih=>
  have:=ih fun z hz=>h z (ba _ hz)
  have:=h a (by simp)
  rw [bp,List.sum_cons,aV];omega
theorem J2 (l:List Str):ql 0 [] (S "row b a" :: l)=ql 1 [Txt.split (S "row b a") (sg 32)] l:=by
 obtain ⟨h1,h2,h3,_⟩:=Wn
 rw [ql,if_neg (by omega),if_neg h2,if_pos rfl,if_pos h3];rfl
theorem Xs (h:∀ z ∈ l,z.length<=8/\∀ c ∈ z.cps.toList,c<128/\c ≠ 10)(hl:l.length<=200):j7 (bX (sg 10) (S "row b a" :: l))=ql 1 [Txt.split (S "row b a") (sg 32)] l/\Asc (bX (sg 10) (S "row b a" :: l)):=by
 obtain ⟨h1,_,_,h4⟩:=Wn
 have hall:∀ p ∈ S "row b a" :: l,p.length<=8/\∀ c ∈ p.cps.toList,c<128/\c ≠ 10:=fun p hp=>by
  rcases aJ.mp hp with rfl | hp
  ·exact ⟨by omega,h4⟩
  ·exact h p hp
 refine ⟨?_,Q9 (by simp) (fun p hp c hc=>((hall p hp).2 c hc).1) ?_⟩
 ·unfold j7
  rw [xa (by simp) fun p hp z=>((hall p hp).2 10 z).2 rfl]
  exact J2 l
 ·have:=Bm fun z hz=>(hall z hz).1
  rw [aV] at this ⊢
  omega
theorem YN (h:∀ z ∈ l,z ∈ YM)(hl:l.length<=200):if l.length+1<=100 then jE (bX (sg 10) (S "row b a" :: l)) (.tup [.str (S "answers"),.int (V4 l)]) else jE (bX (sg 10) (S "row b a" :: l)) (yy 100):=by
 obtain ⟨e1,e2⟩:=Xs (fun z hz=>⟨(xq (h z hz)).1,(xq (h z hz)).2.2⟩) hl
 have e3:=kW l 1 [Txt.split (S "row b a") (sg 32)] (by simp) (fun r hr=>⟨by have:=(xq (h r hr)).1;omega,(xq (h r hr)).2.1.imp id fun z=>z.1⟩) (by omega)
 by_cases c:l.length+1<=100
 ·rw [if_pos c]
  rw [if_pos (by omega)] at e3
  rw [e3] at e1
  refine ⟨e2,?_,fun rs hrs ws hws=>?_⟩
  ·unfold we;rw [e1];dsimp only
   rw [dW,List.tail_cons,dD,ap]
  ·rw [e1] at hrs;cases hrs
   rw [dW,List.tail_cons,dD] at hws
   obtain ⟨r,hr,rfl⟩:=cv.mp hws
   obtain ⟨hr1,hr2⟩:=iG.mp hr
   exact VI ((xq (h r hr1)).2.1.resolve_left (of_decide_eq_true hr2)).2
 ·rw [if_neg c]
  rw [if_neg (by omega)] at e3
  rw [e3] at e1
  exact ⟨e2,by unfold we;rw [e1],fun rs hrs=>by rw [e1] at hrs;cases hrs⟩
theorem BL {t:Nat}(h:∀ z ∈ l,z ∈ YM)(hl:l.length<=200)(hb:b ∈ ([S "label",S "roll",S "row a",S "x"]:List Str))(h0:1<=t)(h1:t<l.length+1):jE (bX (sg 10) ((S "row b a" :: l).set t b)) (yy (min t 100)):=by
 obtain ⟨b1,b2,b3,b4⟩:=FH hb
 obtain ⟨u,rfl⟩:∃ u,t=u+1:=⟨t - 1,by omega⟩
 have es:(S "row b a" :: l).set (u+1) b=S "row b a" :: (l.take u ++ b :: l.drop (u+1)):=by
  rw [List.set_cons_succ,List.set_eq_take_append_cons_drop,if_pos (by omega)]
 rw [es]
 have hx:∀ z ∈ l.take u ++ b :: l.drop (u+1),z.length<=8/\∀ c ∈ z.cps.toList,c<128/\c ≠ 10:=fun z hz=>by
  rcases cq.mp hz with hz | hz
  ·have:=xq (h z (gr hz));exact ⟨this.1,this.2.2⟩
  ·rcases aJ.mp hz with rfl | hz
   ·exact ⟨b1,b4⟩
   ·have:=xq (h z (i8 hz));exact ⟨this.1,this.2.2⟩
 obtain ⟨e1,e2⟩:=Xs hx (by rw [aQ,aV,ca,cW];omega)
 rw [x8 (l.take u) b (l.drop (u+1)) 1 _ (by simp) (fun r hr=>by have:=xq (h r (gr hr));exact ⟨by omega,this.2.1.imp id fun z=>z.1⟩) b2 b3 (by omega)] at e1
 refine ⟨e2,?_,fun rs hrs=>by rw [e1] at hrs;cases hrs⟩
 unfold we;rw [e1];dsimp only
 rw [ca,show 1+min u l.length=u+1 by omega]
noncomputable abbrev Zm:cn:=top 70
theorem Q5:zp ["_law_box_here","_law_many_here","_law_rows","_law_answers","_law_at"] ["_law_box_here"] (zd Zm):=⟨rfl,rfl,rfl,by decide +kernel,rfl,by decide +kernel,by decide +kernel⟩
theorem WO (a:At K mg "_law_many" Zm)(B:Blt mg)(D_law_take:Df P w K mg base "_law_take" ["_law_box_here","_law_many_here"] 2 (cSp wl)):Df P w K mg base "_law_many" ["_law_box_here"] 3 (cSp (kL 1000)):=by
  refine dfA (k:=2) a Q5 (fun _ _ _ _ _ _=>Pn1_ fun _=>rfl) (fun xs M Q h=>?_) (fun f cdv A outer s H E hr=>?_)
  · obtain ⟨_,_,rfl,_⟩:=h;rfl
  have sc:=Q5
  have hsl:=hsl
  refine ⟨_,(zc (zw (i:=1) sc.nd rfl (by first | exact bn rfl | exact bq rfl) (zu qf ze (zH D_law_take hr rfl (za (pv 0) (za ze zb)))))
    (zc (zw (i:=2) sc.nd rfl (by first | exact bn rfl | exact bq rfl) (xM (zK (za zl zb))))
    (zc (zw (i:=3) sc.nd rfl (by first | exact bn rfl | exact bq rfl) ze)
    (zc (Jf cJ (zJ Fm (zn zm rfl B.len zP (za (pv 2) zb)) (pv 1) (zy _)) (zc (xf (jH cL cZ db jG (pv 2) (za (zM qc (zK (za zl (za zl (za zl (za zl zb))))) (zH D_law_take hr rfl (za (pv 0) (za ze zb))) (fun _ _=>rfl)) zb)))
    (zf (zw (i:=3) sc.nd rfl (by first | exact bn rfl | exact bq rfl) (zu qf (pv 3) (zL qr rfl B.int jn (za (zX (qL hr.units) (zM qc (pv 2) (Mv IZ ze) (fun _ _=>rfl)) zl (zy _)) zb)))))))
    (zc (qb (zJ (jB hr.units) (zH D_law_take hr rfl (za (pv 0) (za ze zb))) ze (zy _)) (zc (zw (i:=4) sc.nd rfl (by first | exact bn rfl | exact bq rfl) (zu qf ze (zH D_law_take hr rfl (za (pv 0) (za (zu J9 (pv 1) ze) zb)))))
    (zc (jN (zM qc (zK (za zl (za zl (za zl (za zl zb))))) (zH D_law_take hr rfl (za (pv 0) (za ze zb))) (fun _ _=>rfl)) (jT (pv 2) (pv 4) qu))
    (zf (zr (zU (za (jH ci dA dB xr zl (za (pv 2) zb)) (za (zU (za zl (za (zn (wR rfl) rfl B.min Vu (za (pv 4) (za ze zb))) zb))) zb))))))) zF)
    (zf (zr (zU (za (jH ci dA dB xr zl (za (pv 2) zb)) (za (zM qc (zK (za (zU (za zl (za (pv 3) zb))) (za (zU (za zl (za ze zb))) zb))) (zL qr rfl B.int jn (za (zX kh (pv 1) ze (zy _)) zb)) (fun _ _=>rfl)) zb)))))))))),?_⟩
  refine ex2 (by walk_at "sim") ?_
  rintro xs M Q ⟨b,N,rfl,bx,hN,q⟩
  rw [show zA ["_law_box_here","_law_many_here","_law_rows","_law_answers","_law_at"] [.ref b]=[some (.ref b),none,none,none,none] from rfl]
  have sb:=SB.refl bx
  have hsl2:100000<aT:=by rw [bY];decide
  refine zk fun r1 hr1=>?_
  walk_at "ra"
  refine ⟨b,5,_,rfl,sb.bx,by omega,by omega,by omega,fun i M1 s1 a1 a2=>⟨i,rfl,?_⟩⟩
  have sb:=sb.go s1
  obtain ⟨m,hm,m0,m1⟩:∃ m:Nat,98+i=(m:Int)/\98<=m/\m<=102:=⟨(98+i).toNat,by omega,by omega,by omega⟩
  rw [hm]
  subst hr1
  refine zk fun r1 hr1=>?_
  walk_at "ra"
  refine ⟨by omega,fun p hp _=>?_⟩
  obtain ⟨p0,pb⟩:=sb.new hp
  have sb:=sb.put p0 pb (.lst [AV.d (Dat.str (aj "row b a"))])
  subst hr1
  refine zk fun r1 hr1=>?_
  walk_at "ra"
  subst hr1
  refine zk fun r1 hr1=>?_
  walk_at "ra"
  refine ⟨fun k ρ M'=>∃ l:List Str,ρ=[some (.ref b),some (.d (.int (m:Int))),some (.ref p),some (.d (.int (V4 l))),none]/\SB M M' b (N+1+l.length)/\M' p=some (.lst ((S "row b a" :: l).map fun z=>AV.d (.str z)))/\(∀ z ∈ l,z ∈ YM)/\k+l.length+1=m,⟨m - 1,[],rfl,sb,zq,(fun _ h=>nomatch h),by rw [d9];omega⟩,?_⟩
  rintro k ρ M' ⟨l,rfl,sb,hl,hm4,hk⟩
  walk_at "ra"
  refine ⟨_,js hl,?_⟩
  rw [ap,aV]
  by_cases c:((l.length+1:Nat):Int)<m
  · rw [if_pos (by simpa using c)]
    have hp':(l.length:Int)<102:=by omega
    refine ⟨⟨_,qU hl⟩,by omega,b,4,_,rfl,sb.bx,by omega,by omega,by omega,fun j M2 s2 j1 j2=>⟨j,rfl,?_⟩⟩
    have sb2:=sb.go s2
    have hl2:=(s2.at pb).trans hl
    obtain ⟨y,hy,hx⟩:∃ y,y ∈ YM/\atI [AV.d (Dat.str (aj "")),AV.d (Dat.str (aj "moves")),AV.d (Dat.str (aj "roll 2")),AV.d (Dat.str (aj "undo"))] j=some (.d (.str y)):=by
      rcases in4 j1 j2 with rfl | rfl | rfl | rfl
      · exact ⟨_,.head _,rfl⟩
      · exact ⟨_,.tail _ (.head _),rfl⟩
      · exact ⟨_,.tail _ (.tail _ (.head _)),rfl⟩
      · exact ⟨_,.tail _ (.tail _ (.tail _ (.head _))),rfl⟩
    refine ⟨_,hx,_,hl2,by rw [ap,aV];omega,_,js zq,.d (.str y),Vc _ _,.str y,rfl,by rw [ZL];omega,k - 1,by omega,l ++ [y],?_,(sb2.mono (by rw [aQ,b7];omega)).put p0 pb _,?_,?_,?_⟩
    · rw [ZC];exact Dw l y
    · rw [zq,bp,bU];rfl
    · intro z hz
      rcases cq.mp hz with hz | hz
      · exact hm4 z hz
      · rw [bG.mp hz];exact hy
    · rw [aQ,b7];omega
  · rw [if_neg (by simpa using c)]
    subst hr1
    refine zk fun r1 hr1=>?_
    walk_at "ra"
    rw [nlE]
    have hL:(S "row b a" :: l).length=m:=by rw [aV];omega
    have h8:∀ z ∈ S "row b a" :: l,z.length<=8:=fun z hz=>by
      rcases aJ.mp hz with rfl | hz
      · have:=Wn.1;omega
      · exact (xq (hm4 z hz)).1
    have jw:∀ rows:List Str,rows.length=m->(∀ z ∈ rows,z.length<=8)->yk (sg 10) rows<=2000:=fun rows h1 h2=>by
      have:=Bm h2
      show (rows.map dm).sum+rows.length * 1<=2000
      omega
    refine ⟨b,2,_,rfl,sb.bx,by omega,by omega,by omega,fun w M2 s2 w1 w2=>⟨.int w,rfl,by rw [Jr];omega,?_⟩⟩
    have sb2:=sb.go s2
    have hl2:=(s2.at pb).trans hl
    rw [Kg]
    by_cases c0:w=0
    · rw [if_pos (decide_eq_true c0)]
      refine ⟨b,(m:Int) - 1,_,rfl,sb2.bx,by omega,by omega,by omega,fun u M3 s3 u1 u2=>⟨u,rfl,by omega,b,4,_,rfl,(sb2.go s3).bx,by omega,by omega,by omega,fun j M4 s4 j1 j2=>⟨j,rfl,?_⟩⟩⟩
      have sb4:=(sb2.go s3).go s4
      have hl4:=(s4.at pb).trans ((s3.at pb).trans hl2)
      obtain ⟨y,hy,hx⟩:∃ y,y ∈ ([S "label",S "roll",S "row a",S "x"]:List Str)/\atI [AV.d (Dat.str (aj "label")),AV.d (Dat.str (aj "roll")),AV.d (Dat.str (aj "row a")),AV.d (Dat.str (aj "x"))] j=some (.d (.str y)):=by
        rcases in4 j1 j2 with rfl | rfl | rfl | rfl
        · exact ⟨_,.head _,rfl⟩
        · exact ⟨_,.tail _ (.head _),rfl⟩
        · exact ⟨_,.tail _ (.tail _ (.head _)),rfl⟩
        · exact ⟨_,.tail _ (.tail _ (.tail _ (.head _))),rfl⟩
      have g:=BL (t:=(1+u).toNat) hm4 (by omega) hy (by omega) (by omega)
      refine ⟨_,hx,_,hl4,(1+u).toNat,kP (by omega) (by rw [ap,hL];omega),⟨_,rfl⟩,(S "row b a" :: l).set (1+u).toNat y,(qU zq).trans (by rw [fO]),?_,by omega,by omega,?_⟩
      · have := jw ((S "row b a" :: l).set (1 + u).toNat y) (by rw [bT]; exact hL) fun z hz => by
          rcases List.mem_or_eq_of_mem_set hz with hz | rfl
          · exact h8 z hz
          · exact (FH hy).1
        omega
      · rw [show (if 100<1+u then (100:Int) else 1+u)=((min (1+u).toNat 100:Nat):Int) by split <;> omega]
        exact ((sb4.put p0 pb _).mono (N':=N+1000) (by omega)).rt fun M' s=>q _ _ M' s g
    · rw [if_neg (by simpa using c0)]
      have g:=YN hm4 (by omega)
      subst hr1
      walk_at "ra"
      rw [nlE]
      have:=jw (S "row b a" :: l) hL h8
      refine ⟨⟨_,rfl⟩,S "row b a" :: l,qU hl2,by omega,by omega,by omega,by omega,?_⟩
      by_cases c2:100<(m:Int)
      · rw [if_pos c2]
        rw [if_neg (by omega)] at g
        exact ⟨_,rfl,by omega,_,rfl,(sb2.mono (N':=N+1000) (by omega)).rt fun M' s=>q _ _ M' s g⟩
      · rw [if_neg c2]
        rw [if_pos (by omega)] at g
        exact ⟨_,rfl,by omega,_,rfl,(sb2.mono (N':=N+1000) (by omega)).rt fun M' s=>q _ _ M' s g⟩
variable {pa:aE} {ep:Nat}
theorem Mm {t0 t1 t2 t3 t4 t5 t6 t7 t8 t9 t10 u0 u1 u2 u3 u4 u5 u6 u7 u8 u9 u10:Tok} (lP:K.lookup pa=some ⟨.type "dict",none,.dict #[⟨bJ w "roll",.str "roll" t0,.int 1 u0⟩,⟨bJ w "turn",.str "turn" t1,.int 2 u1⟩,⟨bJ w "weave",.str "weave" t2,.int 0 u2⟩,⟨bJ w "unweave",.str "unweave" t3,.int 0 u3⟩,⟨bJ w "gather",.str "gather" t4,.int 0 u4⟩,⟨bJ w "swap",.str "swap" t5,.int 2 u5⟩,⟨bJ w "undo",.str "undo" t6,.int 0 u6⟩,⟨bJ w "row",.str "row" t7,.int 0 u7⟩,⟨bJ w "moves",.str "moves" t8,.int 0 u8⟩,⟨bJ w "rings",.str "rings" t9,.int 0 u9⟩,⟨bJ w "place",.str "place" t10,.int 1 u10⟩] ep,#[]⟩)(nP:(pa == dY)=false):KD K w pa nbK:=by
 refine ⟨⟨_,_,lP,fun P=>?_⟩,nP⟩
 refine ⟨fun e he=>?_,[(aZ "roll",.int 1 u0),(aZ "turn",.int 2 u1),(aZ "weave",.int 0 u2),(aZ "unweave",.int 0 u3),(aZ "gather",.int 0 u4),(aZ "swap",.int 2 u5),(aZ "undo",.int 0 u6),(aZ "row",.int 0 u7),(aZ "moves",.int 0 u8),(aZ "rings",.int 0 u9),(aZ "place",.int 1 u10)],?_,?_,by show ([aZ (aj "roll"),aZ (aj "turn"),aZ (aj "weave"),aZ (aj "unweave"),aZ (aj "gather"),aZ (aj "swap"),aZ (aj "undo"),aZ (aj "row"),aZ (aj "moves"),aZ (aj "rings"),aZ (aj "place")]:List Key).Nodup;decide +kernel⟩
 ·have he:e ∈ [_,_,_,_,_,_,_,_,_,_,_]:=eI.mpr he
  rcases aJ.mp he with z | he
  ·exact ⟨aZ "roll",by rw [z];rfl,by rw [z];rfl⟩
  rcases aJ.mp he with z | he
  ·exact ⟨aZ "turn",by rw [z];rfl,by rw [z];rfl⟩
  rcases aJ.mp he with z | he
  ·exact ⟨aZ "weave",by rw [z];rfl,by rw [z];rfl⟩
  rcases aJ.mp he with z | he
  ·exact ⟨aZ "unweave",by rw [z];rfl,by rw [z];rfl⟩
  rcases aJ.mp he with z | he
  ·exact ⟨aZ "gather",by rw [z];rfl,by rw [z];rfl⟩
  rcases aJ.mp he with z | he
  ·exact ⟨aZ "swap",by rw [z];rfl,by rw [z];rfl⟩
  rcases aJ.mp he with z | he
  ·exact ⟨aZ "undo",by rw [z];rfl,by rw [z];rfl⟩
  rcases aJ.mp he with z | he
  ·exact ⟨aZ "row",by rw [z];rfl,by rw [z];rfl⟩
  rcases aJ.mp he with z | he
  ·exact ⟨aZ "moves",by rw [z];rfl,by rw [z];rfl⟩
  rcases aJ.mp he with z | he
  ·exact ⟨aZ "rings",by rw [z];rfl,by rw [z];rfl⟩
  rw [bG.mp he]
  exact ⟨aZ "place",rfl,rfl⟩
 ·exact .cons ⟨rfl,_,rfl⟩ (.cons ⟨rfl,_,rfl⟩ (.cons ⟨rfl,_,rfl⟩ (.cons ⟨rfl,_,rfl⟩ (.cons ⟨rfl,_,rfl⟩ (.cons ⟨rfl,_,rfl⟩ (.cons ⟨rfl,_,rfl⟩ (.cons ⟨rfl,_,rfl⟩ (.cons ⟨rfl,_,rfl⟩ (.cons ⟨rfl,_,rfl⟩ (.cons ⟨rfl,_,rfl⟩ (.nil)))))))))))
 ·exact .cons rfl rfl (.cons rfl rfl (.cons rfl rfl (.cons rfl rfl (.cons rfl rfl (.cons rfl rfl (.cons rfl rfl (.cons rfl rfl (.cons rfl rfl (.cons rfl rfl (.cons rfl rfl (.nil)))))))))))
variable {t0 t1 t2 t3 t4:Tok}
theorem Gu (lP:K.lookup pa=some ⟨.type "dict",none,.dict #[⟨bJ w "undo",.str "undo" t0,.ref f1⟩,⟨bJ w "row",.str "row" t1,.ref f2⟩,⟨bJ w "moves",.str "moves" t2,.ref f3⟩,⟨bJ w "rings",.str "rings" t3,.ref f4⟩,⟨bJ w "place",.str "place" t4,.ref f5⟩] ep,#[]⟩)(nP:(pa == dY)=false):KD K w pa (kvO f1 f2 f3 f4 f5):=by
 refine ⟨⟨_,_,lP,fun P=>?_⟩,nP⟩
 refine ⟨fun e he=>?_,[(aZ "undo",.ref f1),(aZ "row",.ref f2),(aZ "moves",.ref f3),(aZ "rings",.ref f4),(aZ "place",.ref f5)],?_,?_,by show ([aZ (aj "undo"),aZ (aj "row"),aZ (aj "moves"),aZ (aj "rings"),aZ (aj "place")]:List Key).Nodup;decide +kernel⟩
 ·have he:e ∈ [_,_,_,_,_]:=eI.mpr he
  rcases aJ.mp he with z | he
  ·exact ⟨aZ "undo",by rw [z];rfl,by rw [z];rfl⟩
  rcases aJ.mp he with z | he
  ·exact ⟨aZ "row",by rw [z];rfl,by rw [z];rfl⟩
  rcases aJ.mp he with z | he
  ·exact ⟨aZ "moves",by rw [z];rfl,by rw [z];rfl⟩
  rcases aJ.mp he with z | he
  ·exact ⟨aZ "rings",by rw [z];rfl,by rw [z];rfl⟩
  rw [bG.mp he]
  exact ⟨aZ "place",rfl,rfl⟩
 ·exact .cons ⟨rfl,rfl⟩ (.cons ⟨rfl,rfl⟩ (.cons ⟨rfl,rfl⟩ (.cons ⟨rfl,rfl⟩ (.cons ⟨rfl,rfl⟩ (.nil)))))
 ·exact .cons rfl rfl (.cons rfl rfl (.cons rfl rfl (.cons rfl rfl (.cons rfl rfl (.nil)))))
theorem GH {pa f1 f2 f3 f4 f5 f6 f7:aE}{t0 t1 t2 t3 t4 t5 t6:Tok} (lP:K.lookup pa=some ⟨.type "dict",none,.dict #[⟨bJ w "order",.str "order" t0,.ref f1⟩,⟨bJ w "roll",.str "roll" t1,.ref f2⟩,⟨bJ w "turn",.str "turn" t2,.ref f3⟩,⟨bJ w "weave",.str "weave" t3,.ref f4⟩,⟨bJ w "unweave",.str "unweave" t4,.ref f5⟩,⟨bJ w "gather",.str "gather" t5,.ref f6⟩,⟨bJ w "swap",.str "swap" t6,.ref f7⟩] ep,#[]⟩)(nP:(pa == dY)=false):KD K w pa (kvD f1 f2 f3 f4 f5 f6 f7):=by
 refine ⟨⟨_,_,lP,fun P=>?_⟩,nP⟩
 refine ⟨fun e he=>?_,[(aZ "order",.ref f1),(aZ "roll",.ref f2),(aZ "turn",.ref f3),(aZ "weave",.ref f4),(aZ "unweave",.ref f5),(aZ "gather",.ref f6),(aZ "swap",.ref f7)],?_,?_,by show ([aZ (aj "order"),aZ (aj "roll"),aZ (aj "turn"),aZ (aj "weave"),aZ (aj "unweave"),aZ (aj "gather"),aZ (aj "swap")]:List Key).Nodup;decide +kernel⟩
 ·have he:e ∈ [_,_,_,_,_,_,_]:=eI.mpr he
  rcases aJ.mp he with z | he
  ·exact ⟨aZ "order",by rw [z];rfl,by rw [z];rfl⟩
  rcases aJ.mp he with z | he
  ·exact ⟨aZ "roll",by rw [z];rfl,by rw [z];rfl⟩
  rcases aJ.mp he with z | he
  ·exact ⟨aZ "turn",by rw [z];rfl,by rw [z];rfl⟩
  rcases aJ.mp he with z | he
  ·exact ⟨aZ "weave",by rw [z];rfl,by rw [z];rfl⟩
  rcases aJ.mp he with z | he
  ·exact ⟨aZ "unweave",by rw [z];rfl,by rw [z];rfl⟩
  rcases aJ.mp he with z | he
  ·exact ⟨aZ "gather",by rw [z];rfl,by rw [z];rfl⟩
  rw [bG.mp he]
  exact ⟨aZ "swap",rfl,rfl⟩
 ·exact .cons ⟨rfl,rfl⟩ (.cons ⟨rfl,rfl⟩ (.cons ⟨rfl,rfl⟩ (.cons ⟨rfl,rfl⟩ (.cons ⟨rfl,rfl⟩ (.cons ⟨rfl,rfl⟩ (.cons ⟨rfl,rfl⟩ (.nil)))))))
 ·exact .cons rfl rfl (.cons rfl rfl (.cons rfl rfl (.cons rfl rfl (.cons rfl rfl (.cons rfl rfl (.cons rfl rfl (.nil)))))))
theorem By {ps:List Str} {T:List (aE × Sp)}(h:∀ f sp,(f,sp) ∈ T->∃ x,Df P w K mg base x ps k sp/\mg x=some (.ref f)):FnT P w K mg base ps k T:=fun f sp hm=>by
 obtain ⟨x,⟨f',fd,F,b,kp,m,_⟩,hx⟩:=h f sp hm
 rw [hx] at m
 cases m
 exact ⟨fd,F,b,kp⟩
noncomputable abbrev TOl (C f1 f2 f3 f5:aE):List (aE × Sp):=[(f1,cSp (qR C yr fun _=>True)),(f2,cSp (qR C Jk fun _=>True)),(f3,cSp (qR C JV fun _=>True)),(f5,cSp (qR C j4 fun m=>m=1))]
noncomputable abbrev TDl (C d1 d2:aE):List (aE × Sp):=[(d1,cSp (jU C Zv fun _=>True)),(d2,cSp (jU C yl fun m=>m=1))]
theorem LN:wm (kvO f1 f2 f3 f4 f5) (TOl C f1 f2 f3 f5) (tbO C):=fun z sp h=>by
 unfold kvO
 simp only [Bb]
 unfold tbO at h
 by_cases c1:z=aj "undo"
 ·rw [if_pos c1] at h ⊢;cases h;exact ⟨f1,rfl,by simp⟩
 rw [if_neg c1] at h ⊢
 by_cases c2:z=aj "row"
 ·rw [if_pos c2] at h ⊢;cases h;exact ⟨f2,rfl,by simp⟩
 rw [if_neg c2] at h ⊢
 by_cases c3:z=aj "moves"
 ·rw [if_pos c3] at h ⊢;cases h;exact ⟨f3,rfl,by simp⟩
 rw [if_neg c3] at h ⊢
 by_cases c4:z=aj "place"
 ·rw [if_pos c4] at h;cases h
  subst c4
  rw [if_neg (by decide +kernel),if_pos rfl]
  exact ⟨f5,rfl,by simp⟩
 rw [if_neg c4] at h;cases h
theorem L4 {C d1 d2 d3 d4 d5 d6 d7:aE}:wm (kvD d1 d2 d3 d4 d5 d6 d7) (TDl C d1 d2) (tbD C):=fun z sp h=>by
 unfold kvD
 simp only [Bb]
 unfold tbD at h
 by_cases c1:z=aj "order"
 ·rw [if_pos c1] at h ⊢;cases h;exact ⟨d1,rfl,by simp⟩
 rw [if_neg c1] at h ⊢
 by_cases c2:z=aj "roll"
 ·rw [if_pos c2] at h ⊢;cases h;exact ⟨d2,rfl,by simp⟩
 rw [if_neg c2] at h;cases h
theorem MkX.mono {j k n:Nat}{fn:List V->List (Str × V)}(m:MkX P w K mg base C j n fn)(h:j<=k):MkX P w K mg base C k n fn:=
 let ⟨f,fd,ps,q,F,r⟩:=m
 ⟨f,fd,ps,q,F.mono h,r⟩
noncomputable abbrev A8:cn:=top 75
theorem VX:zp ["_law_script","_law_cells","_law_k","_law_box_here","_law_text","_law_due"] ["_law_script"] (zd A8):=⟨rfl,rfl,rfl,by decide +kernel,rfl,by decide +kernel,by decide +kernel⟩
noncomputable def XG (K:au):Sp:=fun vs H Q _=>∃ (a:aE) (ns:List Int),vs=[.ref a]/\SqL K H a (ns.map V.int)/\ns.length<=63/\∀ H',Q (.bl true) H'
noncomputable def LD (K:au):ASp:=fun xs M Q=>∃ ns:List Int,xs=[.d (.scr K ns)]/\ns.length<=63/\Q (.d (.bl true)) M
theorem sp_law (vs:List V)(H:Hp)(Q:VK)(E:XK)(h:XG K vs H Q E):cSp (LD K) vs H Q E:=by
 obtain ⟨a,ns,rfl,ha,hn,q⟩:=h
 refine ⟨[.d (.scr K ns)],fun _=>none,fun _=>False,fun x _=>x=.d (.bl true),⟨(fun a o e=>nomatch e),(fun a h=>h rfl),fun a h=>h.elim⟩,.cons (B2 (fun _ z=>z) ha) .nil,⟨ns,rfl,hn,rfl⟩,fun x M' v H' O' hx _ _ r=>?_⟩
 subst hx
 rw [j0 r]
 exact q H'
theorem Wh:va [[S "row",S "a"],[S "place",S "1000"],[S "place",S "9999"]] 2=true:=by decide +kernel
theorem WM:(aj "row a\nplace 1000\nplace 9999").cps.toList=(jv [[S "row",S "a"],[S "place",S "1000"],[S "place",S "9999"]]).cps.toList:=by decide +kernel
theorem WD:j7 (aj "row a\nplace 1000\nplace 9999")=.ok [[S "row",S "a"],[S "place",S "1000"],[S "place",S "9999"]]:=by
 have h:=Wh
 unfold va at h
 rw [bj] at h
 rw [ZO WM,(Zr h.1).1]
 rfl
theorem AR {k:Int}(h:s.ws.length=1)(hz:zW [z]=[k])(hk:1<=k):vd s [S "place",z]=(aj "refused",s):=by
 unfold vd
 dsimp only
 rw [show qo [S "place",z]=aj "place" from rfl,if_neg (by decide +kernel),if_neg (by decide +kernel),if_neg (by decide +kernel),if_pos rfl]
 rw [show [S "place",z].tail=[z] from rfl,hz]
 unfold j4
 rw [h,show ([k]:List Int).getD 0 0=k from rfl,if_pos (by omega)]
theorem Md:yv (qZ [S "a"]) [[S "place",S "1000"],[S "place",S "9999"]]=[aj "refused",aj "refused"]:=by
 rw [yv,AR (k:=1000) rfl (by decide +kernel) (by decide),yv,AR (k:=9999) rfl (by decide +kernel) (by decide),yv]
theorem Mb:jE (aj "row a\nplace 10000") (yy 1):=jx (W:=[[S "row",S "a"],[S "place",S "10000"]]) (by decide +kernel) (by decide +kernel)
theorem ML:jE (aj "row abcdefgh\nrow") (Zz 1):=qO (W:=[[S "row",S "abcdefgh"],[S "row"]]) (by decide +kernel) (by decide +kernel)
theorem Hg (z:Str):dp (we z)<=40:=by
 unfold we
 split
 ·simp [dp,dps]
 ·simp [dp,dps]
theorem Gd (a:At K mg "law" A8)(B:Blt mg)(D_law_box:Df P w K mg base "_law_box" ["_law_script","_law_k"] 19 (cSp Lx))(D_law_folded:Df P w K mg base "_law_folded" ["_law_script","_law_many_here"] 19 (cSp (XD K)))
  (D_law_many:Df P w K mg base "_law_many" ["_law_box_here"] 19 (cSp (kL 1000))) (D_law_things:Df P w K mg base "_law_things" ["_law_box_here"] 19 (cSp (kL 1))) (D_law_long:Df P w K mg base "_law_long" ["_law_box_here"] 19 (cSp (kL 1))) (D_law_numbers:Df P w K mg base "_law_numbers" ["_law_box_here"] 19 (cSp (kL 1))) (D_law_long_deed:Df P w K mg base "_law_long_deed" ["_law_box_here"] 19 (cSp (kL 3)))
  (D_law_found:Df P w K mg base "_law_found" ["_law_text"] 19 (cSp Mu)) (DX_run:DfX P w K mg base "run" ["text"] 19 (yP (IC cBadRow))) :
  Df P w K mg base "law" ["_law_script"] 20 (cSp (LD K)):=by
 refine dfA (k:=19) a VX (fun _ _ _ _ _ _=>Pn1_ fun _=>rfl) (fun xs M Q h=>?_) (fun f cdv A outer s H E hr=>?_)
 ·obtain ⟨_,rfl,_⟩:=h;rfl
 have sc:=VX
 have hsl:=hsl
 refine ⟨_,(zc (zw (i:=1) sc.nd rfl (by first | exact bn rfl | exact bq rfl) (zH D_law_folded hr rfl (za (pv 0) (za ze zb))))
  (zc (jW cJ rfl (xV rfl B.range (za (zu qf (zn (wR rfl) rfl B.min Vu (za ze (za (Dg (zn zm rfl B.len zP (za (pv 0) zb))) zb))) ze) zb)) (zE (i:=2) sc.nd rfl (by first | exact bn rfl | exact bq rfl)) (zc (zw (i:=3) sc.nd rfl (by first | exact bn rfl | exact bq rfl) (zH D_law_box hr rfl (za (pv 1) (za (pv 2) zb))))
  (zf (jW cJ rfl (kO (zK (za (zH D_law_many hr rfl (za (pv 3) zb)) (za (zH D_law_things hr rfl (za (pv 3) zb)) (za (zH D_law_long hr rfl (za (pv 3) zb)) (za (zH D_law_numbers hr rfl (za (pv 3) zb)) (za (zH D_law_long_deed hr rfl (za (pv 3) zb)) zb))))))) (jS (K:=K) 2 rfl rfl (zZ (zE (i:=4) sc.nd rfl (by first | exact bn rfl | exact bq rfl)) (zZ (zE (i:=5) sc.nd rfl (by first | exact bn rfl | exact bq rfl)) jV))) (zf (qb (zJ (qL hr.units) (zH D_law_found hr rfl (za (pv 4) zb)) (pv 5) (zy _)) (zf (zr j8)) zF))))))
  (zc (qb (zJ (qL hr.units) (Vf DX_run hr rfl Hu (za zl zb)) (zK (za zl (za zl zb))) (zy _)) (zf (zr j8)) zF)
  (zf (zr (yZ (zX (jB hr.units) (zH D_law_found hr rfl (za zl zb)) (zU (za zl (za ze zb))) (zy _)) (vL (zX (jB hr.units) (zH D_law_found hr rfl (za zl zb)) (zU (za zl (za ze zb))) (zy _))))))))),?_⟩
 refine ex2 (by walk_at "sim") ?_
 rintro xs M Q ⟨ns,rfl,hn,q⟩
 rw [show zA ["_law_script","_law_cells","_law_k","_law_box_here","_law_text","_law_due"] [.d (.scr K ns)]=[some (.d (.scr K ns)),none,none,none,none,none] from rfl]
 have hsl2:100000<aT:=by rw [bY];decide
 refine zk fun r hr0=>?_
 walk_at "ra"
 refine ⟨6,ns,rfl,by omega,by omega,hn,fun cs lc=>?_⟩
 subst hr0
 refine zk fun r hr0=>?_
 walk_at "ra"
 refine ⟨ns,rfl,by split <;> omega,by split <;> omega,?_⟩
 generalize hmm:((if (ns.length:Int)<6 then (ns.length:Int) else 6)+1).toNat=mm
 have hmm:mm<=7:=by rw [<- hmm];split <;> omega
 refine ⟨fun i ρ M'=>(∃ x2 x3 x4 x5,ρ=[some (.d (.scr K ns)),some (.d (ilD cs)),x2,x3,x4,x5])/\Fr M M',⟨⟨_,_,_,_,rfl⟩,Fr.refl⟩,?_,?_⟩
 ·rintro i y ρ M1 hy ⟨⟨x2,x3,x4,x5,rfl⟩,f1⟩
  obtain ⟨hi,rfl⟩:=vU hy
  refine ⟨trivial,?_⟩
  rw [mr,iV]
  show Jp _ _ _ _ _ _
  refine zk fun r2 hr2=>?_
  walk_at "ra"
  refine ⟨_,i,cs,rfl,DW _ _,by omega,by omega,by omega,fun b o hb bx=>?_⟩
  have b0:=f1.non hb
  have f2:=f1.mup b0 o
  have sb:=SB.refl bx
  generalize mup M1 b o=M2 at *
  subst hr2
  walk_at "ra"
  refine ⟨b,0,rfl,sb.bx,by omega,fun z1 d1 M3 s3 g1=>?_⟩
  have sb:=sb.go s3
  refine ⟨b,_,rfl,sb.bx,by omega,fun z2 d2 M4 s4 g2=>?_⟩
  have sb:=sb.go s4
  refine ⟨b,_,rfl,sb.bx,by omega,fun z3 d3 M5 s5 g3=>?_⟩
  have sb:=sb.go s5
  refine ⟨b,_,rfl,sb.bx,by omega,fun z4 d4 M6 s6 g4=>?_⟩
  have sb:=sb.go s6
  refine ⟨b,_,rfl,sb.bx,by omega,fun z5 d5 M7 s7 g5=>?_⟩
  have sb:=sb.go s7
  dsimp only
  refine ⟨by omega,[.tup [.str z1,d1],.tup [.str z2,d2],.tup [.str z3,d3],.tup [.str z4,d4],.tup [.str z5,d5]],rfl,?_⟩
  refine ⟨fun _ ρ M'=>(∃ x4 x5,ρ=[some (.d (.scr K ns)),some (.d (ilD cs)),some (.d (.int (i:Int))),some (.ref b),x4,x5])/\M'=M7,⟨⟨_,_,rfl⟩,rfl⟩,?_,?_⟩
  ·rintro j y ρ M' hy ⟨⟨x4,x5,rfl⟩,rfl⟩
   obtain ⟨z,d,g,rfl⟩:∃ z d,jE z d/\y=.d (.tup [.str z,d]):=by
    have hm:=br hy
    simp only [bp,gE,aJ,bM,or_false] at hm
    rcases hm with rfl | rfl | rfl | rfl | rfl
    ·exact ⟨_,_,g1,rfl⟩
    ·exact ⟨_,_,g2,rfl⟩
    ·exact ⟨_,_,g3,rfl⟩
    ·exact ⟨_,_,g4,rfl⟩
    ·exact ⟨_,_,g5,rfl⟩
   refine ⟨trivial,?_⟩
   walk_at "ra"
   have hd:=Hg z
   rw [g.f] at hd
   refine ⟨z,d,rfl,g,d,rfl,hd,hd,?_⟩
   rw [if_neg (by rw [Qg (by omega)];decide)]
   exact ⟨⟨_,rfl⟩,rfl⟩
  ·rintro ρ M' ⟨⟨x4,x5,rfl⟩,rfl⟩
   exact ⟨trivial,⟨_,_,_,_,rfl⟩,SB.frm f2 b0 sb⟩
 ·rintro ρ M1 ⟨⟨x2,x3,x4,x5,rfl⟩,f1⟩
  refine ⟨trivial,?_⟩
  subst hr0
  dsimp only
  refine zk fun r hr0=>?_
  walk_at "ra"
  refine ⟨_,rfl,(qO Wh WM).a,fun i hi=>(by rw [WD] at hi;cases hi),fun rs hrs=>?_⟩
  rw [WD] at hrs
  cases hrs
  refine ⟨(qO Wh WM).o _ WD,?_⟩
  rw [show ([[S "row",S "a"],[S "place",S "1000"],[S "place",S "9999"]]:List (List Str)).tail=[[S "place",S "1000"],[S "place",S "9999"]] from rfl,show (([[S "row",S "a"],[S "place",S "1000"],[S "place",S "9999"]]:List (List Str)).headD []).tail=[S "a"] from rfl,Md]
  refine ⟨by omega,_,rfl,by decide +kernel,by decide +kernel,?_⟩
  rw [if_neg (by decide +kernel)]
  subst hr0
  walk_at "ra"
  refine ⟨_,_,rfl,Mb,by omega,_,rfl,by decide +kernel,by decide +kernel,?_⟩
  rw [if_pos (by decide +kernel)]
  refine ⟨_,_,rfl,ML,by omega,_,rfl,by decide +kernel,by decide +kernel,?_⟩
  rw [show eqD (Zz 1) (Dat.tup [Dat.str (aj "answers"),Dat.int 1])=true by decide +kernel]
  exact qa f1 q
end
variable {l:PySem.W.OpenLaw}
theorem all_mk {w:bC}{K:au}{h:Heap}{mg:Str->Option am}{fa cBadRow fBadRow:aE}{cdd:ClassData}{C pn pO pD f1 f2 f3 f4 f5 d1 d2 d3 d4 d5 d6 d7:aE}{g0 g1 g2 g3 g4 g5 g6 n0 v0 n1 v1 n2 v2 n3 v3 n4 v4 n5 v5 n6 v6 n7 v7 n8 v8 n9 v9 n10 v10 o0 o1 o2 o3 o4 e0 e1 e2 e3 e4 e5 e6:Tok}{ep eq er:Nat}(X:K.In h)(G:h.Ns aW mg)(hfa:mg "law"=some (.ref fa))(a:At K mg "law" A8)(B:Blt mg)(Ball:mg "all"=none)
  (a__law_take:At K mg "_law_take" JT) (a__law_box:At K mg "_law_box" VV) (a__law_folded:At K mg "_law_folded" vh) (a__law_many:At K mg "_law_many" Zm) (a__law_things:At K mg "_law_things" xP) (a__law_long:At K mg "_law_long" ZA) (a__law_numbers:At K mg "_law_numbers" Zh) (a__law_long_deed:At K mg "_law_long_deed" yL) (a__law_found:At K mg "_law_found" vD) (a_run:At K mg "run" WZ) (a_rows_read:At K mg "rows_read" ZV) (a_is_first_row:At K mg "is_first_row" yd) (a_is_later_row:At K mg "is_later_row" xI) (a_is_thing:At K mg "is_thing" xX) (a_is_number:At K mg "is_number" xb) (a_is_roll:At K mg "is_roll" vj) (a_answer:At K mg "answer" V7) (a_undo:At K mg "undo" Jl) (a_tell_row:At K mg "tell_row" xH) (a_tell_moves:At K mg "tell_moves" xT) (a_tell_place:At K mg "tell_place" vW) (a_order_written:At K mg "order_written" Kr) (a_order_rolled:At K mg "order_rolled" Ku) (a_or_dash:At K mg "or_dash" yS) (a_is_order:At K mg "is_order" yc) (a_is_place:At K mg "is_place" kT) (a_roll_order:At K mg "roll_order" J7) (a_back_of:At K mg "back_of" Jq) (a_after:At K mg "after" Zu) (a_fewest_moves:At K mg "fewest_moves" Jm) (a_off:At K mg "off" VJ) (a_rings:At K mg "rings" ZD) (a_ring_from:At K mg "ring_from" kA) (a_put:At K mg "put" BA) (a_own_copy:At K mg "own_copy" yF) (a_staying:At K mg "staying" JG)
  (ag_BadRow:aX K aW "BadRow"=some (some (.ref cBadRow)))
  (xgs:fB K (.builtin "object.__class__") "__get__"=some (some (.builtin "getset_descriptor.__get__")))
  (xtk:iJ K (.builtin "object.__class__")=some true)
  (dbx:PySem.W.subIn K (.ref cBadRow) (.type "BaseException")=some true)
  (dga:bz K (.ref cBadRow) "__getattribute__"=some (some (.builtin "BaseException.__getattribute__")))
  (dgt:bz K (.ref cBadRow) "__getattr__"=some none)
  (dcl:bz K (.ref cBadRow) "__class__"=some (some (.builtin "object.__class__")))
  (dmo:PySem.W.mroIn K cBadRow (.type "object")=some true)
  (dis:PySem.W.clsIn K cBadRow=some cdd)
  (dhd:dG K cBadRow=true)
  (dfr:bz K (.ref cBadRow) "row"=some none)
  (di:gO K (.ref cBadRow) (.ref cBadRow)=some true)
  (gl0:aX K aW "MOST_ROWS"=some (some (.int 100 g0)))
  (gl1:aX K aW "MOST_SIGNS"=some (some (.int 300 g1)))
  (gl2:aX K aW "MOST_THINGS"=some (some (.int 60 g2)))
  (gl3:aX K aW "MOST_LETTERS"=some (some (.int 8 g3)))
  (gl4:aX K aW "MOST_FIGURES"=some (some (.int 4 g4)))
  (gl5:aX K aW "LETTERS"=some (some (.str "abcdefghijklmnopqrstuvwxyz" g5)))
  (gl6:aX K aW "FIGURES"=some (some (.str "0123456789" g6)))
  (aS:aX K aW "Sheet"=some (some (.ref C)))
  (spg:eO K C mw=true)
  (shd:dG K C=true)
  (spo:g9 K C=true)
  (ssa:bz K (.ref C) "__setattr__"=some (some (.builtin "object.__setattr__")))
  (smk:iI K C=true)
  (skc:cF K (.ref C)=true)
  (snw:bz K (.ref C) "words"=some none)
  (sno:bz K (.ref C) "order"=some none)
  (snd:bz K (.ref C) "deeds"=some none)
  (snt:bz K (.ref C) "total"=some none)
  (aN:aX K aW "NUMBERS_BEHIND"=some (some (.ref pn)))
  (aO:aX K aW "OTHERS"=some (some (.ref pO)))
  (aD:aX K aW "DEEDS"=some (some (.ref pD)))
  (fo0:aX K aW "undo"=some (some (.ref f1)))
  (fo1:aX K aW "tell_row"=some (some (.ref f2)))
  (fo2:aX K aW "tell_moves"=some (some (.ref f3)))
  (fo3:aX K aW "tell_rings"=some (some (.ref f4)))
  (fo4:aX K aW "tell_place"=some (some (.ref f5)))
  (fd0:aX K aW "order_written"=some (some (.ref d1)))
  (fd1:aX K aW "order_rolled"=some (some (.ref d2)))
  (fd2:aX K aW "order_turned"=some (some (.ref d3)))
  (fd3:aX K aW "order_woven"=some (some (.ref d4)))
  (fd4:aX K aW "order_unwoven"=some (some (.ref d5)))
  (fd5:aX K aW "order_gathered"=some (some (.ref d6)))
  (fd6:aX K aW "order_swapped"=some (some (.ref d7)))
  (lN:K.lookup pn=some ⟨.type "dict",none,.dict #[⟨bJ w "roll",.str "roll" n0,.int 1 v0⟩,⟨bJ w "turn",.str "turn" n1,.int 2 v1⟩,⟨bJ w "weave",.str "weave" n2,.int 0 v2⟩,⟨bJ w "unweave",.str "unweave" n3,.int 0 v3⟩,⟨bJ w "gather",.str "gather" n4,.int 0 v4⟩,⟨bJ w "swap",.str "swap" n5,.int 2 v5⟩,⟨bJ w "undo",.str "undo" n6,.int 0 v6⟩,⟨bJ w "row",.str "row" n7,.int 0 v7⟩,⟨bJ w "moves",.str "moves" n8,.int 0 v8⟩,⟨bJ w "rings",.str "rings" n9,.int 0 v9⟩,⟨bJ w "place",.str "place" n10,.int 1 v10⟩] ep,#[]⟩)
  (lO:K.lookup pO=some ⟨.type "dict",none,.dict #[⟨bJ w "undo",.str "undo" o0,.ref f1⟩,⟨bJ w "row",.str "row" o1,.ref f2⟩,⟨bJ w "moves",.str "moves" o2,.ref f3⟩,⟨bJ w "rings",.str "rings" o3,.ref f4⟩,⟨bJ w "place",.str "place" o4,.ref f5⟩] eq,#[]⟩)
  (lD:K.lookup pD=some ⟨.type "dict",none,.dict #[⟨bJ w "order",.str "order" e0,.ref d1⟩,⟨bJ w "roll",.str "roll" e1,.ref d2⟩,⟨bJ w "turn",.str "turn" e2,.ref d3⟩,⟨bJ w "weave",.str "weave" e3,.ref d4⟩,⟨bJ w "unweave",.str "unweave" e4,.ref d5⟩,⟨bJ w "gather",.str "gather" e5,.ref d6⟩,⟨bJ w "swap",.str "swap" e6,.ref d7⟩] er,#[]⟩)
  (zN:(pn == dY)=false)
  (zO:(pO == dY)=false)
  (zD:(pD == dY)=false)
  (am___init__:AtM K C "__init__" "Sheet.__init__" yY) (am_go_by:AtM K C "go_by" "Sheet.go_by" Kc) (am_words_now:AtM K C "words_now" "Sheet.words_now" xW)
  (xa_BadRow:bz K (.ref cBadRow) "__init__"=some (some (.ref fBadRow))) (xd_BadRow:∃ fd,Fun K "__init__" "BadRow.__init__" yV fBadRow fd) (xn_BadRow:eP K (.ref fBadRow)=true) (xq_BadRow:xL K cBadRow Y6 "ValueError.__new__" fBadRow=true) (xs_BadRow_row:Ys K cBadRow "row")
 :∃ fd:dv,(∀ (s:ax) (v:am),lj s fd ⟨[v],[]⟩ [("_law_script",v)])/\∀ base:Heap,K.In base->base.Ns aW mg->qS l.prog w K mg base CX0 20 fa fd ["_law_script"] (XG K):=by
 obtain ⟨f,fd,F,m⟩:=id a
 obtain rfl:fa=f:=by rw [hfa] at m;cases m;rfl
 obtain ⟨oc,od,kV,doc,pm,an,cdv,ct,osl,e,lk,hcd⟩:=F.ex
 refine ⟨fd,fun s v=>?_,fun base _ _=>?_⟩
 ·subst e;exact .of_eq rfl
 ·have T:=D2 (P:=l.prog) (w:=w) (base:=base) a__law_take B
  have XG_BadRow:=lA X G ag_BadRow
  have mo:∀ {n:Str} {v:am},aX K aW n=some (some v)->mg n=some v:=fun e=>lA X G e
  have R:STx K C:=⟨⟨spg,shd,spo,ssa⟩,snw,sno,snd,snt⟩
  have GL:Glb mg (fun i=>match i with | 0=>g0 | 1=>g1 | 2=>g2 | 3=>g3 | 4=>g4 | 5=>g5 | _=>g6):=⟨mo gl0,mo gl1,mo gl2,mo gl3,mo gl4,mo gl5,mo gl6⟩
  obtain ⟨fdB,FB⟩:=xd_BadRow
  have MX:MkX l.prog w K mg base cBadRow 1 1 fnR:=IU FB xq_BadRow xn_BadRow xs_BadRow_row
  have X2:Ls K cBadRow:=⟨⟨dbx,dga,dgt,dcl,xgs,xtk,dmo,by rw [dis];rfl⟩,di,dhd,dfr⟩
  have tk:=T.imp' Dv
  have th:=Kh (P:=l.prog) (w:=w) (base:=base) a_is_thing B Ball GL
  have nu:=Q0 (P:=l.prog) (w:=w) (base:=base) a_is_number B Ball GL
  have fi:=Jt (P:=l.prog) (w:=w) (base:=base) a_is_first_row B Ball th GL
  have la:=JF (P:=l.prog) (w:=w) (base:=base) a_is_later_row B Ball (nu.mono (by decide)) (XY a_is_roll B nu) (Mm lN zN) (mo aN)
  have rr:=WN (P:=l.prog) (w:=w) (base:=base) a_rows_read B GL XG_BadRow (MkX.mono MX (by decide)) la (fi.mono (by decide))
  have rg:=(Wl (P:=l.prog) (w:=w) (base:=base) a_rings B (ZI a_ring_from B)).imp' WX
  have fm:=Ep (P:=l.prog) (w:=w) (base:=base) a_fewest_moves B ((HP a_off B).mono (by decide)) (rg.mono (by decide))
  have af:=Bi (P:=l.prog) (w:=w) (base:=base) a_after B
  have pt:=Iw (P:=l.prog) (w:=w) (base:=base) a_put B (Wm a_own_copy B (YD a_own_copy))
  have st:=Dr (P:=l.prog) (w:=w) (base:=base) a_staying B
  have gb:=Dz (P:=l.prog) (w:=w) (base:=base) am_go_by R B fm (af.mono (by decide))
  have wn:=Jo (P:=l.prog) (w:=w) (base:=base) am_words_now R B pt
  have ow:=BU (P:=l.prog) (w:=w) (base:=base) a_order_written B ((Q4 a_is_order B (Qs a_is_place B)).mono (by decide)) R
  have or_:=Ew (P:=l.prog) (w:=w) (base:=base) a_order_rolled B (Dq a_roll_order B) R
  have tr:=JY (P:=l.prog) (w:=w) (base:=base) a_tell_row B ((Yq a_or_dash B).mono (by decide)) R R.cl wn
  have tm:=Ke (P:=l.prog) (w:=w) (base:=base) a_tell_moves B R
  have tp:=YZ (P:=l.prog) (w:=w) (base:=base) a_tell_place B R
  have un:=Dl (P:=l.prog) (w:=w) (base:=base) a_undo B ((Du a_back_of B).mono (by decide)) R R.cl gb
  have FO:FnT l.prog w K mg base ["sheet","numbers"] 6 (TOl C f1 f2 f3 f5):=By fun f sp hm=>by
   simp only [aJ,bM,or_false,Prod.mk.injEq] at hm
   rcases hm with ⟨rfl,rfl⟩ | ⟨rfl,rfl⟩ | ⟨rfl,rfl⟩ | ⟨rfl,rfl⟩
   ·exact ⟨"undo",un,mo fo0⟩
   ·exact ⟨"tell_row",tr.mono (by decide),mo fo1⟩
   ·exact ⟨"tell_moves",tm.mono (by decide),mo fo2⟩
   ·exact ⟨"tell_place",tp.mono (by decide),mo fo4⟩
  have FD:FnT l.prog w K mg base ["sheet","numbers"] 6 (TDl C d1 d2):=By fun f sp hm=>by
   simp only [aJ,bM,or_false,Prod.mk.injEq] at hm
   rcases hm with ⟨rfl,rfl⟩ | ⟨rfl,rfl⟩
   ·exact ⟨"order_written",ow.mono (by decide),mo fd0⟩
   ·exact ⟨"order_rolled",or_.mono (by decide),mo fd1⟩
  obtain ⟨fi_,fdi_,Fi_,bi_,mi_⟩:=(YH (P:=l.prog) (w:=w) (base:=base) am___init__ R B st).mono (show 2<=6 by decide)
  have MR:Mkr l.prog w K mg base "Sheet" C ["self","words"] 6 (cSp (ZM C)):=⟨fi_,fdi_,Fi_,bi_,⟨smk,mi_.at_,mi_.fn,skc⟩,mo aS⟩
  have an:=La (P:=l.prog) (w:=w) (base:=base) a_answer B R R.cl (gb.mono (by decide)) (Gu lO zO) (mo aO) FO LN (GH lD zD) (mo aD) FD L4
  have ru:=IW (P:=l.prog) (w:=w) (base:=base) a_run B R R.cl MR an (rr.mono (by decide))
  have lf:=X4 (P:=l.prog) (w:=w) (base:=base) a__law_found B XG_BadRow ru X2
  have L:=Gd (P:=l.prog) (w:=w) (base:=base) a B (((HE a__law_box B).imp' Hw).mono (by decide)) (((Yn a__law_folded B).imp' YT).mono (by decide)) ((WO a__law_many B (tk.mono (by decide))).mono (by decide)) ((Kn a__law_things B (tk.mono (by decide))).mono (by decide)) ((AM a__law_long B (tk.mono (by decide))).mono (by decide)) ((Ai a__law_numbers B (tk.mono (by decide))).mono (by decide)) ((YQ a__law_long_deed B (tk.mono (by decide))).mono (by decide)) (lf.mono (by decide)) (ru.mono (by decide))
  exact (L.imp' (sp_law (K:=K))).fn m lk
theorem walk {q:bf}{loose:List Str}{XP:(Str->Option am)->Heap->Prop}{YP:bC->Heap->Prop}{d:DefRec}{K:Params->au}(hn:l.most=some 63)(hdf:d.params.defaults=[])
  (hY:∀ (w:bC) (h:Heap),YP w h->(K w.params).In h)
  (F:∀ (w:bC) (mg:Str->Option am) (fa:aE) (h:Heap),(K w.params).In h->h.Ns aW mg->mg d.name=some (.ref fa) ->
   ∃ fd:dv,(∀ (s:ax) (u:am),lj s fd ⟨[u],[]⟩ [("_law_script",u)])/\∀ base:Heap,(K w.params).In base->base.Ns aW mg->qS l.prog w (K w.params) mg base CX0 20 fa fd ["_law_script"] (XG (K w.params))) :
  PySem.W.WalkO q loose XP YP l.row.toRowW d [] (fun f vs=>mV f vs):=
 L2.walk_of (n:=63) (k:=20) (x:="_law_script") (CX:=fun _=>CX0) (sp:=fun w=>XG (K w.params)) hn (by decide) hdf ⟨rfl,rfl,by decide,by decide⟩ hY F (fun _ _ a ns hl _ hS=>⟨a,ns,rfl,hS,hl,fun _=>rfl⟩) fun _ _ _ _ _ z=>z
end Ot
theorem PySem.W.Fast.te16949938886064315903:True:=trivial
theorem PySem.W.Fast.te4552366740508216028:True:=trivial
theorem PySem.W.Fast.te7919196569616909222:True:=trivial
namespace PySem.W.Fast
def tw4728869397165517009:=()
def tw6254079030398401014:=()
def tw2878423913257922736:=()
def tw11829172257419332368:=()
def tw5971709653321973154:=()
def tw17025078965808367996:=()
def tw2912218608415759921:=()
def tw9587652197469638488:=()
def tw14915817400317231818:=()
def tw2575574408868362432:=()
def tw1441245499269893980:=()
def tw3869876796519402915:=()
def tw8184920964729994273:=()
def tw17125546037643177217:=()
def tw13715363844699547028:=()
def tw3654808095697794417:=()
def tw10990454313589835306:=()
def tw3057147812739687429:=()
def tw8053291022698292510:=()
def tw8283066919745902985:=()
def tw17500985480776445472:=()
def tw3811085858207346141:=()
def tw16899380105678744690:=()
def tw7157920255719840659:=()
def tw13599513494358869432:=()
def tw6030624607044233557:=()
def tw113227466741843971:=()
def tw12967488257115468945:=()
def tw8491055781104465081:=()
def tw11291160099977777826:=()
def tw283794879982124558:=()
def tw13098686853683520210:=()
def tw554333876402187711:=()
def tw12191404234456287804:=()
def tw5634851543917911080:=()
def tw2664255628043048807:=()
def tw4124468694005126247:=()
def tw4322405232207813931:=()
def tw12259032702258334642:=()
def tw10673399001759518404:=()
def tw14595263646867684120:=()
def tw2604163489186351663:=()
def tw14837683905799273507:=()
def tw13016146502779865736:=()
def tw2459536881015211335:=()
def tw2442221448393511108:=()
def tw5732808685306474387:=()
def tw3379871822216588989:=()
def tw15238692442346909724:=()
def tw18079133368708029920:=()
def tw5062265240188663674:=()
def tw3840767284458154646:=()
def tw14422651761731605776:=()
def tw5657654640411043520:=()
def tw9334114878941682064:=()
def tw16127591142141483125:=()
def tw9567000147448368673:=()
def tw17554486726586604162:=()
def tw4569425941267115968:=()
def tw17246812723021958420:=()
def tw1171921790310928604:=()
def tw3690433562218573672:=()
def tw10218877278074872291:=()
def tw10620695313163739546:=()
def tw14868307173941154638:=()
def tw9891267984566754626:=()
def tw3565170866198535303:=()
def tw14639324702063957004:=()
def tw13380034254036360685:=()
def tw3916532416121420860:=()
def tw12838530859603418965:=()
def tw907114398622358293:=()
def tw6520260673496748805:=()
def tw6393462486881531032:=()
def tw12226776127535846286:=()
def tw9203135999674134322:=()
def tw8260610730337185213:=()
def tw1453419682607571901:=()
def tw11521479887397482467:=()
def tw3672578964683995952:=()
def tw4680412115847554502:=()
def tw14554241855302571805:=()
def tw1238166876551797231:=()
def tw14754039281988341335:=()
def tw3972879444372605064:=()
def tw17004196831604025236:=()
def tw13527857720977786492:=()
def tw3764105312468552997:=()
def tw6459988344581182783:=()
def tw10561945895534161503:=()
def tw18407505317164788776:=()
def tw15092093984558903208:=()
def tw896507738587837250:=()
def tw9059085871572710169:=()
def tw12509420351093894682:=()
def tw4399222379210200828:=()
def tw7681008252610582889:=()
def tw8805304999998826439:=()
def tw6408681589299098376:=()
def tw9541411298007495660:=()
def tw3510366926413076771:=()
def tw16811532633635939623:=()
def tw12841795894102070438:=()
def tw1149761079900676662:=()
def tw9100357448749428880:=()
def tw9791334924548820068:=()
def tw14215538877434092643:=()
def tw17554087352948039267:=()
def tw17454873664828336137:=()
def tw6288012758279186716:=()
def tw10799967495869905521:=()
def tw17938468026565624932:=()
def tw10586851191825651496:=()
def tw12036604027940755465:=()
def tw2226385472116774098:=()
def tw124894337341639162:=()
def tw17308706537184106105:=()
def tw15470497095886499420:=()
def tw9521738251620552045:=()
def tw15673658399881537647:=()
def tw6825501608972058395:=()
def tw18434536646744442431:=()
def tw10515201226641711337:=()
def tw1597093663937647532:=()
def tw9520954661811487114:=()
def tw5710129304715746314:=()
def tw17657413041532614368:=()
def tw14065274849641098459:=()
def tw4827201588945283693:=()
def tw15084403042152328154:=()
def tw7161177659569535608:=()
def tw9628643358495818393:=()
def tw10039124096664704016:=()
def tw7575758841884313345:=()
def tw17269468724426379666:=()
def tw4898758101905621332:=()
def tw34435427228101031:=()
def tw11993094402619107582:=()
def tw14661479905501635771:=()
def tw8241761682172433130:=()
def tw10716762943700873821:=()
def tw6889928833392160203:=()
def tw13053701948188242168:=()
def tw12572008444358281042:=()
def tw16625150712094910251:=()
def tw15804863696912125719:=()
def tw19999497289829395:=()
def tw2383940193940933583:=()
def tw6703032021177943065:=()
def tw5227858925949174104:=()
def tw7021240514361496266:=()
def tw5610256276185963959:=()
def tw2876100287691287084:=()
def tw3240674723379523646:=()
def tw4788441322478830353:=()
def tw17957513104213847411:=()
def tw10412320166981448361:=()
def tw6250329243304342246:=()
def tw7773057837146506510:=()
def tw4782287554511918243:=()
def tw13460507279156311392:=()
def tw12201992685563319926:=()
def tw17731362018842202448:=()
def tw6565184674889909213:=()
def tw3228179992574836959:=()
def tw12003930339242472633:=()
def tw13073302107735561105:=()
def tw17478839418713539344:=()
def tw7091903315998580664:=()
def tw12069237148334055089:=()
def tw3721928326923224043:=()
def tw12544468076732641054:=()
def tw5966439034695267461:=()
def tw14712770311544404889:=()
def tw4327466095762538808:=()
def tw9654962786625033969:=()
def tw7459059987437412802:=()
def tw10463571266219696453:=()
def tw10465539285440454105:=()
def tw2679630321341234484:=()
def tw10605104212258756876:=()
def tw13110985985780772939:=()
def tw13840481150718843646:=()
def tw8106991016781651856:=()
def tw15117472615199361681:=()
def tw6033288476236431998:=()
def tw17339498676982064681:=()
def tw16932581120858582003:=()
def tw10502517406025008625:=()
def tw9110819207533670304:=()
def tw10808266666424007943:=()
def tw17594834150244733634:=()
def tw2167547845731705073:=()
def tw804171633338881105:=()
def tw4849515258709313459:=()
def tw18938592442732731:=()
def tw7699351601126281181:=()
def tw12514602327129592566:=()
def tw4087019207266301978:=()
def tw15354884349776847892:=()
def tw2435091664447592545:=()
def tw7814881123937626324:=()
def tw14998994480001286737:=()
def tw3060497577227061793:=()
def tw2845704355519301031:=()
def tw4323478704894214870:=()
def tw1495741665442205424:=()
def tw9466840418684772957:=()
def tw10203275948596048081:=()
def tw2881787966793538685:=()
def tw4102395665772670420:=()
def tw4528888567903486584:=()
def tw14021587415533016035:=()
def tw17013763812482653746:=()
def tw15547834562307263839:=()
def tw9372599407830074031:=()
def tw16490920766473273547:=()
def tw8557796016032583180:=()
def tw7854012455028406167:=()
def tw120282861256895637:=()
def tw17110769315055831028:=()
def tw16147684411399678284:=()
def tw471671737153640911:=()
def tw4598655862360855794:=()
def tw11549579371179931718:=()
def tw2834001636494103282:=()
def tw13544270665858743890:=()
def tw6972844703048714825:=()
def tw2465118001077071873:=()
def tw12737109591484888716:=()
def tw6088078998757265924:=()
def tw14679238822587178167:=()
def tw13886950130515783873:=()
def tw7902542068665313032:=()
def tw10535065282327928488:=()
def tw11292714877740263413:=()
def tw5721388091102948327:=()
def tw12295407477485924356:=()
def tw7379420513369823032:=()
def tw14105688538734021647:=()
def tw7814975919242665561:=()
def tw12849543933688364721:=()
def tw6753291743122490218:=()
def tw7158098001148926773:=()
def tw4073532663185704505:=()
def tw9222937728344850656:=()
def tw2819737107100075633:=()
def tw8258166681602436049:=()
def tw12034011821260521825:=()
def tw16629786874038106734:=()
def tw9077822445512033874:=()
def tw4819111377298574094:=()
def tw10429365133325775776:=()
def tw16841283644640154166:=()
def tw8346325137045387984:=()
def tw3597701823625101476:=()
def tw18331831150556788312:=()
def tw540134266319386073:=()
def tw9193001528244234735:=()
def tw12678039258143305361:=()
def tw7159791826210041980:=()
def tw5213438110960888740:=()
def tw7391182014199967383:=()
def tw14606666454396161180:=()
def tw11324724591208843121:=()
def tw16687367270487804024:=()
def tw8719833655359275072:=()
def tw5336321448827408135:=()
def tw17688436445366700388:=()
def tw13496308283370917664:=()
def tw4216089981699993181:=()
def tw12172358242613925617:=()
def tw1990986993556592471:=()
def tw12874862637715402100:=()
def tw3844268194075634496:=()
def tw9779490784274863438:=()
def tw10127036038634788714:=()
def tw10666458323655753824:=()
def tw9925145822525758510:=()
def tw12001829005272269552:=()
def tw11346233233467881537:=()
def tw8700533846283682670:=()
def tw15522908192843682643:=()
def tw14645440698463833053:=()
def tw16053209673774971312:=()
def tw3367813770912198932:=()
def tw4369725187748327766:=()
def tw9352118320068051601:=()
def tw2669703432361707468:=()
def tw5460276112579129633:=()
def tw7935812441467706817:=()
def tw6856001096056663255:=()
def tw13501176465014834280:=()
def tw8305653344779706361:=()
def tw16731210476787810108:=()
def tw7507409928314703832:=()
def tw7520768382093995706:=()
def tw3015791002550601263:=()
def tw15593223195025659420:=()
def tw5113163268232455946:=()
def tw2207063926014794540:=()
def tw12300141557504149315:=()
def tw3721569381119295303:=()
def tw1369281103032477731:=()
def tw6990887160793924846:=()
def tw11452517093700305378:=()
def tw17075205241291193039:=()
def tw5224847063188066383:=()
def tw2815606499830437891:=()
def tw14770263137327643251:=()
def tw16470094153332674508:=()
def tw13074644889711163774:=()
def tw11670412858047135346:=()
def tw810195267780182858:=()
def tw16942418099876235173:=()
def tw4253381949544073695:=()
def tw11818763412262312091:=()
def tw2002697080439935799:=()
def tw5099674282165434750:=()
def tw7977817411018132761:=()
def tw1388578237703986909:=()
def tw264405580743568342:=()
def tw13536370649587619657:=()
def tw10961866245164809854:=()
def tw16896841535778043402:=()
def tw14330724642773583015:=()
def tw2538178653265824082:=()
def tw309314971499439446:=()
def tw13077420426639514120:=()
def tw17896721531230613111:=()
def tw6774795245551381539:=()
def tw14022495972055821895:=()
def tw3067466822201208844:=()
def tw14264516849418417207:=()
def tw6742236139401925997:=()
def tw15766780710798928512:=()
def tw17389827563747953345:=()
def tw13371042808625880239:=()
def tw10445073560862530814:=()
def tw13145722638103316139:=()
def tw3243560010377948942:=()
def tw3389803532056573697:=()
def tw1331162600901099170:=()
def tw746271997609870153:=()
def tw6697756144330072485:=()
def tw15918869697094908598:=()
def tw2236249601240827284:=()
def tw7780722655859610482:=()
def tw7288296650814892015:=()
def tw3696017276338904988:=()
def tw10695039251044594863:=()
def tw2331338262656495255:=()
def tw15590795495831636189:=()
def tw10666398165173559798:=()
def tw5767149113860652503:=()
def tw13937249873068898712:=()
def tw1252143474538716031:=()
def tw11554214787560031113:=()
def tw17426442199927121751:=()
def tw15891122093009354868:=()
def tw18060368939674869533:=()
def tw10279250431178393850:=()
def tw15573432050654170822:=()
def tw6967160817815592539:=()
def tw17404389729071207308:=()
def tw2257602986977884829:=()
def tw4687737222204893463:=()
def tw2952202472691839627:=()
def tw14177770570559222012:=()
def tw13018405589347543592:=()
def tw15562753933074968283:=()
def tw16411880062750861719:=()
def tw10162972249855645483:=()
def tw6068998672080220785:=()
def tw6927352991189310585:=()
def tw14248121298925482272:=()
def tw17517790671201433516:=()
def tw3363384625029046615:=()
def tw7136501317711676246:=()
def tw10189168838733734104:=()
def tw928257417908462859:=()
def tw540395749224414733:=()
def tw1005671866296866385:=()
def tw17190999881774296041:=()
def tw6471784826682219907:=()
def tw3383034745058618984:=()
def tw13169948820693939742:=()
def tw9926051452512318167:=()
def tw14651864449421683817:=()
def tw5713100214211552402:=()
def tw6928317494862668228:=()
def tw6560527552796228157:=()
def tw4749624361398626927:=()
def tw6900778507330307781:=()
def tw7699252400585779953:=()
def tw13290746691275224773:=()
def tw13650251621871966276:=()
def tw1885681306429027122:=()
def tw1928617954634156318:=()
def tw3357670855642999484:=()
def tw12733945664239277727:=()
def tw11974858638118613478:=()
def tw7080132048341931962:=()
end PySem.W.Fast
open PySem PySem.W PyProof.Rows
set_option maxRecDepth 100000 in
set_option maxHeartbeats 0 in
theorem PySem.Challenge.cw_ownturn_k60_bounds_of_sheets_holds : PySem.Challenge.rw_ownturn_k60_bounds_of_sheets.Holds := by
 w_on; o_law; k_head; (case hw => w_witness2)
 k_fill
 refine Ot.walk (l := PySem.Challenge.rw_ownturn_k60_bounds_of_sheets) rfl rfl (fun w h Y => PySem.W.km_in_of Y) ?F
 case F =>
  intro w mg fa h KX G hmg
  refine' Ot.all_mk KX G hmg (L2.at_mk KX G ?a0 ?l0 ?c0 ?k0) (L2.blt_mk KX G ?z1 ?z2 ?z3 ?z4 ?z5 ?z6 ?z7 ?z8 ?z9 ?z10 ?z11 ?z12 ?z13 ?z14 ?z15 ?z16) (PySem.W.mg_none_of KX G ?zall) (L2.at_mk KX G ?a1 ?l1 ?c1 ?k1) (L2.at_mk KX G ?a2 ?l2 ?c2 ?k2) (L2.at_mk KX G ?a3 ?l3 ?c3 ?k3) (L2.at_mk KX G ?a4 ?l4 ?c4 ?k4) (L2.at_mk KX G ?a5 ?l5 ?c5 ?k5) (L2.at_mk KX G ?a6 ?l6 ?c6 ?k6) (L2.at_mk KX G ?a7 ?l7 ?c7 ?k7) (L2.at_mk KX G ?a8 ?l8 ?c8 ?k8) (L2.at_mk KX G ?a9 ?l9 ?c9 ?k9) (L2.at_mk KX G ?a10 ?l10 ?c10 ?k10) (L2.at_mk KX G ?a11 ?l11 ?c11 ?k11) (L2.at_mk KX G ?a12 ?l12 ?c12 ?k12) (L2.at_mk KX G ?a13 ?l13 ?c13 ?k13) (L2.at_mk KX G ?a14 ?l14 ?c14 ?k14) (L2.at_mk KX G ?a15 ?l15 ?c15 ?k15) (L2.at_mk KX G ?a16 ?l16 ?c16 ?k16) (L2.at_mk KX G ?a17 ?l17 ?c17 ?k17) (L2.at_mk KX G ?a18 ?l18 ?c18 ?k18) (L2.at_mk KX G ?a19 ?l19 ?c19 ?k19) (L2.at_mk KX G ?a20 ?l20 ?c20 ?k20) (L2.at_mk KX G ?a21 ?l21 ?c21 ?k21) (L2.at_mk KX G ?a22 ?l22 ?c22 ?k22) (L2.at_mk KX G ?a23 ?l23 ?c23 ?k23) (L2.at_mk KX G ?a24 ?l24 ?c24 ?k24) (L2.at_mk KX G ?a25 ?l25 ?c25 ?k25) (L2.at_mk KX G ?a26 ?l26 ?c26 ?k26) (L2.at_mk KX G ?a27 ?l27 ?c27 ?k27) (L2.at_mk KX G ?a28 ?l28 ?c28 ?k28) (L2.at_mk KX G ?a29 ?l29 ?c29 ?k29) (L2.at_mk KX G ?a30 ?l30 ?c30 ?k30) (L2.at_mk KX G ?a31 ?l31 ?c31 ?k31) (L2.at_mk KX G ?a32 ?l32 ?c32 ?k32) (L2.at_mk KX G ?a33 ?l33 ?c33 ?k33) (L2.at_mk KX G ?a34 ?l34 ?c34 ?k34) (L2.at_mk KX G ?a35 ?l35 ?c35 ?k35) (L2.at_mk KX G ?a36 ?l36 ?c36 ?k36) ?xgW ?xfxgs ?xfxtk ?xfdbx ?xfdga ?xfdgt ?xfdcl ?xfdmo ?xfdis ?xfdhd ?xfdfr ?xfdi ?xfgl0 ?xfgl1 ?xfgl2 ?xfgl3 ?xfgl4 ?xfgl5 ?xfgl6 ?xfaS ?xfspg ?xfshd ?xfspo ?xfssa ?xfsmk ?xfskc ?xfsnw ?xfsno ?xfsnd ?xfsnt ?xfaN ?xfaO ?xfaD ?xffo0 ?xffo1 ?xffo2 ?xffo3 ?xffo4 ?xffd0 ?xffd1 ?xffd2 ?xffd3 ?xffd4 ?xffd5 ?xffd6 ?xflN ?xflO ?xflD ?nfzN ?nfzO ?nfzD (L2.atm_mk ?sa0 ?si0 ?sl0 ?sc0 ?sk0) (L2.atm_mk ?sa1 ?si1 ?sl1 ?sc1 ?sk1) (L2.atm_mk ?sa2 ?si2 ?sl2 ?sc2 ?sk2) ?xaW ⟨_, L2.fun_mk ?xlW ?xcW ?xkW⟩ ?xnW ?xqW ⟨?xsWrow, ?xtWrow, ?xhWrow, ?xmWrow, ?xvWrow⟩
  (case xgW => k_is)
  (case xfxgs | xfxtk | xfdbx | xfdga | xfdgt | xfdcl | xfdmo | xfdis | xfdhd | xfdfr | xfdi | xfgl0 | xfgl1 | xfgl2 | xfgl3 | xfgl4 | xfgl5 | xfgl6 | xfaS | xfspg | xfshd | xfspo | xfssa | xfsmk | xfskc | xfsnw | xfsno | xfsnd | xfsnt | xfaN | xfaO | xfaD | xffo0 | xffo1 | xffo2 | xffo3 | xffo4 | xffd0 | xffd1 | xffd2 | xffd3 | xffd4 | xffd5 | xffd6 | xflN | xflO | xflD => first | k_is | kit_is | kts_exm)
  (case nfzN | nfzO | nfzD => first | rfl | decide | k_is)
  (case sa0 | si0 | sl0 | sc0 | sk0 | sa1 | si1 | sl1 | sc1 | sk1 | sa2 | si2 | sl2 | sc2 | sk2 | xaW | xlW | xcW | xkW | xnW => k_is)
  (case xqW => first | rfl | with_unfolding_all rfl | exact Eq.refl true)
  (case xsWrow | xtWrow | xhWrow | xmWrow => k_is)
  (case xvWrow => first | rfl | with_unfolding_all rfl | exact Eq.refl true)
  (case a0 | l0 | c0 | k0 | a1 | l1 | c1 | k1 | a2 | l2 | c2 | k2 | a3 | l3 | c3 | k3 | a4 | l4 | c4 | k4 | a5 | l5 | c5 | k5 | a6 | l6 | c6 | k6 | a7 | l7 | c7 | k7 | a8 | l8 | c8 | k8 | a9 | l9 | c9 | k9 | a10 | l10 | c10 | k10 | a11 | l11 | c11 | k11 | a12 | l12 | c12 | k12 | a13 | l13 | c13 | k13 | a14 | l14 | c14 | k14 | a15 | l15 | c15 | k15 | a16 | l16 | c16 | k16 | a17 | l17 | c17 | k17 | a18 | l18 | c18 | k18 | a19 | l19 | c19 | k19 | a20 | l20 | c20 | k20 | a21 | l21 | c21 | k21 | a22 | l22 | c22 | k22 | a23 | l23 | c23 | k23 | a24 | l24 | c24 | k24 | a25 | l25 | c25 | k25 | a26 | l26 | c26 | k26 | a27 | l27 | c27 | k27 | a28 | l28 | c28 | k28 | a29 | l29 | c29 | k29 | a30 | l30 | c30 | k30 | a31 | l31 | c31 | k31 | a32 | l32 | c32 | k32 | a33 | l33 | c33 | k33 | a34 | l34 | c34 | k34 | a35 | l35 | c35 | k35 | a36 | l36 | c36 | k36 | zall | z1 | z2 | z3 | z4 | z5 | z6 | z7 | z8 | z9 | z10 | z11 | z12 | z13 | z14 | z15 | z16 => k_is)
