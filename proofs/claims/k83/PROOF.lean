import PyProof.Rows.All
import Wide.All
import OpenK.AllK
import Wide.FinOn
import Lean
import PyProof.EqAt
import PyProof.EqKinds
import PyProof.TupleCall
import PyProof.DictCompW
import PyProof.Rows.Range3
import KE.KRevIter
import PyProof.AutoRange
import PyProof.FactsAll.range_2
import PyProof.Rows.CallKwBuiltin
import PyProof.ListRange
import PyProof.TupleOfGen
import PyProof.P3Eq
import PyProof.Rows.RowHeap
import PyProof.CollectIter
import PyProof.WalksMore
import PyProof.AutoSeq1
import KE.KListMore
import PyProof.AttrMissHeap
import KE.KDictOf
import KE.KSortTup
import PyProof.Rows.SortWalk
import PyProof.SumWalkG
import PyProof.DictWalks
import KE.KDictSum
import PyProof.SetKind
import PyProof.SetRoads
import PyProof.Rows.SetFrom
import PyProof.TupleKey
import PyProof.Rows.LemmasIntBool
import PySem.Challenge.RW_keepwhole_k83_whole_sums_and_changes_spo
set_option compiler.extract_closed false
set_option genSizeOf false
set_option genInjectivity false
local macro_rules | `(⋯) => `(by lia)
open PySem.Challenge renaming pw_keepwhole_k83_whole_sums_and_changes_spo->aa
open PySem.Builtin.SmallTypes renaming ownedTupleHandOut->ab,ownedTupleIsFree->ac,nextOf->aM
open List renaming take_succ_eq_append_getElem->ae,eq_nil_of_length_eq_zero->ah,length_eraseIdx_of_lt->ay,getElem?_append_right->az,getD_eq_getElem?_getD->aA,mem_or_eq_of_mem_set->aH,getElem?_eq_some_iff->aI,getElem?_eq_none_iff->aJ,getElem?_append_left->aK,drop_eq_getElem_cons->aL,range'_eq_map_range->aV,getElem?_take_of_lt->aW,getElem?_eq_getElem->aX,getElem?_replicate->bp,getElem?_cons_succ->bq,zipWith_cons_cons->bK,take_of_length_le->bL,length_pos_of_mem->bM,getElem?_set_self->bN,drop_of_length_le->bO,take_eq_take_iff->bZ,take_append_drop->b9,mem_append_right->ca,length_singleton->cb,length_replicate->cf,getElem?_zipWith->cg,getElem?_toArray->cj,replicate_succ'->cB,range_eq_range'->cC,pairwise_append->cD,mem_of_mem_take->cE,mem_of_mem_drop->cF,mem_of_getElem?->cG,mem_iff_getElem->cH,mem_cons_of_mem->cI,mem_append_left->cJ,getElem?_set_ne->cK,drop_eq_nil_iff->cL,replicate_succ->cZ,map_congr_left->c5,length_reverse->c7,filterMap_cons->c8,drop_succ_cons->c9,zip_nil_right->dJ,zip_cons_cons->dL,range'_concat->dM,pairwise_cons->dN,mem_singleton->dO,mem_filterMap->dP,mem_cons_self->dQ,map_singleton->dR,length_append->dS,getElem?_drop->dU,filterMap_map->dW,append_of_mem->dX,zip_nil_left->fj,take_sublist->fm,size_toArray->fo,reverse_cons->fq,pairwise_map->ft,nodup_append->fu,mem_range'_1->fv,length_range->fw,getElem?_map->fx,flatten_cons->fy,flatMap_cons->fA,append_assoc->fB,zipIdx_cons->f9,take_length->ga,range'_succ->gb,not_mem_nil->gc,mem_reverse->ge,map_reverse->gf,lookup_cons->gh,length_take->gi,length_drop->gj,length_cons->gm,getElem_mem->gn,getElem_map->gp,ext_getElem->gr,cons_append->gu,all_eq_true->gw,zip_append->hZ,zipIdx_nil->ia,sum_append->ib,range_succ->ic,of_mem_zip->ie,nodup_cons->ig,nil_append->ii,mem_filter->ij,mem_append->ik,map_append->il,length_set->im,length_nil->ip,length_map->iq,forIn_cons->ir,foldl_cons->iu,find?_cons->iy,append_nil->iA,take_take->i9,tail_drop->ja,replicate->jc,nodup_nil->jd,mem_range->je,forIn_nil->jf,filterMap->jg,drop_zero->jh,drop_drop->ji,take_nil->jL,sum_cons->jM,mem_cons->jN,map_take->jO,map_drop->jP,map_cons->jQ,drop_nil->jR,any_cons->jS,all_cons->jT,zipWith->kB,mem_map->kC,map_set->kE,map_nil->kF,map_map->kG,all_map->kH,range'->kX,map_id->kY,length->kZ,range->lL,foldl->lM,getD->lP,set->lY
open PyProof.Rows renaming slot_tuple_getitem->af,callWith_type1->aj,subscriptTail_builtinR->bC,boot_zip->bX,entry_tuple_getitem->cV,lt_int->cX,assignInOrder_cons->dw,args_tuple_getitem->dz,assignInOrder_nil->eS,slicePart_none->iR,tupleItemsOf_->ju,Constant_none->jV,Constant_bool->jW,boot_range->lB,Subscript_->lD,IntsAre->me,AllBare->mm,IsTup->mL,Call_->mO
open PySem.Builtin.Tuple renaming tupleCompareSizes->ag,tupleItemsOf->aD,tupleIsExact->aE,tupleExact->aY
open PySem.F renaming args_tuple_iterator_next_1->ai,entry_tuple_iterator_next->ak,slot_NoneType_hash->aw,slot_tuple_iterator_next->aB,args_tuple_add_2->aS,plainAttrs_list->bi,entry_tuple_add->bj,args_tuple_lt_2->bm,args_enumerate_next_1->bw,slot_tuple_add->bG,entry_tuple_lt->bH,entry_enumerate_next->bR,slot_tuple_lt->bW,slot_range_reversed->cm,slot_enumerate_next->cp,plain_proto_collect->cq,plain_reversed_new->cM,args_object_init_2->cN,args_list_extend_2->cO,plain_extend_loop->dc,entry_list_extend->dh,slot_list_extend->eg,plain_tuple_new->fF,plain_list_iadd->fG,args_zip_next_1->fH,plain_min_loop->gy,plain_max_loop->gA,entry_zip_next->gB,entry_min_loop->gC,entry_max_loop->gD,slot_zip_next->iD,slot_zip_iter->iE,slot_set_iter->iF,slot_int_rmul->iG,plain_set_new->iH,called_tuple->jm,called_set->kK
open PySem.Builtin.Str renaming strSliceIndices->am
open PySem.Builtin.Range renaming rangeFitsLong->ap,rangeSize->bz
open PySem.Builtin.List renaming listLengthHint->aq,listExtendWith->ar,listTooLong->aZ,listSameRef->bc
open PySem.Builtin.Builtins renaming bindParams->au
open Array renaming getD_eq_getD_getElem?->av,getElem?_eq_some_iff->aG,getElem?_eq_getElem->aP,getElem?_eq_none->bS,getElem?_toList->cr,toArray_toList->cQ,getElem_toList->cR,length_toList->dj,forIn_toList->eE,append_empty->eF,toList_push->fJ,size_append->fK,toList->kL
open PySem.Around renaming under_plainId->ax,under_plainId->cS
open PySem.Calls renaming Name_function_global->aC,spliced_cons->eA,spliced_nil->fI
open PySem.Builtin.Slice renaming sliceApplied->aF,slicePlaces->aN,sliceAdjust->aO
open PySem renaming wpAny_getItem_list_slice->aQ,wpAny_comprehension_free->aR,wpAny_callSpecial?_slot->bh,wpAny_pyNext_range_end->bA,wpAny_pyIter_rangeiter->bB,richCompare_meets_room->bD,wpAny_isTrue_Compare1->bT,builtinLookup_eq_fast->bU,ofString_length->bV,wpAny_updateSeq_pair->cu,wpAny_loadName_local->cv,codeAny_extend_loopS->cw,codeAny_call_builtin->cx,wpAny_setEntries_of->cT,wpAny_loadName_cell->cU,mem_of_lookup->cW,wpAny_setField_rec->dk,wpAny_pyIter_tuple->dm,wpAny_Call_Name_kw->dq,tupleKind_room_in1->dv,wpAny_truthy_bool->eG,wpAny_storeSet_of->eI,wpAny_setState_of->eJ,wpAny_sequenceKey->eK,wpAny_pyIter_slot->eL,wpAny_pyIter_list->eM,wpAny_pyIter_enum->eN,wpAny_newObj_type->eO,wpAny_assign_Name->eP,slot_list_getitem->eQ,fits_of_scanBound->eR,wpAny_pyIter_zip->fL,wpAny_isInstance->fM,wpAny_forIn_list->fN,wpAny_execs_cons->fO,wpAny_call_entry->fP,wpAny_askSetting->fQ,noFill_tuple_add->fR,wpAny_updateSeq->gG,wpAny_specialOf->gH,wpAny_passesOwn->gI,wpAny_loadPart'->gJ,wpAny_ite_split->gK,wpAny_execs_nil->gL,typeLookup_type->gM,pushCells_keeps->gN,codeAny_of_tree->gO,codeAny_builtin->gP,wpAny_tryCatch->iK,wpAny_setField->iL,wpAny_seqItems->iM,wpAny_runValue->iN,wpAny_newTuple->iO,wpAny_fieldsOf->iP,wpAny_bindName->iQ,isSubtype_type->iS,isSubtype_stop->iT,entryFor_alias->iU,wpAny_standAt->jo,wpAny_onRaise->jp,wpAny_holding->jq,wpAny_handled->jr,wpAny_attempt->jt,seq_tuple_add->jv,rangeSize_one->jw,plainId_quiet->jx,intBits_le_64->jy,evalPart_some->jz,evalPart_none->jA,call_sum_walk->jB,call_list_seq->jC,wpAny_typeOf->j0,seqIndex_neg->j5,concat_meets->j7,codeAny_mono->j8,Within->kb,wpAny_of_eq->kM,wpAny_letGo->kN,wpAny_field->kO,sizeLine_eq->kP,seqIndex_of->kQ,IsRangeIter->k6,wpAny_rule->k9,wpAny_pure->lg,wpAny_mono->lh,wpAny_load->lj,wpAny_call->lm,wpAny_bind->lq,wpAny_Name->lu,typeIs_int->lw,intKind_is->lz,call_meets->lA,call->lF,IsEnumOut->lR,ZipApart->lT,SetTable->lU,ReadsAll->lV,Operator->lW,NameKind->lX,GenState->lZ,FuncData->l0,Program->l8,Builtin->mh,BindsTo->ml,Shared->mn,Result->mq,Paired->mr,IsPart->mw,IsPair->mx,IsEnum->mz,DefRec->mB,Around->mC,World->mD,Walks->mE,Value->mF,Scope->mG,Reads->mH,Model->mI,Meets->mJ,IsZip->mK,Drawn->mM,CmpOp->mN,Stmt->mP,Heap->mQ,Addr->mS
open PyProof.Rows.Reads renaming keeps->aT
open Option renaming isSome_iff_exists->aU,map_eq_some_iff->bI,isSome_some->dE,isSome_map->ff,getD_some->fW,getD_none->fX,bind_some->fY,map_some->gY
open PySem.AutoSeq1 renaming sub_tuple_tuple->bd
open Nat renaming add_sub_cancel_left->bn,lt_of_succ_lt_succ->bJ,mul_le_mul_right->cA,lt_of_lt_of_le->dH,add_sub_cancel->dI,lt_succ_of_lt->fh,le_of_succ_le->fi,succ_le_succ->fZ,min_eq_right->f6,lt_succ_self->f7,le_add_right->f8,not_lt_zero->gZ,min_eq_left->hW,le_add_left->hX,lt_irrefl->jJ,zero_add->ki,ne_of_lt->kj,ne_of_gt->kl,lt_trans->km,le_trans->kq,le_of_lt->kr,le_of_eq->ku,add_comm->kA,zero_le->kT,le_succ->kU,le_refl->kW,not_lt->lI,not_le->lJ,max_le->lK
open Int renaming eq_ofNat_of_zero_le->br,emod_lt_of_pos->dY,toNat_natCast->fC,natCast_add->iB,emod_nonneg->iC,mul_add->k7,toNat->lS
open PyProof.Rows.F renaming plain_set_update_loop->bu,entry_set_update_loop->bv
open Classical renaming propDecidable->bx
open PySem.Str renaming ofString_eq_toList->bE,ofString->j9
open PySem.W renaming cellsFrom_some->bF,kitx_tuple->dB,kitx_float->dC,methodObj->eW,kitx_none->eX,kitx_list->eY,kitx_dict->eZ,kitx_bool->fb,plainGet->fS,kitx_str->fT,kitx_int->fU,kia_tup->gQ,kia_one->gR,instObj->gS,lookIn->iX,kitOne->iY,kitAny->iZ,keepIn->i6,findIn->i7,codeIn->i8,fnOf->kc,Frag->ke,OpenLaw->l9,Frag->mR
open PySem.Heap renaming get?_update_other->bP,get?_push_of_some->bQ,get?_update_self->ck,get?_push_size->da,size_push->jl,lt_size->kI,SameBut->kJ,ExtBut->k8
open PySem.Obj renaming isFreed_of_fields->bY,data_mapFields->dG,cls_mapFields->fg,mapFields->jI,putSet->lG,mapSeq->lH
open String renaming length_toList->cy,length_ofList->cz
open Bool renaming and_eq_true_iff->cP,false_ne_true->eB,false_eq_true->eD,noConfusion->gE,and_eq_true->gF,or_eq_true->iI,eq_iff_iff->iJ,and_false->jn,true_and->jX,and_true->jY,and_self->jZ
open PySem.PyData renaming intsShortAll->cY,showableAll->dD,hasDictAll->fc,canLayAll0->fe,weightAll->fV,depthAll->gU,weight->jG,depth->kh
open PySem.Heap.SameBut renaming update->db
open PySem.SeqAt.EqAt renaming int_int->dA
open PySem.Heap.IsSliceOf renaming new->dZ
open PySem.SetTable.probe renaming go->eT
open PySem.SetTable renaming insertAt->eU,grown->iV,below->iW,slot->jF,has->ka
open PySem.SetTable.below renaming go->eV
open Function renaming comp_def->fE
open PySem.PassesOwn renaming never->gV
open Option.some renaming inj->gX
open List.cons renaming injEq->iz
open PyProof.Rows.IntsAre renaming length->jj,int_at->jk
open PySem.Value renaming isStrOf->jD
open PySem.Shared renaming TypeIs->jE,heap->kS
open PySem.Paired renaming length->jH
open PySem.Moved renaming eq_with->jK
open PySem.Env renaming blockKind->jU
open PySem.pickOrder renaming go->j6
open Sum.inl renaming inj->kR
open PySem.Walks renaming list->lC
open PySem.SeqAt renaming EqAt->lE
open False renaming elim->lN
open Char renaming toNat->lO
open PyProof.Rows.IsTup renaming new->lQ
open Ne renaming symm->ma
open Iff renaming rfl->mf
namespace L2
end L2
local macro_rules | `(command| $m:declModifiers def $i:declId $s:optDeclSig $v:declVal) => if m.raw.getArgs.all (·.getNumArgs == 0) then `(command| noncomputable def $i:declId $s:optDeclSig $v:declVal) else Lean.Macro.throwUnsupported
local macro_rules | `(command| $m:declModifiers abbrev $i:declId $s:optDeclSig $v:declVal) => if m.raw.getArgs.all (·.getNumArgs == 0) then `(command| noncomputable abbrev $i:declId $s:optDeclSig $v:declVal) else Lean.Macro.throwUnsupported
local macro_rules | `(tactic| nofun) => `(tactic| decide +kernel)
set_option Elab.async false
set_option linter.all false
set_option maxRecDepth 100000
set_option maxHeartbeats 4000000
namespace Kq
open PySem PySem.Spec PyProof.Rows L2
def bltNames:List String:=["len","abs","int","sum","all","any","min","max","tuple","list","isinstance","range","zip","bool","str","enumerate","reversed","sorted","dict","set"]
end Kq
namespace Kq
open PySem PySem.Spec PySem.Calls PyProof.Rows L2 PySem.W
def J4:mP->Pos
 | .FunctionDef _ _ _ _ _ _ _ _ _ p=>p
 | _=>⟨0,0,0,0⟩
def Mm:mP->Bool
 | .FunctionDef ..=>true
 | _=>false
def HE (p:l8):l8:={ p with main:={ p.main with body:=p.main.body.filter Mm } }
def freeIn (q:l8)(loose:List Str)(x:Str):Bool:=!startupNames.contains x && !loose.contains x && !((recsOf q).map (·.name)).contains x && !((litsOf q).map (·.1)).contains x && !((clssOf q loose).map (·.name)).contains x
end Kq
namespace Kq
open PySem PySem.Spec PyProof.Rows L2 PySem.W
def view:l8:=HE aa
end Kq
set_option maxHeartbeats 0
section
open PySem PySem.W PyProof.Rows
theorem Kq.said:PySem.Challenge.rw_keepwhole_k83_whole_sums_and_changes_spo.wellSaid=true:=by nofun
theorem Kq.left:LeftO PySem.Challenge.rw_keepwhole_k83_whole_sums_and_changes_spo.prog Kq.view [] (λs=>xlAt Kq.view [] s && recOk (RowW.records PySem.Challenge.rw_keepwhole_k83_whole_sums_and_changes_spo.row.toRowW) s) (λ_=>()) (λ_=>()) 3000:=by
  intro w
  kernel_rfl!
theorem Kq.freeAll:(Kq.bltNames.all λb=>Kq.freeIn Kq.view (looseW Kq.view []) (j9 b))=true:=by nofun
end
namespace L2
open PySem PySem.Spec PyProof.Rows
abbrev pJ:=Sum Int (Option Str)
def vA:pJ->mF->Bool
 | .inl k,v=>Value.isInt k v
 | .inr (some x),v=>jD x v
 | .inr none,v=>match v with
  | .none=>true
  | _=>false
def keyH (w:mD):pJ->Int
 | .inl k=>hashInt k
 | .inr (some x)=>hashStr w x
 | .inr none=>4238894112
theorem B3 {prog:l8}{w:mD}{A:mC}{E:mF->mn->Prop}{s:mn}{Q:Int->mn->Prop}(h:Q 4238894112 { s with toks:=s.toks+1 }):wpAny (model prog w) A (pyHash .none) Q E s:=by
 have hT:s.TypeIs .none "NoneType":=rfl
 show wpAny _ _ (pyHashByItsType .none) Q E s
 unfold pyHashByItsType
 have hv:[Value.none].any Value.onHeap=false:=rfl
 refine lq ?_
 rw[cRoomFor,if_neg (by rw[hv];exact eB)];refine lg ?_
 refine lq (gH hT aw.lookup ?_)
 show wpAny _ _ (if (some (Value.builtin "NoneType.__hash__") == some Value.none)=true then _ else _) Q E s
 rw[if_neg (by decide)]
 refine lq (gH hT aw.lookup ?_)
 show wpAny _ _ (callSpecialIfBoundUnlessNone? .none "__hash__" _ >>= _) Q E s
 refine lq (wpAny_callSpecialIfBoundUnlessNone?_slot hT aw
  (fP aw hT PySem.F.entry_NoneType_hash
   (show wpAny _ _ (do ret (<- mkInt 4238894112)) _ _ s from wpAny_ret_mkInt ?_) (PySem.F.args_NoneType_hash_1 _)))
 show wpAny _ _ (if (decide (-(2:Int) ^ 63<=4238894112) && decide ((4238894112:Int)<2 ^ 63))=true then _ else _) Q E _
 rw[if_pos (by decide)]
 exact lg h
theorem nZ:∀ {k:pJ}{v:mF},vA k v=true->(∃ i t,k=Sum.inl i/\v=Value.int i t) ∨ (∃ x t,k=Sum.inr (some x)/\v=Value.str x t) ∨ (k=Sum.inr none/\v=Value.none)
 | .inl i,v,h=>by
  obtain⟨t,e⟩:=Value.isInt_shape (k:=i) (v:=v) h
  exact .inl ⟨i,t,rfl,e⟩
 | .inr (some x),v,h=>by
  obtain⟨t,e⟩:=Value.isStrOf_shape (x:=x) (v:=v) h
  exact .inr (.inl ⟨x,t,rfl,e⟩)
 | .inr none,v,h=>by
  cases v with
  | none=>exact .inr (.inr ⟨rfl,rfl⟩)
  | _=>cases h
theorem BY (i:Int)(t:Tok):vA (.inl i) (.int i t)=true:=by simp[vA,Value.isInt]
theorem BX (x:Str)(t:Tok):vA (.inr (some x)) (.str x t)=true:=by simp[vA,jD]
theorem Jf (a b:Int):decide ((Sum.inl a:pJ)=Sum.inl b)=(a == b):=by
 by_cases e:a=b
 ·subst e;simp
 ·have h:¬ (Sum.inl a:pJ)=Sum.inl b:=λq=>e (kR q)
  rw[decide_eq_false h]
  exact (beq_eq_false_iff_ne.mpr e).symm
theorem Je (a b:Str):decide ((Sum.inr (some a):pJ)=Sum.inr (some b))=decide (a=b):=by
 by_cases e:a=b
 ·subst e;simp
 ·have h:¬ (Sum.inr (some a):pJ)=Sum.inr (some b):=λq=>e (gX (Sum.inr.inj q))
  rw[decide_eq_false h,decide_eq_false e]
def og (prog:l8)(w:mD):PySem.KeyKind prog w pJ where
 is:=vA
 hash:=keyH w
 inj:=λv a b ha hb=>by
  rcases nZ ha with⟨i,t,rfl,rfl⟩|⟨x,t,rfl,rfl⟩|⟨rfl,rfl⟩<;>rcases nZ hb with⟨j,u,rfl,e⟩|⟨y,u,rfl,e⟩|⟨rfl,e⟩<;>first|rfl|(injection e with e1 _;rw[e1])|cases e
 byValue:=λk v h=>by
  rcases nZ h with⟨i,t,rfl,rfl⟩|⟨x,t,rfl,rfl⟩|⟨rfl,rfl⟩<;>rfl
 pyHash:=λhv h=>by
  rcases nZ hv with⟨i,t,rfl,rfl⟩|⟨x,t,rfl,rfl⟩|⟨rfl,rfl⟩
  ·exact wpAny_pyHash_int h
  ·exact wpAny_pyHash_str h
  ·exact B3 h
 eqBool:=λhu hv h=>by
  rcases nZ hu with⟨i,t,rfl,rfl⟩|⟨x,t,rfl,rfl⟩|⟨rfl,rfl⟩
  ·rcases nZ hv with⟨j,u,rfl,rfl⟩|⟨y,u,rfl,rfl⟩|⟨rfl,rfl⟩
   ·rw[Jf] at h;exact wpAny_eqBool_int h
   ·rw[decide_eq_false (show ¬ (Sum.inl i:pJ)=Sum.inr (some y) from λq=>nomatch q)] at h;exact SeqAt.EqAt.int_str i t y u _ _ _ _ h
   ·rw[decide_eq_false (show ¬ (Sum.inl i:pJ)=Sum.inr none from λq=>nomatch q)] at h;exact SeqAt.EqAt.int_none i t _ _ _ _ h
  ·rcases nZ hv with⟨j,u,rfl,rfl⟩|⟨y,u,rfl,rfl⟩|⟨rfl,rfl⟩
   ·rw[decide_eq_false (show ¬ (Sum.inr (some x):pJ)=Sum.inl j from λq=>nomatch q)] at h;exact SeqAt.EqAt.str_int x t j u _ _ _ _ h
   ·rw[Je] at h;exact wpAny_eqBool_str h
   ·rw[decide_eq_false (show ¬ (Sum.inr (some x):pJ)=Sum.inr none from λq=>nomatch q)] at h;exact SeqAt.EqAt.str_none x t _ _ _ _ h
  ·rcases nZ hv with⟨j,u,rfl,rfl⟩|⟨y,u,rfl,rfl⟩|⟨rfl,rfl⟩
   ·rw[decide_eq_false (show ¬ (Sum.inr none:pJ)=Sum.inl j from λq=>nomatch q)] at h;exact SeqAt.EqAt.none_int j u _ _ _ _ h
   ·rw[decide_eq_false (show ¬ (Sum.inr none:pJ)=Sum.inr (some y) from λq=>nomatch q)] at h;exact SeqAt.EqAt.none_str y u _ _ _ _ h
   ·rw[decide_eq_true rfl] at h;exact SeqAt.EqAt.same .none _ _ _ _ h
 «strs»:=λk x t v h=>by
  rcases nZ h with⟨i,u,rfl,e⟩|⟨y,u,rfl,e⟩|⟨rfl,e⟩
  ·exact nomatch e
  ·injection e with e1 _
   subst e1
   cases v<;>rfl
  ·exact nomatch e
theorem xY (prog:l8)(w:mD) (i:Int)(t:Tok):(og prog w).is (.inl i) (.int i t)=true:=BY i t
theorem wG (prog:l8)(w:mD):(og prog w).is (.inr none) .none=true:=rfl
theorem xX (prog:l8)(w:mD)(x:Str)(t:Tok):(og prog w).is (.inr (some x)) (.str x t)=true:=BX x t
end L2
namespace L2
open PySem PySem.Spec PyProof.Rows
set_option genInjectivity true in
inductive V where
 | non|bl (b:Bool)|int (i:Int)|str (x:Str)|byt (b:Array UInt8)|flt (b:UInt64)|ref (a:mS)|ty (n:String)
 deriving DecidableEq
def RelV:V->mF->Prop
 | .non,u=>u=Value.none
 | .bl b,u=>u=Value.bool b
 | .int i,u=>∃ t,u=Value.int i t
 | .str x,u=>∃ t,u=Value.str x t
 | .byt b,u=>∃ t,u=Value.bytes b t
 | .flt b,u=>∃ t,u=Value.float b t
 | .ref a,u=>u=Value.ref a
 | .ty n,u=>u=Value.type n
abbrev Vals:List V->List mF->Prop:=mr RelV
theorem Vals.length {xs:List V}{us:List mF}(r:Vals xs us):xs.length=us.length:=jH r
theorem Vals.get:∀ {xs:List V}{us:List mF}{i:Nat}{x:V},Vals xs us->xs[i]?=some x->∃ u,us[i]?=some u/\RelV x u
 | _,_,_,_,.nil,e=>by simp at e
 | _,_,0,_,.cons r _,e=>by simp at e;subst e;exact⟨_,rfl,r⟩
 | _,_,i+1,x,.cons _ t,e=>by
  obtain⟨u,h1,h2⟩:=Vals.get (i:=i) (x:=x) t (by simpa using e)
  exact⟨u,by simpa using h1,h2⟩
theorem Vals.set {x:V}{u:mF}(r:RelV x u):∀ {xs:List V}{us:List mF} (i:Nat),Vals xs us->Vals (xs.set i x) (us.set i u)
 | _,_,_,.nil=>.nil
 | _,_,0,.cons _ t=>.cons r t
 | _,_,i+1,.cons q t=>.cons q (Vals.set r i t)
theorem Vals.append:∀ {xs ys:List V}{us ws:List mF},Vals xs us->Vals ys ws->Vals (xs++ys) (us++ws):=λh s=>by
 induction h with
 | nil=>exact s
 | cons r _ ih=>exact .cons r ih
theorem Vals.unc {x:V}{xs:List V}{us:List mF}(h:Vals (x :: xs) us):∃ u r,us=u :: r/\RelV x u/\Vals xs r:=by
 cases h with|cons r t=>exact⟨_,_,rfl,r,t⟩
theorem Vals.unn {us:List mF}(h:Vals [] us):us=[]:=by cases h;rfl
theorem Vals.take:∀ {xs:List V}{us:List mF} (n:Nat),Vals xs us->Vals (xs.take n) (us.take n):=λn h=>by
 induction h generalizing n with
 | nil=>cases n<;>exact .nil
 | cons r _ ih=>cases n with|zero=>exact .nil|succ n=>exact .cons r (ih n)
theorem Vals.drop:∀ {xs:List V}{us:List mF} (n:Nat),Vals xs us->Vals (xs.drop n) (us.drop n):=λn h=>by
 induction h generalizing n with
 | nil=>cases n<;>exact .nil
 | cons r t ih=>cases n with|zero=>exact .cons r t|succ n=>exact ih n
def RelO:Option V->Option mF->Prop
 | some v,some u=>RelV v u
 | none,none=>True
 | _,_=>False
def KV {κ:Type}:List (κ×V)->List (κ×mF)->Prop:=mr λ(p:κ×V)(q:κ×mF)=>p.1=q.1/\RelV p.2 q.2
def kV:pJ->V
 | .inl i=>.int i
 | .inr (some x)=>.str x
 | .inr none=>.non
inductive HO where
 | lst (xs:List V)
 | tup (xs:List V)
 | dK (Z6:List (pJ×V))|dT (Z6:List (List pJ×V))
 | set (S:Int->Bool) (n:Nat)
 | ins (C dx:mS)(fs:List (Str×V))
 | big (C dx:mS)(fs:List (Str×V))(gs:List (mS×List V))
 | own (x:mS)
 | xd (fs:List (Str×V))
 | met (f x:mS)
 | rng (lo hi:Int)
 | frz (o:Obj)(u:HO)
 | tbl (ps:Array mF)
 | ext (φ:mQ->Prop)
abbrev Hp:=mS->Option HO
def n5 (H:Hp)(a:mS)(o:HO):Hp:=λb=>if b=a then some o else H b
theorem nz {H:Hp}{a:mS}{o:HO}:n5 H a o a=some o:=by unfold n5;rw[if_pos rfl]
theorem m9 {H:Hp}{a b:mS}{o:HO}(h:b≠a):n5 H a o b=H b:=by unfold n5;rw[if_neg h]
theorem Hq {H:Hp}{a b:mS}{o u:HO}(h:H a=some o)(h':H b=some u)(d:o≠u):a≠b:=by
 intro e;subst e;rw[h] at h';exact d (gX h')
theorem nQ {H:Hp}{a b:mS}{o:HO}(h:H a=some o)(h':H b=none):a≠b:=by
 intro e;subst e;rw[h] at h';cases h'
section
variable (P:l8)(w:mD)
def ObjOk (H:Hp)(h:mQ)(a:mS):HO->Prop
 | .lst xs=>xs.length<=sizeLine/\∃ (Z7:List mF) (n:Nat),Vals xs Z7/\h.get? a=some { cls:=.type "list",data:=.seq Z7.toArray n }
 | .tup xs=>xs.length<=sizeLine/\∃ Z7:List mF,Vals xs Z7/\mL h a Z7.toArray
 | .dK Z6=>Z6.length<=sizeLine/\(a == sysModules)=false/\∃ vs,KV Z6 vs/\h.DictOf (og P w) a vs
 | .dT Z6=>Z6.length<=sizeLine/\(a == sysModules)=false/\∃ xs:List (List pJ×mS×mF),
   mr (λ(p:List pJ×V)(q:List pJ×mS×mF)=>p.1=q.1/\H q.2.1=some (.tup (p.1.map kV))/\RelV p.2 q.2.2) Z6 xs /\
   ∃ o es ep,h.get? a=some o/\o.ExactDict/\o.data=.dict es ep/\es.toList=xs.map (entryOfKey (tupleKind (og P w)))/\(xs.map (·.1)).Nodup
 | .set S n=>h.SetOf (intKind P w) a S n
 | .ins C dx fs=>H dx=some (.own a)/\fs.length<=1000/\dx≠a/\h.get? a=some (gS C dx) /\
   ∃ mA,h.Ns1 dx mA/\(∀ f,RelO (fs.lookup f) (mA f))/\kb mA (fs.map (·.1))
 | .big C dx fs gs=>H dx=some (.own a)/\(∀ g∈gs,H g.1=some (.own a))/\(a :: dx :: gs.map (·.1)).Nodup/\fs.length<=1000/\h.get? a=some (gS C dx) /\
   (∃ mA,h.Ns1 dx mA/\(∀ f,RelO (fs.lookup f) (mA f))/\kb mA (fs.map (·.1))) /\
   ∀ g∈gs,g.2.length<=sizeLine/\∃ (Z7:List mF) (n:Nat),Vals g.2 Z7/\h.get? g.1=some { cls:=.type "list",data:=.seq Z7.toArray n }
 | .own _=>∃ o,h.get? a=some o
 | .xd fs=>∃ mA,h.Ns1 a mA/\∀ f,RelO (fs.lookup f) (mA f)
 | .rng lo hi=>∃ t u v,h.get? a=some { cls:=.type "range",data:=.fields #[.int lo t,.int hi u,.int 1 v] }
 | .frz o u=>h.get? a=some o/\ObjOk H h a u
 | .tbl ps=>h.get? a=some { cls:=.none,data:=.fields ps }
 | .met f x=>h.get? a=some (eW (.ref f) (.ref x))
 | .ext φ=>φ h/\(∃ o,h.get? a=some o)/\∀ h1 h2:mQ,φ h1->(∀ o,h1.get? a=some o->h2.get? a=some o)->φ h2
def HOk (H:Hp)(h:mQ):Prop:=∀ a o,H a=some o->ObjOk P w H h a o
end
section
variable {P:l8}{w:mD}{H H':Hp}{h h':mQ}{a:mS}{o:HO}
theorem ObjOk.lt (x:ObjOk P w H h a o):a<h.objs.size:=by
 cases o with
 | lst xs=>obtain⟨_,_,_,_,e⟩:=x;exact kI e
 | tup xs=>obtain⟨_,_,_,p⟩:=x;exact p.lt
 | dK Z6=>obtain⟨_,_,_,_,o,_,_,e,_⟩:=x;exact kI e
 | dT Z6=>obtain⟨_,_,_,_,o,_,_,e,_⟩:=x;exact kI e
 | set S n=>obtain⟨o,_,_,_,e,_⟩:=x;exact kI e
 | ins C dx fs=>obtain⟨_,_,_,e,_⟩:=x;exact kI e
 | big C dx fs gs=>obtain⟨_,_,_,_,e,_⟩:=x;exact kI e
 | own y=>obtain⟨_,e⟩:=x;exact kI e
 | xd fs=>obtain⟨_,⟨_,_,_,e,_⟩,_⟩:=x;exact kI e
 | rng lo hi=>obtain⟨_,_,_,e⟩:=x;exact kI e
 | frz ob u=>obtain⟨e,_⟩:=x;exact kI e
 | tbl ps=>exact kI (show h.get? a=some _ from x)
 | met f y=>exact kI (show h.get? a=some _ from x)
 | ext φ=>obtain⟨_,⟨_,e⟩,_⟩:=x;exact kI e
theorem Paired.mapP {α β:Type}{F G:α->β->Prop}:∀ {l₁:List α}{l₂:List β},mr F l₁ l₂->(∀ a b,F a b->G a b)->mr G l₁ l₂:=λh f=>by
 induction h with
 | nil=>exact .nil
 | cons r _ ih=>exact .cons (f _ _ r) ih
theorem ObjOk.stay (x:ObjOk P w H h a o)(k:∀ b u,(b=a ∨ H b=some (.own a))->h.get? b=some u->h'.get? b=some u)
  (ho:∀ b,H b=some (.own a)->H' b=some (.own a))(ht:∀ b xs,H b=some (.tup xs)->H' b=some (.tup xs)):ObjOk P w H' h' a o:=by
 induction o with
 | lst xs=>obtain⟨z,Z7,n,r,e⟩:=x;exact⟨z,Z7,n,r,k _ _ (.inl rfl) e⟩
 | tup xs=>obtain⟨z,Z7,r,ob,e,c⟩:=x;exact⟨z,Z7,r,ob,k _ _ (.inl rfl) e,c⟩
 | dK Z6=>obtain⟨z,y,vs,r,ob,es,ep,e,c⟩:=x;exact⟨z,y,vs,r,ob,es,ep,k _ _ (.inl rfl) e,c⟩
 | dT Z6 =>
  obtain⟨z,y,xs,r,ob,es,ep,e,c⟩:=x
  exact⟨z,y,xs,Paired.mapP r λp q z=>⟨z.1,ht _ _ z.2.1,z.2.2⟩,ob,es,ep,k _ _ (.inl rfl) e,c⟩
 | set S n=>obtain⟨ob,es,ep,t,e,c⟩:=x;exact⟨ob,es,ep,t,k _ _ (.inl rfl) e,c⟩
 | ins C dx fs =>
  obtain⟨d,z,ne,e,mA,⟨od,es,ep,e2,c⟩,r⟩:=x
  exact⟨ho _ d,z,ne,k _ _ (.inl rfl) e,mA,⟨od,es,ep,k _ _ (.inr d) e2,c⟩,r⟩
 | big C dx fs gs =>
  obtain⟨d,gg,nd,z,e,⟨mA,⟨od,es,ep,e2,c⟩,r⟩,ls⟩:=x
  exact⟨ho _ d,λg m=>ho _ (gg g m),nd,z,k _ _ (.inl rfl) e,⟨mA,⟨od,es,ep,k _ _ (.inr d) e2,c⟩,r⟩,λg m=>let ⟨l1,Z7,n,l2,l3⟩:=ls g m;⟨l1,Z7,n,l2,k _ _ (.inr (gg g m)) l3⟩⟩
 | own y=>obtain⟨ob,e⟩:=x;exact⟨ob,k _ _ (.inl rfl) e⟩
 | xd fs=>obtain⟨mA,⟨od,es,ep,e,c⟩,r⟩:=x;exact⟨mA,⟨od,es,ep,k _ _ (.inl rfl) e,c⟩,r⟩
 | rng lo hi=>obtain⟨t,u,v,e⟩:=x;exact⟨t,u,v,k _ _ (.inl rfl) e⟩
 | frz ob u ih=>obtain⟨e,q⟩:=x;exact⟨k _ _ (.inl rfl) e,ih q⟩
 | tbl ps =>
  have e:h.get? a=some { cls:=.none,data:=.fields ps }:=x
  show h'.get? a=some { cls:=.none,data:=.fields ps }
  exact k a _ (.inl rfl) e
 | met f y =>
  have e:h.get? a=some (eW (.ref f) (.ref y)):=x
  show h'.get? a=some (eW (.ref f) (.ref y))
  exact k a _ (.inl rfl) e
 | ext φ=>obtain⟨p,⟨o,e⟩,st⟩:=x;exact⟨st _ _ p λo q=>k _ _ (.inl rfl) q,⟨o,k _ _ (.inl rfl) e⟩,st⟩
theorem HOk.lt (x:HOk P w H h)(e:H a=some o):a<h.objs.size:=(x a o e).lt
theorem HOk.fresh (x:HOk P w H h)(e:h.objs.size<=a):H a=none:=by
 cases q:H a with
 | none=>rfl
 | some u=>exact absurd (dH (x.lt q) e) (jJ _)
theorem HOk.kept (x:HOk P w H h)(k:∀ b u,h.get? b=some u->h'.get? b=some u):HOk P w H h':=λa o e =>
 (x a o e).stay (λb u _ q=>k b u q) (λ_ q=>q) λ_ _ q=>q
theorem HOk.laid (x:HOk P w H h)(k:∀ b u,h.get? b=some u->h'.get? b=some u)(hp:h.objs.size<=a)(new:ObjOk P w (n5 H a o) h' a o):HOk P w (n5 H a o) h':=λb u e=>by
 have hn:=x.fresh hp
 by_cases hb:b=a
 ·subst hb;rw[nz] at e;cases e;exact new
 ·rw[m9 hb] at e
  exact (x b u e).stay (λc v _ q=>k c v q) (λc q=>by rw[m9 (nQ q hn)];exact q) λc xs q=>by rw[m9 (nQ q hn)];exact q
end
def Rd (H:Hp)(a:mS)(u:HO):Prop:=H a=some u ∨ ∃ o,H a=some (.frz o u)
theorem Rd.ok {P:l8}{w:mD}{H:Hp}{h:mQ}{a:mS}{u:HO}(r:Rd H a u)(x:HOk P w H h):ObjOk P w H h a u:=by
 rcases r with r|⟨o,r⟩
 ·exact x a u r
 ·obtain⟨_,q⟩:=x a _ r
  exact q
def M9:Option HO->Prop
 | some (.lst _)=>True
 | some (.dK _)=>True
 | some (.dT _)=>True
 | some (.set _ _)=>True
 | some (.ins _ _ _)=>True
 | some (.ext _)=>True
 | _=>False
section
variable {P:l8}{w:mD}{H:Hp}{h h':mQ}{x e:mS}{o':HO}
theorem HOk.write (ok:HOk P w H h)(mu:M9 (H x))(he:e=x ∨ H e=some (.own x))(k:∀ b u,b≠e->h.get? b=some u->h'.get? b=some u)(heo:∃ u,h'.get? e=some u)
  (new:ObjOk P w (n5 H x o') h' x o'):HOk P w (n5 H x o') h':=λb u q=>by
 have nown:∀ c y,H c=some (.own y)->c≠x:=λc y r z=>by subst z;rw[r] at mu;exact mu
 have ntup:∀ c xs,H c=some (.tup xs)->c≠x:=λc xs r z=>by subst z;rw[r] at mu;exact mu
 by_cases hb:b=x
 ·subst hb;rw[nz] at q;cases q;exact new
 ·rw[m9 hb] at q
  by_cases hbe:b=e
  ·have q':H b=some (.own x):=by
    rcases he with z|z
    ·exact absurd (hbe.trans z) hb
    ·rw[hbe];exact z
   rw[q] at q';cases q'
   obtain⟨v,hv⟩:=heo
   exact⟨v,by rw[hbe];exact hv⟩
  ·refine (ok b u q).stay (λc v hc r=>k c v ?_ r) (λc r=>by rw[m9 (nown c b r)];exact r) λc xs r=>by rw[m9 (ntup c xs r)];exact r
   rcases hc with rfl|hc
   ·exact hbe
   ·rintro rfl
    rcases he with z|z
    ·exact nown c b hc z
    ·rw[hc] at z;cases z;exact hb rfl
end
structure Un (fs ex:List mS)(H H':Hp)(h h':mQ):Prop where
 keep:∀ b o,h.get? b=some o->H b=none->b ∉ fs->b ∉ ex->h'.get? b=some o
 slot:∀ b o,h.get? b=some o->H b=none->b∈fs->b ∉ ex->∃ sl,h'.get? b=some { o with slots:=sl }
 free:∀ b o,h.get? b=some o->H b=none->b ∉ ex->H' b=none
 there:∀ b o,h.get? b=some o->b ∉ ex->∃ o',h'.get? b=some o'
 tups:∀ b xs,H b=some (.tup xs)->H' b=some (.tup xs)
 frzs:∀ b o u,H b=some (.frz o u)->H' b=some (.frz o u)
 tbls:∀ b ps,H b=some (.tbl ps)->∃ more,H' b=some (.tbl (ps++more))
section
variable {fs ex:List mS}{H H1:Hp}{h h1 h':mQ}{a x e:mS}{o:HO}
theorem Un.any (u:Un fs ex H H1 h h1){b:mS}{ob:Obj}(q:h.get? b=some ob)(n:H b=none)(hx:b ∉ ex):∃ sl,h1.get? b=some { ob with slots:=sl }:=by
 by_cases hb:b∈fs
 ·exact u.slot b ob q n hb hx
 ·exact⟨ob.slots,u.keep b ob q n hb hx⟩
theorem Un.kept (k:∀ b u,h.get? b=some u->h'.get? b=some u):Un fs ex H H h h' :=
 ⟨λb ob q _ _ _=>k b ob q,λb ob q _ _ _=>⟨ob.slots,k b ob q⟩,λ_ _ _ n _=>n,λb ob q _=>⟨ob,k b ob q⟩,λ_ _ q=>q,λ_ _ _ q=>q,λ_ ps q=>⟨#[],by rw[q];simp⟩⟩
theorem Un.refl:Un fs ex H H h h:=Un.kept λ_ _ q=>q
theorem Un.laid (k:∀ b u,h.get? b=some u->h'.get? b=some u)(hp:h.objs.size<=a)(hn:H a=none):Un fs ex H (n5 H a o) h h' where
 keep:=λb u q _ _ _=>k b u q
 slot:=λb u q _ _ _=>⟨u.slots,k b u q⟩
 free:=λb u q n _=>by rw[m9 (kj (dH (kI q) hp))];exact n
 there:=λb u q _=>⟨u,k b u q⟩
 tups:=λb xs q=>by rw[m9 (nQ q hn)];exact q
 frzs:=λb u xs q=>by rw[m9 (nQ q hn)];exact q
 tbls:=λb ps q=>⟨#[],by rw[m9 (nQ q hn),q];simp⟩
theorem Un.write (mu:M9 (H x))(he:e=x ∨ H e=some (.own x))(k:∀ b u,b≠e->h.get? b=some u->h'.get? b=some u)(heo:∃ u,h'.get? e=some u):Un fs ex H (n5 H x o) h h':=by
 have hx:∀ b,H b=none->b≠x:=λb n z=>by subst z;rw[n] at mu;exact mu
 have hb:∀ b,H b=none->b≠e:=λb n z=>by
  subst z
  rcases he with r|r
  ·exact hx b n r
  ·rw[n] at r;cases r
 have hm:∀ b u,H b=some u->¬ M9 (some u)->b≠x:=λb u q nm z=>by subst z;rw[q] at mu;exact nm mu
 refine⟨λb u q n _ _=>k b u (hb b n) q,λb u q n _ _=>⟨u.slots,k b u (hb b n) q⟩,λb u q n _=>by rw[m9 (hx b n)];exact n,λb u q _=>?_,
  λb xs q=>by rw[m9 (hm b _ q λz=>z)];exact q,λb u xs q=>by rw[m9 (hm b _ q λz=>z)];exact q,λb ps q=>⟨#[],by rw[m9 (hm b _ q λz=>z),q];simp⟩⟩
 by_cases hbe:b=e
 ·subst hbe;exact heo
 ·exact⟨u,k b u hbe q⟩
end
def Nh (h:mQ)(H:Hp):List mS:=(lL h.objs.size).filter λa=>(H a).isSome
def wR (h:mQ)(H:Hp):mQ:=PySem.W.hideAll h (Nh h H)
theorem B2 (h:mQ)(H:Hp):(wR h H).objs.size=h.objs.size:=PySem.W.hideAll_size _ _
theorem DZ {h:mQ}{H:Hp}{b:mS}{o:Obj}(e:h.get? b=some o)(n:H b=none):(wR h H).get? b=some o :=
 PySem.W.hideAll_get _ e λhm=>by
  have q:(H b).isSome=true:=(ij.mp hm).2
  rw[n] at q;simp at q
theorem FC {h:mQ}{H:Hp}{b:mS}{o:Obj}(e:(wR h H).get? b=some o):h.get? b=some o/\H b=none:=by
 have e':h.get? b=some o:=PySem.W.of_hideAll (Nh h H) e
 refine⟨e',?_⟩
 cases q:H b with
 | none=>rfl
 | some x =>
  have hm:b∈Nh h H:=ij.mpr ⟨je.mpr (kI e'),by simp[q]⟩
  have z:(wR h H).get? b=none:=PySem.W.hideAll_none (Nh h H) hm
  rw[z] at e;cases e
end L2
namespace L2
open PySem PySem.Spec PyProof.Rows
structure Mod (K:ke)(mg:Str->Option mF)(base:mQ):Prop where
 kin:K.In base
 glob:base.Ns mainGlobals mg
 blt:∃ mb,base.Ns builtinsNs mb/\∀ x:Str,x≠"__name__"->mb x=bootBuiltins x
 nolimit:base.NoLimit
set_option genInjectivity true in
structure Cx where
 prog:l8
 w:mD
 K:ke
 mg:Str->Option mF
 base:mQ
 A:mC
 N:List Str
 s₀:mn
 H₀:Hp
 env:Env
 outer:List Env
 stack:List Env
 ex:List mS
 fn:Str->Bool
 calm:Bool
 pn:List (mS×Obj)
 xe:mF->mn->Prop
def zA (l:List Env):List mS:=l.filterMap (·.frame)
abbrev Cx.fs (X:Cx):List mS:=zA X.outer
def K8 (sc:mG)(x:Str):Prop:=sc.names.lookup x=some .local ∨ sc.names.lookup x=some .cell ∨ sc.names.lookup x=some .free
def Loc (sc:mG)(x:Str):Prop:=sc.names.lookup x=some .local ∨ sc.names.lookup x=some .cell
def Look (env:Env)(h:mQ)(m:Str->Option mF)(x:Str)(u:mF):Prop :=
 (env.kindOf x=some .local/\m x=some u) ∨ ((env.kindOf x=some .cell ∨ env.kindOf x=some .free)/\∃ c,env.cells.lookup x=some c/\h.IsCell c (some u))
set_option genInjectivity true in
structure Cx.Ok (X:Cx):Prop where
 mod:Mod X.K X.mg X.base
 kind:X.env.scope.kind=.function
 glob:X.env.globals=mainGlobals
 blt:X.env.builtins=builtinsNs
 above:X.s₀.heap.objs.size<=X.env.locals
 inj:∀ x y c,X.env.cells.lookup x=some c->X.env.cells.lookup y=some c->x=y
 has:∀ x,(X.env.kindOf x=some .cell ∨ X.env.kindOf x=some .free)->∃ c,X.env.cells.lookup x=some c
 cab:∀ x c,X.fn x=true->X.env.cells.lookup x=some c->X.s₀.heap.objs.size<=c
 hd:X.calm=true->X.A.handled=none
 frames:X.A.frames=some X.stack
 stk:X.stack=X.outer ∨ (X.stack=X.env :: X.outer/\X.env.frame=some X.env.locals)
 exf:∀ b∈X.ex,b≠X.env.locals/\∀ x c,X.env.cells.lookup x=some c->c≠b
 bs:∀ b o,X.base.get? b=some o->X.s₀.heap.get? b=some o/\X.H₀ b=none
 bsz:X.base.objs.size<=X.s₀.heap.objs.size
 noex:∀ b o,X.base.get? b=some o->b ∉ X.ex
 exfs:∀ b∈X.ex,b ∉ X.fs
 funs:X.s₀.heap.FunFrames X.base X.outer
 frf:∀ b∈X.fs,X.H₀ b=none
structure Inv (X:Cx)(Z9:List (mS×Obj))(σ:List (Option V))(H:Hp)(s:mn):Prop where
 ok:X.Ok
 os:s.os=X.s₀.os
 bare:mm s.gens
 base:Un X.fs X.ex X.H₀ H X.s₀.heap s.heap
 loc:∃ m,s.heap.Ns X.env.locals m/\∀ (i:Nat)(x:Str)(v:V),X.N[i]?=some x->σ[i]?=some (some v)->K8 X.env.scope x->∃ u,RelV v u/\Look X.env s.heap m x u
 cell:∀ x c,X.env.cells.lookup x=some c->∃ v,s.heap.IsCell c v
 free:H X.env.locals=none
 freeC:∀ x c,X.env.cells.lookup x=some c->H c=none
 pin:∀ p∈X.pn++Z9,s.heap.get? p.1=some p.2/\H p.1=none/\p.1≠X.env.locals/\p.1 ∉ X.fs/\∀ v,p.2.data≠.cell v
 hok:HOk X.prog X.w H s.heap
 len:σ.length=X.N.length
section
variable {X:Cx}{Z9:List (mS×Obj)}{σ:List (Option V)}{H H':Hp}{s:mn}{h':mQ}
theorem Cx.Ok.nofr (ok:X.Ok){b:mS}{o:Obj}(e:X.base.get? b=some o):b ∉ X.fs:=λhb=>by
 have:=(ok.funs.mem hb).1
 rw[e] at this;cases this
theorem Inv.bs (I:Inv X Z9 σ H s):∀ b o,X.base.get? b=some o->s.heap.get? b=some o/\H b=none:=λb o e =>
 ⟨I.base.keep b o (I.ok.bs b o e).1 (I.ok.bs b o e).2 (I.ok.nofr e) (I.ok.noex b o e),I.base.free b o (I.ok.bs b o e).1 (I.ok.bs b o e).2 (I.ok.noex b o e)⟩
theorem Inv.bk (I:Inv X Z9 σ H s):∀ b o,X.base.get? b=some o->s.heap.get? b=some o:=λb o e=>(I.bs b o e).1
theorem Inv.mod (I:Inv X Z9 σ H s):Mod X.K X.mg X.base:=I.ok.mod
theorem Inv.kIn (I:Inv X Z9 σ H s):X.K.In s.heap:=I.ok.mod.kin.keeps I.bk
theorem Inv.lt (I:Inv X Z9 σ H s):X.env.locals<s.heap.objs.size:=let ⟨_,hn,_⟩:=I.loc;hn.lt
theorem Inv.sz (I:Inv X Z9 σ H s):X.s₀.heap.objs.size<=s.heap.objs.size:=kq I.ok.above (kr I.lt)
theorem Inv.nofs (I:Inv X Z9 σ H s){a:mS}(h:s.heap.objs.size<=a):a ∉ X.fs:=λhb=>by
 obtain⟨_,o,ho,_⟩:=I.ok.funs.mem hb
 exact absurd (dH (kI ho) (kq I.sz h)) (jJ _)
theorem Inv.cne (I:Inv X Z9 σ H s):∀ x c,X.env.cells.lookup x=some c->c≠X.env.locals:=λx c e z=>by
 obtain⟨v,o,ho,hd⟩:=I.cell x c e
 obtain⟨m,⟨o',es,ep,ho',hd',_⟩,_⟩:=I.loc
 rw[z,ho'] at ho;cases ho;rw[hd'] at hd;cases hd
theorem Inv.funs (I:Inv X Z9 σ H s):s.heap.FunFrames X.base X.outer:=by
 have all:∀ (l:List Env),(∀ b∈zA l,b∈X.fs)->X.s₀.heap.FunFrames X.base l->s.heap.FunFrames X.base l:=by
  intro l
  induction l with
  | nil=>intro _ _;trivial
  | cons env r ih =>
   intro hs hl
   obtain⟨hk,⟨L,o,hf,hn,ho,hd⟩,hr⟩:=hl
   have hL:L∈X.fs:=hs L (by unfold zA;rw[c8,hf];exact dQ)
   obtain⟨sl,e⟩:=I.base.slot L o ho (I.ok.frf L hL) hL λz=>I.ok.exfs L z hL
   exact⟨hk,⟨L,_,hf,hn,e,hd⟩,ih (λb hb=>hs b (by unfold zA;rw[c8,hf];exact cI _ hb)) hr⟩
 exact all X.outer (λ_ hb=>hb) I.ok.funs
theorem Inv.stack (I:Inv X Z9 σ H s):s.heap.FunFrames X.base X.stack:=by
 rcases I.ok.stk with e|⟨e,hf⟩
 ·rw[e];exact I.funs
 ·rw[e]
  obtain⟨m,hn,_⟩:=I.loc
  refine .cons (by rw[I.ok.kind];decide) hf hn ?_ I.funs
  exact Heap.get?_none_of_le (kq I.ok.bsz I.ok.above)
theorem Inv.stkSub (I:Inv X Z9 σ H s):∀ b∈zA X.stack,b∈X.env.locals :: X.fs:=λb hb=>by
 rcases I.ok.stk with e|⟨e,hf⟩
 ·rw[e] at hb;exact cI _ hb
 ·rw[e] at hb
  unfold zA at hb
  rw[c8,hf] at hb
  exact hb
theorem Inv.stkFree (I:Inv X Z9 σ H s):∀ b∈zA X.stack,H b=none:=λb hb=>by
 rcases jN.mp (I.stkSub b hb) with e|hb
 ·rw[e];exact I.free
 ·obtain⟨_,o,ho,_⟩:=I.ok.funs.mem hb
  exact I.base.free b o ho (I.ok.frf b hb) λz=>I.ok.exfs b z hb
theorem Inv.step {g':Array lZ}{t':Nat}{d':mM}{ch:List mS}(I:Inv X Z9 σ H s)
  (hch:∀ b∈ch,(b∈X.ex ∨ X.s₀.heap.objs.size<=b)/\b≠X.env.locals/\(∀ x c,X.env.cells.lookup x=some c->c≠b)/\∀ p∈X.pn++Z9,p.1≠b)
  (keep:∀ b o,b≠X.env.locals->b ∉ X.fs->b ∉ ch->s.heap.get? b=some o->H b=none->h'.get? b=some o)
  (slot:∀ b o,b≠X.env.locals->b∈X.fs->b ∉ ch->s.heap.get? b=some o->H b=none->∃ sl,h'.get? b=some { o with slots:=sl })(free:∀ b o,b ∉ ch->s.heap.get? b=some o->H b=none->H' b=none)
  (there:∀ b o,b ∉ ch->s.heap.get? b=some o->∃ o',h'.get? b=some o')
  (tups:∀ b xs,H b=some (.tup xs)->H' b=some (.tup xs))(frzs:∀ b o u,H b=some (.frz o u)->H' b=some (.frz o u))(tbls:∀ b ps,H b=some (.tbl ps)->∃ more,H' b=some (.tbl (ps++more)))
  (ns:∀ m,s.heap.Ns X.env.locals m->h'.Ns X.env.locals m)(hok:HOk X.prog X.w H' h')(hg:mm g') :
  Inv X Z9 σ H' { s with heap:=h',gens:=g',drawn:=d',toks:=t' }:=by
 have neL:∀ b o,X.s₀.heap.get? b=some o->b≠X.env.locals:=λb o e=>kj (dH (kI e) I.ok.above)
 have neC:∀ b o,X.s₀.heap.get? b=some o->b ∉ X.ex->b ∉ ch:=λb o e hx hb=>by
  rcases (hch b hb).1 with z|z
  ·exact hx z
  ·exact absurd (dH (kI e) z) (jJ _)
 have cellK:∀ x c,X.env.cells.lookup x=some c->∀ v,s.heap.IsCell c v->h'.IsCell c v:=λx c e v q1=>by
  obtain⟨o,ho,hd⟩:=q1
  have nch:c ∉ ch:=λz=>(hch c z).2.2.1 x c e rfl
  by_cases hc:c∈X.fs
  ·obtain⟨sl,q⟩:=slot c o (I.cne x c e) hc nch ho (I.freeC x c e)
   exact⟨_,q,hd⟩
  ·exact⟨o,keep c o (I.cne x c e) hc nch ho (I.freeC x c e),hd⟩
 refine⟨I.ok,I.os,hg,⟨λb o e n hb hx=>?_,λb o e n hb hx=>?_,λb o e n hx=>?_,λb o e hx=>?_,λb xs e=>tups b xs (I.base.tups b xs e),λb o xs e=>frzs b o xs (I.base.frzs b o xs e),λb ps e=>?_⟩,?_,λx c e=>?_,?_,λx c e=>?_,λp hp=>?_,hok,I.len⟩
 ·exact keep b o (neL b o e) hb (neC b o e hx) (I.base.keep b o e n hb hx) (I.base.free b o e n hx)
 ·obtain⟨sl,e1⟩:=I.base.slot b o e n hb hx
  obtain⟨sl',e2⟩:=slot b _ (neL b o e) hb (neC b o e hx) e1 (I.base.free b o e n hx)
  exact⟨sl',e2⟩
 ·obtain⟨o',e1⟩:=I.base.there b o e hx
  exact free b o' (neC b o e hx) e1 (I.base.free b o e n hx)
 ·obtain⟨o',e1⟩:=I.base.there b o e hx
  exact there b o' (neC b o e hx) e1
 ·obtain⟨m1,e1⟩:=I.base.tbls b ps e
  obtain⟨m2,e2⟩:=tbls b _ e1
  exact⟨m1++m2,by rw[e2,Array.append_assoc]⟩
 ·obtain⟨m,hn,hl⟩:=I.loc
  refine⟨m,ns m hn,λi x v e1 e2 e3=>?_⟩
  obtain⟨u,r,l⟩:=hl i x v e1 e2 e3
  refine⟨u,r,?_⟩
  rcases l with l|⟨k,c,e,z⟩
  ·exact .inl l
  ·exact .inr ⟨k,c,e,cellK x c e _ z⟩
 ·obtain⟨v,z⟩:=I.cell x c e
  exact⟨v,cellK x c e v z⟩
 ·obtain⟨m,⟨o,_,_,ho,_⟩,_⟩:=I.loc
  exact free _ o (λz=>(hch _ z).2.1 rfl) ho I.free
 ·obtain⟨v,o,ho,hd⟩:=I.cell x c e
  exact free c o (λz=>(hch c z).2.2.1 x c e rfl) ho (I.freeC x c e)
 ·obtain⟨e,n,ne,nf,d⟩:=I.pin p hp
  have nch:p.1 ∉ ch:=λz=>(hch p.1 z).2.2.2 p hp rfl
  exact⟨keep p.1 p.2 ne nf nch e n,free p.1 p.2 nch e n,ne,nf,d⟩
theorem Inv.un {t':Nat}(I:Inv X Z9 σ H s)(u:Un X.fs [] H H' s.heap h')(hok:HOk X.prog X.w H' h'):Inv X Z9 σ H' { s with heap:=h',toks:=t' }:=by
 obtain⟨m,⟨o,es,ep,ho,r⟩,_⟩:=id I.loc
 obtain⟨sl,hL⟩:=u.any ho I.free (by simp)
 exact I.step (g':=s.gens) (d':=s.drawn) (ch:=[]) (λ_ z=>nomatch z) (λb o _ hb _ e n=>u.keep b o e n hb (by simp)) (λb o _ hb _ e n=>u.slot b o e n hb (by simp)) (λb o _ e n=>u.free b o e n (by simp)) (λb o _ e=>u.there b o e (by simp)) u.tups u.frzs u.tbls (λm' hm=>by
  obtain⟨o',es',ep',ho',r'⟩:=hm
  rw[ho] at ho';cases ho'
  exact⟨_,es',ep',hL,r'⟩) hok I.bare
theorem Inv.call {g':Array lZ}{t':Nat}{d':mM}{ch:List mS}(I:Inv X Z9 σ H s)(u:Un (zA X.stack) ch H H' s.heap h')(hok:HOk X.prog X.w H' h')(hg:mm g')
  (hch:∀ b∈ch,(b∈X.ex ∨ X.s₀.heap.objs.size<=b)/\b≠X.env.locals/\(∀ x c,X.env.cells.lookup x=some c->c≠b)/\∀ p∈X.pn++Z9,p.1≠b) :
  Inv X Z9 σ H' { s with heap:=h',gens:=g',drawn:=d',toks:=t' }:=by
 obtain⟨m,⟨o,es,ep,ho,r⟩,_⟩:=id I.loc
 obtain⟨sl,hL⟩:=u.any ho I.free λz=>(hch _ z).2.1 rfl
 exact I.step (ch:=ch) hch (λb o hL hb hc e n=>u.keep b o e n (λz=>(jN.mp (I.stkSub b z)).elim hL hb) hc) (λb o _ _ hc e n=>u.any e n hc) (λb o hc e n=>u.free b o e n hc) (λb o hc e=>u.there b o e hc) u.tups u.frzs u.tbls (λm' hm=>by
  obtain⟨o',es',ep',ho',r'⟩:=hm
  rw[ho] at ho';cases ho'
  exact⟨_,es',ep',hL,r'⟩) hok hg
theorem Inv.turned {t':Nat}{it:mS}(I:Inv X Z9 σ H s)(k:∀ b o,b≠it->s.heap.get? b=some o->h'.get? b=some o)(hn:H it=none)(hL:it≠X.env.locals)
  (h1:it∈X.ex ∨ X.s₀.heap.objs.size<=it)(h2:∀ x c,X.env.cells.lookup x=some c->c≠it)(h3:∀ p∈X.pn++Z9,p.1≠it):Inv X Z9 σ H { s with heap:=h',toks:=t' }:=by
 have nit:∀ b u,H b=some u->b≠it:=λb u e z=>by rw[z,hn] at e;cases e
 refine I.step (g':=s.gens) (d':=s.drawn) (ch:=[it]) (λb hb=>?_) (λb o _ _ hc e _=>k b o (λz=>hc (by simp[z])) e) (λb o _ _ hc e _=>⟨o.slots,k b o (λz=>hc (by simp[z])) e⟩) (λ_ _ _ _ n=>n)
  (λb o hc e=>⟨o,k b o (λz=>hc (by simp[z])) e⟩) (λ_ _ e=>e) (λ_ _ _ e=>e) (λb ps e=>⟨#[],by rw[e];simp⟩) (λm hm=>?_) (λb u e=>?_) I.bare
 ·have e:b=it:=by simpa using hb
  subst e
  exact⟨h1,hL,h2,h3⟩
 ·obtain⟨o,es,ep,ho,r⟩:=hm
  exact⟨o,es,ep,k _ o (ma hL) ho,r⟩
 ·refine (I.hok b u e).stay (λc v hc q=>k c v ?_ q) (λ_ q=>q) λ_ _ q=>q
  rcases hc with z|z
  ·rw[z];exact nit b u e
  ·exact nit c _ z
theorem Inv.tok (I:Inv X Z9 σ H s) (t:Nat):Inv X Z9 σ H { s with toks:=t }:=I.un (h':=s.heap) (t':=t) Un.refl I.hok
theorem Inv.kept {t':Nat}(I:Inv X Z9 σ H s)(k:∀ b u,s.heap.get? b=some u->h'.get? b=some u):Inv X Z9 σ H { s with heap:=h',toks:=t' }:=I.un (Un.kept k) (I.hok.kept k)
theorem Inv.laid {a:mS}{o:HO}{t':Nat}(I:Inv X Z9 σ H s)(k:∀ b u,s.heap.get? b=some u->h'.get? b=some u)(hp:s.heap.objs.size<=a)(new:ObjOk X.prog X.w (n5 H a o) h' a o) :
  Inv X Z9 σ (n5 H a o) { s with heap:=h',toks:=t' }:=I.un (Un.laid k hp (I.hok.fresh hp)) (I.hok.laid k hp new)
theorem Inv.write {x e:mS}{o:HO}{t':Nat}(I:Inv X Z9 σ H s)(mu:M9 (H x))(he:e=x ∨ H e=some (.own x))(k:∀ b u,b≠e->s.heap.get? b=some u->h'.get? b=some u)(heo:∃ u,h'.get? e=some u)
  (new:ObjOk X.prog X.w (n5 H x o) h' x o):Inv X Z9 σ (n5 H x o) { s with heap:=h',toks:=t' }:=I.un (Un.write mu he k heo) (I.hok.write mu he k heo new)
theorem Inv.weak {σ':List (Option V)}(I:Inv X Z9 σ H s)(hl:σ'.length=σ.length)(w:∀ (i:Nat) v,σ'[i]?=some (some v)->σ[i]?=some (some v)):Inv X Z9 σ' H s :=
 ⟨I.ok,I.os,I.bare,I.base,let ⟨m,hn,hl'⟩:=I.loc;⟨m,hn,λi x v e1 e2 e3=>hl' i x v e1 (w i v e2) e3⟩,I.cell,I.free,I.freeC,I.pin,I.hok,hl.trans I.len⟩
theorem Inv.pins_of {pins':List (mS×Obj)}(I:Inv X Z9 σ H s)(h:∀ p∈pins',s.heap.get? p.1=some p.2/\H p.1=none/\p.1≠X.env.locals/\p.1 ∉ X.fs/\∀ v,p.2.data≠.cell v):Inv X pins' σ H s :=
 ⟨I.ok,I.os,I.bare,I.base,I.loc,I.cell,I.free,I.freeC,λp hp=>(ik.mp hp).elim (λz=>I.pin p (cJ _ z)) (h p),I.hok,I.len⟩
theorem xT {N:List Str}(hN:N.Nodup){i j:Nat}{x:Str}(a:N[i]?=some x)(b:N[j]?=some x):i=j:=by
 obtain⟨h1,e1⟩:=aI.mp a
 obtain⟨h2,e2⟩:=aI.mp b
 exact (List.getElem_inj hN).mp (e1.trans e2.symm)
theorem u9 {M:mI}{A:mC}{E:mF->mn->Prop}{i:Nat}{x:Str}{v:V}{u:mF}{Q:Unit->mn->Prop}(I:Inv X Z9 σ H s)(hN:X.N.Nodup)(hi:X.N[i]?=some x)(hx:Loc X.env.scope x)(r:RelV v u)
  (h:∀ s',Inv X Z9 (σ.set i (some v)) H s'->(∃ a,kJ a s.heap s'.heap/\(a=X.env.locals ∨ X.env.cells.lookup x=some a))->Q () s')(hf:X.fn x=true ∨ X.env.scope.names.lookup x=some .local:=by first|exact .inl rfl|exact .inr rfl|assumption):wpAny M A (storeName X.env x u) Q E s:=by
 obtain⟨m,hn,hl⟩:=id I.loc
 have hcls:(X.env.scope.kind == .class || (X.env.scope.kind == .module && X.env.locals != X.env.globals))=false:=by rw[I.ok.kind];rfl
 have hiσ:i<σ.length:=by rw[I.len];exact (aI.mp hi).1
 have cne:=I.cne
 have tracked:∀ {a:mS}{h':mQ},(∃ o,s.heap.get? a=some o/\H a=none)->kJ a s.heap h'->HOk X.prog X.w H h':=λ{a h'} ha hs b ob e=>by
  obtain⟨_,_,hfree⟩:=ha
  refine (I.hok b ob e).stay (λc w' hc q=>(hs.2 c ?_).trans q) (λ_ q=>q) λ_ _ q=>q
  rintro rfl
  rcases hc with rfl|hc
  ·rw[hfree] at e;cases e
  ·rw[hfree] at hc;cases hc
 rcases hx with hk|hk
 ·refine wpAny_storeName_local hk hn (λh' hn' hs=>?_) hcls
  obtain⟨oL,_,_,hoL,_⟩:=id hn
  refine h _ ⟨I.ok,I.os,I.bare,⟨λb o e n hb hx=>?_,λb o e n hb hx=>?_,I.base.free,λb o e hx=>?_,I.base.tups,I.base.frzs,I.base.tbls⟩,⟨_,hn',λj y v' e1 e2 e3=>?_⟩,λy c e=>?_,I.free,I.freeC,λp hp=>?_,tracked ⟨oL,hoL,I.free⟩ hs,by simpa using I.len⟩ ⟨_,hs,.inl rfl⟩
  ·exact (hs.2 b (kj (dH (kI e) I.ok.above))).trans (I.base.keep b o e n hb hx)
  ·obtain⟨sl,e1⟩:=I.base.slot b o e n hb hx
   exact⟨sl,(hs.2 b (kj (dH (kI e) I.ok.above))).trans e1⟩
  ·obtain⟨o',e1⟩:=I.base.there b o e hx
   exact⟨o',(hs.2 b (kj (dH (kI e) I.ok.above))).trans e1⟩
  ·by_cases hj:j=i
   ·subst hj
    rw[hi] at e1;cases e1
    rw[bN hiσ] at e2
    cases e2
    exact⟨u,r,.inl ⟨hk,by simp⟩⟩
   ·rw[cK (ma hj)] at e2
    obtain⟨u',r',q⟩:=hl j y v' e1 e2 e3
    refine⟨u',r',?_⟩
    rcases q with⟨k,e⟩|⟨k,c,e,z⟩
    ·refine .inl ⟨k,?_⟩
     have:y≠x:=λe=>hj (xT hN e1 (e ▸ hi))
     simp[this,e]
    ·exact .inr ⟨k,c,e,z.sameBut hs (cne y c e)⟩
  ·obtain⟨w',z⟩:=I.cell y c e
   exact⟨w',z.sameBut hs (cne y c e)⟩
  ·obtain⟨e,n,ne,nf,d⟩:=I.pin p hp
   exact⟨(hs.2 p.1 ne).trans e,n,ne,nf,d⟩
 ·have hfn:X.fn x=true:=by
   rcases hf with z|z
   ·exact z
   ·rw[z] at hk;cases hk
  obtain⟨c,hc⟩:=I.ok.has x (.inl hk)
  obtain⟨w',z⟩:=I.cell x c hc
  refine wpAny_storeName_cell I.ok.kind hk hc z (λh' hc' hs=>?_)
  obtain⟨oc,hoc,hocd⟩:=id z
  refine h { s with heap:=h' } ⟨I.ok,I.os,I.bare,⟨λb o e n hb hx=>?_,λb o e n hb hx=>?_,I.base.free,λb o e hx=>?_,I.base.tups,I.base.frzs,I.base.tbls⟩,⟨m,hn.sameBut hs (ma (cne x c hc)),λj y v' e1 e2 e3=>?_⟩,λy c' e=>?_,I.free,I.freeC,λp hp=>?_,tracked ⟨oc,hoc,I.freeC x c hc⟩ hs,by simpa using I.len⟩ ⟨c,hs,.inr hc⟩
  ·exact (hs.2 b (kj (dH (kI e) (I.ok.cab x c hfn hc)))).trans (I.base.keep b o e n hb hx)
  ·obtain⟨sl,e1⟩:=I.base.slot b o e n hb hx
   exact⟨sl,(hs.2 b (kj (dH (kI e) (I.ok.cab x c hfn hc)))).trans e1⟩
  ·obtain⟨o',e1⟩:=I.base.there b o e hx
   exact⟨o',(hs.2 b (kj (dH (kI e) (I.ok.cab x c hfn hc)))).trans e1⟩
  ·by_cases hj:j=i
   ·subst hj
    rw[hi] at e1;cases e1
    rw[bN hiσ] at e2
    cases e2
    exact⟨u,r,.inr ⟨.inl hk,c,hc,hc'⟩⟩
   ·rw[cK (ma hj)] at e2
    obtain⟨u',r',q⟩:=hl j y v' e1 e2 e3
    refine⟨u',r',?_⟩
    rcases q with q|⟨k,c',e,z'⟩
    ·exact .inl q
    ·refine .inr ⟨k,c',e,z'.sameBut hs ?_⟩
     rintro rfl
     exact hj (xT hN e1 (I.ok.inj _ _ _ e hc ▸ hi))
  ·by_cases hcc:c'=c
   ·subst hcc;exact⟨_,hc'⟩
   ·obtain⟨w2,z2⟩:=I.cell y c' e
    exact⟨w2,z2.sameBut hs hcc⟩
  ·obtain⟨e,n,ne,nf,d⟩:=I.pin p hp
   refine⟨(hs.2 p.1 ?_).trans e,n,ne,nf,d⟩
   intro q
   rw[q,hoc] at e
   have q':oc=p.2:=gX e
   exact d w' (by rw[<- q'];exact hocd)
theorem qN {M:mI}{A:mC}{E:mF->mn->Prop}{i:Nat}{x:Str}{v:V}{u:mF}{Q:Unit->mn->Prop}(I:Inv X Z9 σ H s)(hN:X.N.Nodup)(hi:X.N[i]?=some x)(hx:Loc X.env.scope x)(r:RelV v u)
  (h:∀ s',Inv X Z9 (σ.set i (some v)) H s'->Q () s')(hf:X.fn x=true ∨ X.env.scope.names.lookup x=some .local:=by first|exact .inl rfl|exact .inr rfl|assumption):wpAny M A (storeName X.env x u) Q E s :=
 u9 I hN hi hx r (λs' I' _=>h s' I') hf
theorem Inv.call' {s':mn}{ch:List mS}(I:Inv X Z9 σ H s)(ho:s'.os=s.os)(u:Un (zA X.stack) ch H H' s.heap s'.heap)(hok:HOk X.prog X.w H' s'.heap)(hg:mm s'.gens)
  (hch:∀ b∈ch,(b∈X.ex ∨ X.s₀.heap.objs.size<=b)/\b≠X.env.locals/\(∀ x c,X.env.cells.lookup x=some c->c≠b)/\∀ p∈X.pn++Z9,p.1≠b):Inv X Z9 σ H' s':=by
 obtain⟨h',g',d',t',o'⟩:=s'
 have e:o'=s.os:=ho
 subst e
 exact I.call (g':=g') (t':=t') (d':=d') u hok hg hch
end
abbrev XK:=mF->Option mS->Hp->Prop
abbrev St:=List (Option V)
abbrev VK:=V->Hp->Prop
abbrev TE:=St->Hp->VK->Prop
abbrev TT:=St->Hp->(Bool->Hp->Prop)->Prop
abbrev TA:=St->Hp->(List V->Hp->Prop)->Prop
structure Ends where
 nx:St->Hp->Prop
 rt:VK
 bk:St->Hp->Prop:=λ_ _=>False
 ct:St->Hp->Prop:=λ_ _=>False
abbrev TS:=Ends->St->Hp->Prop
inductive EP (X:Cx)(Z9:List (mS×Obj))(σ:St)(Q:VK)(u:mF)(s':mn):Prop
 | mk (v:_)(H':_)(_:Inv X Z9 σ H' s')(_:RelV v u)(_:Q v H'):EP X Z9 σ Q u s'
inductive TP (X:Cx)(Z9:List (mS×Obj))(σ:St)(Q:Bool->Hp->Prop)(b:Bool)(s':mn):Prop
 | mk (H':_)(_:Inv X Z9 σ H' s')(_:Q b H'):TP X Z9 σ Q b s'
inductive AP (X:Cx)(Z9:List (mS×Obj))(σ:St)(Q:List V->Hp->Prop)(us:List mF)(s':mn):Prop
 | mk (vs:_)(H':_)(_:Inv X Z9 σ H' s')(_:Vals vs us)(_:Q vs H'):AP X Z9 σ Q us s'
def SP (X:Cx)(Z9:List (mS×Obj))(D:Ends)(f:Flow)(s':mn):Prop :=
 match f with
 | .next=>∃ σ' H',Inv X Z9 σ' H' s'/\D.nx σ' H'
 | .brk=>∃ σ' H',Inv X Z9 σ' H' s'/\D.bk σ' H'
 | .cont=>∃ σ' H',Inv X Z9 σ' H' s'/\D.ct σ' H'
 | .ret u=>∃ v σ' H',Inv X Z9 σ' H' s'/\RelV v u/\D.rt v H'
def PE (X:Cx)(e:Expr)(t:TE):Prop :=
 ∀ (Z9:List (mS×Obj))(s:mn)(σ:St)(H:Hp)(Q:VK),Inv X Z9 σ H s->t σ H Q->wpAny (model X.prog X.w) X.A (eval e X.env) (EP X Z9 σ Q) X.xe s
def PT (X:Cx)(e:Expr)(t:TT):Prop :=
 ∀ (Z9:List (mS×Obj))(s:mn)(σ:St)(H:Hp)(Q:Bool->Hp->Prop),Inv X Z9 σ H s->t σ H Q->wpAny (model X.prog X.w) X.A (isTrue e X.env (eval e X.env)) (TP X Z9 σ Q) X.xe s
def PW (X:Cx)(e:Expr)(t:TT):Prop :=
 ∀ (whole:Sem mF)(Z9:List (mS×Obj))(s:mn)(σ:St)(H:Hp)(Q:Bool->Hp->Prop),Inv X Z9 σ H s->t σ H Q->wpAny (model X.prog X.w) X.A (isTrue e X.env whole) (TP X Z9 σ Q) X.xe s
theorem PW.pt {X:Cx}{e:Expr}{t:TT}(h:PW X e t):PT X e t:=h _
def PA (X:Cx)(es:List Expr)(t:TA):Prop :=
 ∀ (pos:Pos)(Z9:List (mS×Obj))(s:mn)(σ:St)(H:Hp)(Q:List V->Hp->Prop),Inv X Z9 σ H s->t σ H Q->wpAny (model X.prog X.w) X.A (spliced (backTo pos (starEach es X.env))) (AP X Z9 σ Q) X.xe s
def PS (X:Cx)(st:mP)(t:TS):Prop :=
 ∀ (Z9:List (mS×Obj))(s:mn)(σ:St)(H:Hp)(D:Ends),Inv X Z9 σ H s->t D σ H->wpAny (model X.prog X.w) X.A (exec st X.env) (SP X Z9 D) X.xe s
def PSs (X:Cx)(st:List mP)(t:TS):Prop :=
 ∀ (Z9:List (mS×Obj))(s:mn)(σ:St)(H:Hp)(D:Ends),Inv X Z9 σ H s->t D σ H->wpAny (model X.prog X.w) X.A (execs st X.env) (SP X Z9 D) X.xe s
theorem nV {α:Type}{t:Sem α}{Q Q':α->mn->Prop}{M:mI}{A:mC}{E:mF->mn->Prop}{s:mn}(h:wpAny M A t Q E s)(hQ:∀ a s,Q a s->Q' a s):wpAny M A t Q' E s:=lh h hQ λ_ _ x=>x
end L2
namespace L2
open PySem PySem.Spec PyProof.Rows
section
variable {X:Cx}
inductive tVar (i:Nat)(σ:L2.St)(H:Hp)(Q:VK):Prop
 | mk (v:_)(_:σ[i]?=some (some v))(_:Q v H):tVar i σ H Q
def tC (v:V):TE:=λ_ H Q=>Q v H
theorem zg {i:Nat}{x:Str}{pos:Pos}(hN:X.N[i]?=some x)(hv:K8 X.env.scope x)(hd:(x == ("__debug__":Str))=false:=by decide)(hcd:(x == ("__classdict__":Str))=false:=by decide):PE X (.Name x pos) (tVar i):=by
 intro Z9 s σ H Q I h
 obtain⟨v,e,h⟩:=h
 obtain⟨m,hn,hl⟩:=I.loc
 obtain⟨u,r,l⟩:=hl i x v hN e hv
 have fin:EP X Z9 σ Q u s:=⟨v,H,I,r,h⟩
 rcases l with⟨hk,hm⟩|⟨hk,c,hc,hcell⟩
 ·exact lu (cv I.ok.kind hk hn hm fin) hd
 ·rcases hk with hk|hk
  ·exact lu (cU I.ok.kind hk hc hcell fin) hd
  ·exact lu (wpAny_loadName_free I.ok.kind hk hc hcell fin hcd) hd
theorem II {i j pos}:PE X (.Constant (.int i) j pos) (tC (.int i)):=λ_ _ _ H _ I h=>wpAny_Constant_int ⟨.int i,H,I.tok _,⟨_,rfl⟩,h⟩
theorem LV {b j pos}:PE X (.Constant (.bool b) j pos) (tC (.bl b)):=λ_ _ _ H _ I h=>jW ⟨.bl b,H,I,rfl,h⟩
theorem IH {j pos}:PE X (.Constant .none j pos) (tC .non):=λ_ _ _ H _ I h=>jV ⟨.non,H,I,rfl,h⟩
theorem ID {x j pos}:PE X (.Constant (.str x) j pos) (tC (.str x)):=λ_ _ _ H _ I h=>Calls.Constant_str ⟨.str x,H,I.tok _,⟨_,rfl⟩,h⟩
def Gl (X:Cx)(x:Str):Prop:=X.env.kindOf x=some .globalImplicit
theorem F0 {E:mF->mn->Prop}{Z9:List (mS×Obj)}{s:mn}{σ:St}{H:Hp}{x:Str}{u:mF}{pos:Pos}{Q:mF->mn->Prop}(I:Inv X Z9 σ H s)(hg:Gl X x)(hm:X.mg x=some u)(h:Q u s)
  (hd:(x == ("__debug__":Str))=false:=by decide):wpAny (model X.prog X.w) X.A (eval (.Name x pos) X.env) Q E s :=
 aC I.ok.kind hg (Calls.loadGlobal_global (by rw[I.ok.glob];exact I.mod.glob.keeps I.bk) hm h) hd
theorem pH {E:mF->mn->Prop}{Z9:List (mS×Obj)}{s:mn}{σ:St}{H:Hp}{x:Str}{u:mF}{pos:Pos}{Q:mF->mn->Prop}(I:Inv X Z9 σ H s)(hg:Gl X x)(hm:X.mg x=none)(hv:bootBuiltins x=some u)(h:Q u s)
  (hn:x≠"__name__":=by decide)(hd:(x == ("__debug__":Str))=false:=by decide):wpAny (model X.prog X.w) X.A (eval (.Name x pos) X.env) Q E s:=by
 obtain⟨mb,h1,h2⟩:=I.mod.blt
 exact aC I.ok.kind hg (Calls.loadGlobal_builtin (by rw[I.ok.glob];exact I.mod.glob.keeps I.bk) hm (by rw[I.ok.blt];exact h1.keeps I.bk) ((h2 x hn).trans hv) h) hd
theorem Au {x:Str}{v:V}{u:mF}{pos:Pos}(hg:Gl X x)(hm:X.mg x=none)(hv:bootBuiltins x=some u)(r:RelV v u)(hn:x≠"__name__":=by decide)(hd:(x == ("__debug__":Str))=false:=by decide):PE X (.Name x pos) (tC v) :=
 λ_ _ _ H _ I h=>pH I hg hm hv ⟨v,H,I,r,h⟩ hn hd
variable {a b:Expr}{ta tb:TE}{pos:Pos}
def PC (X:Cx)(op:mN)(a b:Expr)(t:TE):Prop :=
 ∀ (Z9:List (mS×Obj))(s:mn)(σ:St)(H:Hp)(Q:VK),Inv X Z9 σ H s->t σ H Q ->
  wpAny (model X.prog X.w) X.A (eval a X.env) (λv s₁=>wpAny (model X.prog X.w) X.A (eval b X.env) (λu s₂=>wpAny (model X.prog X.w) X.A (compareOp op v u) (EP X Z9 σ Q) X.xe s₂) X.xe s₁) X.xe s
theorem oq (b:Expr){op:mN}(h:op≠.In)(h2:op≠.NotIn):behindInMarks op b=false:=by
 have e1:(op == CmpOp.In)=false:=by cases op<;>first|rfl|exact absurd rfl h
 have e2:(op == CmpOp.NotIn)=false:=by cases op<;>first|rfl|exact absurd rfl h2
 cases b<;>simp[behindInMarks,e1,e2]
def OL (ta:TE):TE:=λσ H Q=>ta σ H λx H1=>Q (.bl (decide (x=.non))) H1
def Li (ta:TE):TE:=λσ H Q=>ta σ H λx H1=>Q (.bl (!decide (x=.non))) H1
theorem RelV.none_iff {x:V}{v:mF}(r:RelV x v):(v == Value.none)=decide (x=.non):=by
 cases x with
 | non=>cases r;rfl
 | bl _=>cases r;rfl
 | int _=>obtain⟨t,rfl⟩:=r;rfl
 | str _=>obtain⟨t,rfl⟩:=r;rfl
 | byt _=>obtain⟨t,rfl⟩:=r;rfl
 | flt _=>obtain⟨t,rfl⟩:=r;rfl
 | ref _=>cases r;rfl
 | ty _=>cases r;rfl
theorem IJ {j pos'}(ha:PE X a ta):PC X .Is a (.Constant .none j pos') (OL ta):=by
 intro Z9 s σ H Q I h
 refine nV (ha Z9 s σ H _ I h) λv s1 q1=>?_;obtain⟨x,H1,I1,r1,q1⟩:=q1
 exact jV (is_none_gen ⟨.bl _,H1,I1,by rw[r1.none_iff];rfl,q1⟩)
theorem Fq {j pos'}(ha:PE X a ta):PC X .IsNot a (.Constant .none j pos') (Li ta):=by
 intro Z9 s σ H Q I h
 refine nV (ha Z9 s σ H _ I h) λv s1 q1=>?_;obtain⟨x,H1,I1,r1,q1⟩:=q1
 exact jV (isnot_none_gen ⟨.bl _,H1,I1,by rw[r1.none_iff];rfl,q1⟩)
def tB (t:TE):TT:=λσ H Q=>t σ H λx H1=>∃ c,x=.bl c/\Q c H1
theorem y0 {op:mN}{t:TE}(h:PC X op a b t)(h1:behindInMarks op b=false:=by first|exact oq _ (by decide) (by decide)|rfl):PT X (.Compare a [op] [b] pos) (tB t):=by
 intro Z9 s σ H Q I hw
 refine bT (nV (h Z9 s σ H _ I hw) λv s1 h1=>nV h1 λu s2 h2=>nV h2 λc s3 ⟨x,H1,I1,r1,q1⟩=>?_) h1
 obtain⟨d,rfl,q⟩:=q1
 cases r1
 exact eG ⟨H1,I1,q⟩
variable {tA tB':TT}{rest:List Expr}
def OP (t u:TT):TT:=λσ H Q=>t σ H λc H1=>if c=true then u σ H1 Q else Q false H1
def tOr (t u:TT):TT:=λσ H Q=>t σ H λc H1=>if c=true then Q true H1 else u σ H1 Q
def OJ (t:TT):TT:=λσ H Q=>t σ H λc H1=>Q (!c) H1
theorem Fb (ha:PT X a tA):PW X (.BoolOp .And [a] pos) tA:=by
 intro wh Z9 s σ H Q I h
 refine isTrue_and (nV (ha Z9 s σ H Q I h) λc s1 e=>?_)
 cases c with
 | true=>exact isTrue_and_nil e
 | false=>exact e
theorem Im (ha:PT X a tA):PW X (.BoolOp .Or [a] pos) tA:=by
 intro wh Z9 s σ H Q I h
 refine isTrue_or (nV (ha Z9 s σ H Q I h) λc s1 e=>?_)
 cases c with
 | false=>exact isTrue_or_nil e
 | true=>exact e
theorem Io (ha:PT X a tA)(hb:PW X (.BoolOp .And (b :: rest) pos) tB'):PW X (.BoolOp .And (a :: b :: rest) pos) (OP tA tB'):=by
 intro wh Z9 s σ H Q I h
 refine isTrue_and (nV (ha Z9 s σ H _ I h) λc s1 ⟨H1,I1,q1⟩=>?_)
 cases c with
 | true=>exact hb wh Z9 s1 σ H1 Q I1 q1
 | false=>exact⟨H1,I1,q1⟩
theorem LO (ha:PT X a tA)(hb:PW X (.BoolOp .Or (b :: rest) pos) tB'):PW X (.BoolOp .Or (a :: b :: rest) pos) (tOr tA tB'):=by
 intro wh Z9 s σ H Q I h
 refine isTrue_or (nV (ha Z9 s σ H _ I h) λc s1 ⟨H1,I1,q1⟩=>?_)
 cases c with
 | true=>exact⟨H1,I1,q1⟩
 | false=>exact hb wh Z9 s1 σ H1 Q I1 q1
theorem Iq (ha:PT X a tA):PT X (.UnaryOp .Not a pos) (OJ tA):=by
 intro Z9 s σ H Q I h
 exact isTrue_not (nV (ha Z9 s σ H (λc H1=>Q (!c) H1) I h) λu s' q1=>by obtain⟨H1,I1,q⟩:=q1;exact⟨H1,I1,q⟩)
def Lh (ta:TE):TE:=λσ H Q=>ta σ H λx H1=>∃ c,x=.bl c/\Q (.bl (!c)) H1
theorem IF {op}{t:TE}(h:PE X a t):PE X (.BoolOp op [a] pos) t:=λZ9 s σ H Q I hw=>BoolOp_one (h Z9 s σ H Q I hw)
theorem IG (ha:PE X a ta):PE X (.UnaryOp .Not a pos) (Lh ta):=by
 intro Z9 s σ H Q I h
 refine UnaryOp_ (nV (ha Z9 s σ H _ I h) λv s1 ⟨x,H1,I1,r1,q1⟩=>?_)
 obtain⟨c,rfl,q1⟩:=q1
 cases r1
 exact not_of (eG ⟨.bl (!c),H1,I1,rfl,q1⟩)
def tIf (t:TT)(ta tb:TE):TE:=λσ H Q=>t σ H λc H1=>if c=true then ta σ H1 Q else tb σ H1 Q
theorem Dj {c:Expr}(hc:PT X c tA)(ha:PE X a ta)(hb:PE X b tb):PE X (.IfExp c a b pos) (tIf tA ta tb):=by
 intro Z9 s σ H Q I h
 refine wpAny_IfExp (nV (hc Z9 s σ H _ I h) λd s1 ⟨H1,I1,q1⟩=>?_)
 cases d with
 | true=>exact ha Z9 s1 σ H1 Q I1 q1
 | false=>exact hb Z9 s1 σ H1 Q I1 q1
end
end L2
namespace L2
open PySem PySem.Spec PyProof.Rows
def SqL (K:ke)(H:Hp)(a:mS)(xs:List V):Prop :=
 Rd H a (.lst xs) ∨
  ∃ (o:Obj)(Z7:Array mF) (n:Nat),K.lookup a=some o/\o.cls=.type "list"/\o.dict=none/\o.data=.seq Z7 n/\Z7.size<=sizeLine/\Vals xs Z7.toList
def SqT (K:ke)(H:Hp)(a:mS)(xs:List V):Prop :=
 Rd H a (.tup xs) ∨
  ∃ (o:Obj)(Z7:Array mF) (n:Nat),K.lookup a=some o/\o.cls=.type "tuple"/\o.data=.seq Z7 n/\Z7.size<=sizeLine/\Vals xs Z7.toList
def Sf:mF->Option V
 | .none=>some .non
 | .bool b=>some (.bl b)
 | .int i _=>some (.int i)
 | .str x _=>some (.str x)
 | .bytes b _=>some (.byt b)
 | .float b _=>some (.flt b)
 | .ref a=>some (.ref a)
 | .type n=>some (.ty n)
 | _=>none
theorem RelV.abs {x:V}{u:mF}(r:RelV x u):Sf u=some x:=by
 cases x with
 | non=>cases r;rfl
 | bl _=>cases r;rfl
 | int _=>obtain⟨t,rfl⟩:=r;rfl
 | str _=>obtain⟨t,rfl⟩:=r;rfl
 | byt _=>obtain⟨t,rfl⟩:=r;rfl
 | flt _=>obtain⟨t,rfl⟩:=r;rfl
 | ref _=>cases r;rfl
 | ty _=>cases r;rfl
theorem RelV.inj {x y:V}{u:mF}(r:RelV x u)(q:RelV y u):x=y:=gX (r.abs.symm.trans q.abs)
theorem Vals.inj:∀ {xs ys:List V}{us:List mF},Vals xs us->Vals ys us->xs=ys:=λ{_ ys _} h=>by
 induction h generalizing ys with
 | nil=>intro h;cases h;rfl
 | cons r _ ih=>intro h;cases h with|cons r' t'=>rw[r.inj r',ih t']
section
variable {X:Cx}{Z9:List (mS×Obj)}{σ:St}{H:Hp}{s:mn}{a:mS}{xs ys:List V}
theorem SqL.of {K:ke}(h:H a=some (.lst xs)):SqL K H a xs:=.inl (.inl h)
theorem SqT.of {K:ke}(h:H a=some (.tup xs)):SqT K H a xs:=.inl (.inl h)
theorem Inv.list (I:Inv X Z9 σ H s)(h:SqL X.K H a xs):∃ Z7:List mF,Vals xs Z7/\PlainL s.heap a Z7.toArray/\xs.length<=sizeLine:=by
 rcases h with h|⟨o,Z7,n,hk,hc,hd,hs,hz,r⟩
 ·obtain⟨z,Z7,n,r,e⟩:=h.ok I.hok
  exact⟨Z7,r,⟨_,n,e,rfl,rfl,rfl⟩,z⟩
 ·refine⟨Z7.toList,r,⟨o,n,I.kIn a o hk,hc,hd,by simpa using hs⟩,?_⟩
  have e:=r.length
  simp -iota only[dj] at e
  lia
theorem Inv.tuple (I:Inv X Z9 σ H s)(h:SqT X.K H a xs):∃ Z7:List mF,Vals xs Z7/\mL s.heap a Z7.toArray/\xs.length<=sizeLine:=by
 rcases h with h|⟨o,Z7,n,hk,hc,hs,hz,r⟩
 ·obtain⟨z,Z7,r,p⟩:=h.ok I.hok
  exact⟨Z7,r,p,z⟩
 ·refine⟨Z7.toList,r,⟨o,I.kIn a o hk,hc,n,by simpa using hs⟩,?_⟩
  have e:=r.length
  simp -iota only[dj] at e
  lia
theorem Inv.list_inj (I:Inv X Z9 σ H s)(h:SqL X.K H a xs)(h':SqL X.K H a ys):xs=ys:=by
 obtain⟨Z7,r,⟨o,n,e,_,_,d⟩,_⟩:=I.list h
 obtain⟨its',r',⟨o',n',e',_,_,d'⟩,_⟩:=I.list h'
 rw[e] at e';cases e'
 rw[d] at d'
 injection d' with d1 _
 have:Z7=its':=by simpa using congrArg kL d1
 subst this
 exact r.inj r'
theorem Inv.tuple_inj (I:Inv X Z9 σ H s)(h:SqT X.K H a xs)(h':SqT X.K H a ys):xs=ys:=by
 obtain⟨Z7,r,⟨o,e,_,n,d⟩,_⟩:=I.tuple h
 obtain⟨its',r',⟨o',e',_,n',d'⟩,_⟩:=I.tuple h'
 rw[e] at e';cases e'
 rw[d] at d'
 injection d' with d1 _
 have:Z7=its':=by simpa using congrArg kL d1
 subst this
 exact r.inj r'
end
abbrev Cx.wish (X:Cx)(E:mF->mn->Prop):Cx:={ X with xe:=E }
abbrev Cx.nox (X:Cx):Cx:=X.wish λ_ _=>False
theorem Cx.Ok.wish {X:Cx}(ok:X.Ok)(E:mF->mn->Prop):(X.wish E).Ok :=
 ⟨ok.mod,ok.kind,ok.glob,ok.blt,ok.above,ok.inj,ok.has,ok.cab,ok.hd,ok.frames,ok.stk,ok.exf,ok.bs,ok.bsz,ok.noex,ok.exfs,ok.funs,ok.frf⟩
theorem Cx.Ok.unwish {X:Cx}{E:mF->mn->Prop}(ok:(X.wish E).Ok):X.Ok :=
 ⟨ok.mod,ok.kind,ok.glob,ok.blt,ok.above,ok.inj,ok.has,ok.cab,ok.hd,ok.frames,ok.stk,ok.exf,ok.bs,ok.bsz,ok.noex,ok.exfs,ok.funs,ok.frf⟩
section
variable {X:Cx}{Z9:List (mS×Obj)}{σ:St}{H:Hp}{s:mn}{E:mF->mn->Prop}
theorem Inv.wish (I:Inv X Z9 σ H s)(E:mF->mn->Prop):Inv (X.wish E) Z9 σ H s:=⟨I.ok.wish E,I.os,I.bare,I.base,I.loc,I.cell,I.free,I.freeC,I.pin,I.hok,I.len⟩
theorem Inv.unwish (I:Inv (X.wish E) Z9 σ H s):Inv X Z9 σ H s:=⟨I.ok.unwish,I.os,I.bare,I.base,I.loc,I.cell,I.free,I.freeC,I.pin,I.hok,I.len⟩
theorem SP.unwish {D:Ends}{f:Flow}{s':mn}(h:SP (X.wish E) Z9 D f s'):SP X Z9 D f s':=by
 cases f with
 | next=>obtain⟨σ',H',I,q⟩:=h;exact⟨σ',H',I.unwish,q⟩
 | brk=>obtain⟨σ',H',I,q⟩:=h;exact⟨σ',H',I.unwish,q⟩
 | cont=>obtain⟨σ',H',I,q⟩:=h;exact⟨σ',H',I.unwish,q⟩
 | ret u=>obtain⟨v,σ',H',I,r,q⟩:=h;exact⟨v,σ',H',I.unwish,r,q⟩
theorem PSs.nox {st:List mP}{t:TS}(h:PSs X.nox st t):PSs X st t:=λZ9 s σ H D I hw =>
 lh (h Z9 s σ H D (I.wish _) hw) (λ_ _ q=>q.unwish) λ_ _ z=>lN z
end
section
variable {X:Cx}{st:mP}{rest:List mP}{t u:TS}{e:Expr}{te:TE}{pos:Pos}
def Lk:TS:=λD σ H=>D.nx σ H
def OG (t u:TS):TS:=λD σ H=>t { D with nx:=u D } σ H
theorem Ff:PSs X [] Lk:=λ_ _ σ H _ I h=>gL ⟨σ,H,I,h⟩
theorem C6 (h1:PS X st t)(h2:PSs X rest u):PSs X (st :: rest) (OG t u):=by
 intro Z9 s σ H D I h
 refine fO (nV (h1 Z9 s σ H { D with nx:=u D } I h) λf s1 q=>?_)
 cases f with
 | next =>
  obtain⟨σ',H',I',q⟩:=q
  exact h2 Z9 s1 σ' H' D I' q
 | ret v=>exact q
 | brk=>exact q
 | cont=>exact q
theorem Fe (h1:PS X st t):PSs X [st] t:=by
 intro Z9 s σ H D I h
 refine fO (nV (h1 Z9 s σ H D I h) λf s1 q=>?_)
 cases f with
 | next=>exact gL q
 | ret v=>exact q
 | brk=>exact q
 | cont=>exact q
theorem Inv.quiet {Z9:List (mS×Obj)}{σ:St}{H:Hp}{s:mn}(I:Inv X Z9 σ H s):interactive X.env=false:=by simp[interactive,I.ok.kind]
def Ll (te:TE):TS:=λD σ H=>te σ H λ_ H1=>D.nx σ H1
theorem Fg (he:PE X e te)(hs:swapsWith e none pos.line X.env=pure false:=by rfl):PS X (.Expr e pos) (Ll te):=by
 intro Z9 s σ H D I h
 exact wpAny_Expr_any (nV (he Z9 s σ H _ I h) λv s1 q1=>by obtain⟨x,H1,I1,r1,q1⟩:=q1;exact⟨σ,H1,I1,q1⟩) I.quiet hs
def OH (te:TE):TS:=λD σ H=>te σ H D.rt
theorem zb (he:PE X e te):PS X (.Return (some e) pos) (OH te):=by
 intro Z9 s σ H D I h
 exact wpAny_Return_some (nV (he Z9 s σ H _ I h) λv s1 q1=>by obtain⟨x,H1,I1,r1,q1⟩:=q1;exact⟨x,σ,H1,I1,r1,q1⟩)
def OM (c:TT)(t u:TS):TS:=λD σ H=>c σ H λb H1=>if b=true then t D σ H1 else u D σ H1
theorem LP {c:Expr}{a b:List mP}{tc:TT}(hc:PT X c tc)(ha:PSs X a t)(hb:PSs X b u):PS X (.If c a b pos) (OM tc t u):=by
 intro Z9 s σ H D I h
 refine wpAny_If (nV (hc Z9 s σ H _ I h) λd s1 ⟨H1,I1,q1⟩=>?_)
 cases d with
 | true=>exact ha Z9 s1 σ H1 D I1 q1
 | false=>exact hb Z9 s1 σ H1 D I1 q1
end
abbrev TG:=V->St->Hp->(St->Hp->Prop)->Prop
abbrev KM:=List V->St->Hp->(St->Hp->Prop)->Prop
def PG (X:Cx)(Z1:Expr)(t:TG):Prop :=
 ∀ (Z9:List (mS×Obj))(s:mn)(σ:St)(H:Hp)(v:V)(u:mF)(Q:St->Hp->Prop),Inv X Z9 σ H s->RelV v u->t v σ H Q ->
  wpAny (model X.prog X.w) X.A (assign Z1 X.env u) (λ_ s'=>∃ σ' H',Inv X Z9 σ' H' s'/\Q σ' H') X.xe s
def M6 (X:Cx)(ts:List Expr)(t:KM):Prop :=
 ∀ (Z9:List (mS×Obj))(s:mn)(σ:St)(H:Hp)(vs:List V)(us:List mF)(Q:St->Hp->Prop),Inv X Z9 σ H s->Vals vs us->t vs σ H Q ->
  wpAny (model X.prog X.w) X.A (assignInOrder ((assignEach ts X.env).map (·.2)) us) (λ_ s'=>∃ σ' H',Inv X Z9 σ' H' s'/\Q σ' H') X.xe s
abbrev KL:=V->V->V->Hp->(Hp->Prop)->Prop
def M5 (X:Cx)(t:KL):Prop :=
 ∀ (Z9:List (mS×Obj))(s:mn)(σ:St)(H:Hp)(o i v:V)(ov iv u:mF)(Q:Hp->Prop),Inv X Z9 σ H s->RelV o ov->RelV i iv->RelV v u->t o i v H Q ->
  wpAny (model X.prog X.w) X.A (setItem ov iv u) (λ_ s'=>∃ H',Inv X Z9 σ H' s'/\Q H') X.xe s
abbrev Si:=V->V->Hp->VK->Prop
def PIp (X:Cx)(op:lW)(t:Si):Prop :=
 ∀ (Z9:List (mS×Obj))(s:mn)(σ:St)(H:Hp)(x y:V)(v u:mF)(Q:VK),Inv X Z9 σ H s->RelV x v->RelV y u->t x y H Q ->
  wpAny (model X.prog X.w) X.A (inplaceOp op v u) (EP X Z9 σ Q) X.xe s
section
variable {X:Cx}{pos:Pos}
def qE (i:Nat):TG:=λv σ H Q=>Q (σ.set i (some v)) H
theorem Fl {i:Nat}{x:Str}(hN:X.N.Nodup)(hi:X.N[i]?=some x)(hx:Loc X.env.scope x)(hf:X.fn x=true ∨ X.env.scope.names.lookup x=some .local:=by first|exact .inl rfl|exact .inr rfl|assumption):PG X (.Name x pos) (qE i):=by
 intro Z9 s σ H v u Q I r h
 exact eP (qN I hN hi hx r (λs' I'=>⟨_,H,I',h⟩) hf)
def Jj:KM:=λvs σ H Q=>vs=[]/\Q σ H
inductive gCons (t:TG)(u:KM)(vs:List V)(σ:L2.St)(H:Hp)(Q:(L2.St->Hp->Prop)):Prop
 | mk (v:_)(r:_)(_:vs=v :: r)(_:t v σ H λσ' H'=>u r σ' H' Q):gCons t u vs σ H Q
theorem Ar:M6 X [] Jj:=by
 intro Z9 s σ H vs us Q I r h
 obtain⟨e,h⟩:=h
 subst e
 cases r
 exact eS ⟨σ,H,I,h⟩
theorem tW {e:Expr}{es:List Expr}{t:TG}{u:KM}(h1:PG X e t)(h2:M6 X es u)
  (hs:(assignEach (e :: es) X.env).map (·.2)=assign e X.env :: (assignEach es X.env).map (·.2):=by rfl):M6 X (e :: es) (gCons t u):=by
 intro Z9 s σ H vs us Q I r h
 obtain⟨v,vr,e1,h⟩:=h
 subst e1
 cases r with
 | cons r rr =>
  rw[hs]
  refine dw (nV (h1 Z9 s σ H _ _ _ I r h) λ_ s1 ⟨σ1,H1,I1,q1⟩=>?_)
  exact h2 Z9 s1 σ1 H1 _ _ Q I1 rr q1
inductive gTup (K:ke) (n:Nat)(t:KM)(v:V)(σ:L2.St)(H:Hp)(Q:(L2.St->Hp->Prop)):Prop
 | mk (a:_)(xs:_)(_:v=.ref a)(_:SqT K H a xs)(_:xs.length=n)(_:t xs σ H Q):gTup K n t v σ H Q
theorem Dd {es:List Expr}{k:Nat}{t:KM}{n:Nat}(hc:X.calm=true)(h:M6 X es t)
  (hn:(assignEach es X.env).length=n:=by rfl)(hst:(assignEach es X.env).findIdx? (·.1)=none:=by rfl):PG X (.Tuple es k pos) (gTup X.K n t):=by
 intro Z9 s σ H v u Q I r hw
 obtain⟨a,xs,e1,hq,hl,hw⟩:=hw
 subst e1
 cases r
 obtain⟨Z7,rv,ht,hz⟩:=I.tuple hq
 refine assign_Tuple_tuple (I.ok.hd hc) ht (by simp[hn,<- hl,rv.length]) hst λh' hx=>?_
 have I1:Inv X Z9 σ H { s with heap:=h' }:=I.kept (t':=s.toks) λb o e=>hx b o (kj (kI e)) e
 exact h Z9 _ σ H xs _ Q I1 (by simpa using rv) hw
def O5 (to ti:TE)(t:KL):TG:=λv σ H Q=>to σ H λo H1=>ti σ H1 λi H2=>t o i v H2 λH3=>Q σ H3
theorem IC {o i:Expr}{to ti:TE}{t:KL}(ho:PE X o to)(hi:PE X i ti)(hs:M5 X t)
  (ha:∀ v,assign (.Subscript o i pos) X.env v=(do
   let ov <- holding [v] (eval o X.env)
   let iv <- holding [v,ov] (eval i X.env)
   standAt pos
   holding [v,ov,iv] (setItem ov iv v)
   release [v,ov,iv] []):=by intro _;rfl):PG X (.Subscript o i pos) (O5 to ti t):=by
 intro Z9 s σ H v u Q I r h
 rw[ha]
 refine lq (jq (nV (ho Z9 s σ H _ I h) λov s1 ⟨x,H1,I1,r1,q1⟩=>?_))
 refine lq (jq (nV (hi Z9 s1 σ H1 _ I1 q1) λiv s2 ⟨y,H2,I2,r2,q2⟩=>?_))
 refine lq (jo (lq (jq (nV (hs Z9 s2 σ H2 x y v ov iv u _ I2 r1 r2 r q2) λ_ s3 ⟨H3,I3,q3⟩=>?_))))
 exact wpAny_release ⟨σ,H3,I3,q3⟩
def wj (te:TE)(g:TG):TS:=λD σ H=>te σ H λx H1=>g x σ H1 D.nx
theorem zc {tg e:Expr}{te:TE}{g:TG}(he:PE X e te)(hg:PG X tg g)(hs:swapsWithSole [tg] e pos.line X.env=pure false:=by rfl)(hw:swappedStores [tg] e X.env=pure none:=by rfl)
  (h1:(assignEach [tg] X.env).map (·.2)=[assign tg X.env]:=by rfl):PS X (.Assign [tg] e pos) (wj te g):=by
 intro Z9 s σ H D I h
 refine wpAny_Assign_stores (nV (he Z9 s σ H _ I h) λv s1 ⟨x,H1,I1,r1,q1⟩=>?_) hs hw
 rw[h1]
 exact nV (hg Z9 s1 σ H1 x v _ I1 r1 q1) λ_ s2 q=>q
theorem Iw {i:Nat}{x:Str}{e:Expr}{te:TE}{pos':Pos}(hN:X.N.Nodup)(hi:X.N[i]?=some x)(hx:Loc X.env.scope x)(he:PE X e te)(hs:swapsWith e (some (.Name x pos')) pos.line X.env=pure false:=by rfl)(hf:X.fn x=true ∨ X.env.scope.names.lookup x=some .local:=by first|exact .inl rfl|exact .inr rfl|assumption) :
  PS X (.Assign [.Name x pos'] e pos) (wj te (qE i)):=by
 intro Z9 s σ H D I h
 refine wpAny_Assign_Name (nV (he Z9 s σ H _ I h) λv s1 ⟨y,H1,I1,r1,q1⟩=>?_) hs
 exact qN I1 hN hi hx r1 (λs2 I2=>⟨_,H1,I2,q1⟩) hf
def OI (i j:Nat)(ta:TA):TS:=λD σ H=>ta σ H λvs H1=>∃ v w,vs=[v,w]/\D.nx ((σ.set i (some v)).set j (some w)) H1
theorem Ix {i j:Nat}{x y:Str}{a b:Expr}{ta:TA}{px py pt:Pos} {kt k2 pt2}(hc:X.calm=true)(hN:X.N.Nodup)(hi:X.N[i]?=some x)(hj:X.N[j]?=some y)(hij:i≠j)
  (hx:X.env.scope.names.lookup x=some .local)(hy:X.env.scope.names.lookup y=some .local)(ha:PA X [a,b] ta)
  (hw:swappedStores [.Tuple [.Name x px,.Name y py] kt pt] (.Tuple [a,b] k2 pt2) X.env=pure (some [x,y]))
  (hs:swapsWithSole [.Tuple [.Name x px,.Name y py] kt pt] (.Tuple [a,b] k2 pt2) pos.line X.env=pure false:=by rfl) :
  PS X (.Assign [.Tuple [.Name x px,.Name y py] kt pt] (.Tuple [a,b] k2 pt2) pos) (OI i j ta):=by
 intro Z9 s σ H D I h
 rw[exec_Assign_arm]
 refine lq (jo ?_)
 rw[hs]
 refine lq (lg ?_)
 rw[if_neg (by decide)]
 refine lq (Tuple_ (nV (ha _ Z9 s σ H _ I h) λus s1 ⟨vs,H1,I1,r1,q1⟩=>?_))
 obtain⟨v,w,e1,q1⟩:=q1
 subst e1
 obtain⟨u1,u2,rfl,rv,rw'⟩:∃ u1 u2,us=[u1,u2]/\RelV v u1/\RelV w u2:=by
  cases r1 with
  | cons p q =>
   cases q with
   | cons p' q' =>
    cases q'
    exact⟨_,_,rfl,p,p'⟩
 refine eO ?_ (by show 2<=sizeLine;decide)
 have I2:Inv X Z9 σ H1 { s1 with heap:=s1.heap.push { cls:=.type "tuple",data:=.seq [u1,u2].toArray } }:=I1.kept (t':=s1.toks) λb o e=>bQ _ e
 rw[hw]
 refine lq (lg ?_)
 show wpAny (model X.prog X.w) X.A (do rule "assign.swapped-stores";let items <- unpackItems (.ref s1.heap.objs.size) 2 none;assignInOrder [λv=>bindName X.env y v,λv=>bindName X.env x v] items.reverse;pure Flow.next) _ _ _
 refine lq (k9 (lq (unpackItems_tuple (items:=#[u1,u2]) (I.ok.hd hc) (lQ s1.heap _) λh' hx'=>?_)))
 have I3:=I2.kept (h':=h') (t':=s1.toks) λb o e=>hx' b o (kj (kI e)) e
 show wpAny _ _ (assignInOrder [λv=>bindName X.env y v,λv=>bindName X.env x v] [u2,u1] >>= λ_=>pure Flow.next) _ _ _
 refine lq (dw (iQ (qN I3 hN hj (.inl hy) rw' (λs2 I4=>?_) (.inr hy))))
 refine dw (iQ (qN I4 hN hi (.inl hx) rv (λs3 I5=>eS (lg ?_)) (.inr hx)))
 rw[List.set_comm _ _ (ma hij)] at I5
 exact⟨_,H1,I5,q1⟩
inductive tAug (i:Nat)(te:TE)(ti:Si)(D:Ends)(σ:L2.St)(H:Hp):Prop
 | mk (x:_)(_:σ[i]?=some (some x))(_:te σ H λy H1=>ti x y H1 λz H2=>D.nx (σ.set i (some z)) H2):tAug i te ti D σ H
theorem Iz {i:Nat}{x:Str}{e:Expr}{te:TE}{op:lW}{ti:Si}{pos':Pos}(hN:X.N.Nodup)(hi:X.N[i]?=some x)(hx:Loc X.env.scope x)(he:PE X e te)(ho:PIp X op ti)(hf:X.fn x=true ∨ X.env.scope.names.lookup x=some .local:=by first|exact .inl rfl|exact .inr rfl|assumption) :
  PS X (.AugAssign (.Name x pos') op e pos) (tAug i te ti):=by
 intro Z9 s σ H D I h
 obtain⟨v,e1,h⟩:=h
 obtain⟨m,hn,hl⟩:=I.loc
 have vis:K8 X.env.scope x:=by rcases hx with k|k;exact .inl k;exact .inr (.inl k)
 obtain⟨u,r,l⟩:=hl i x v hi e1 vis
 refine wpAny_AugAssign_Name ?_
 have go:wpAny (model X.prog X.w) X.A (eval e X.env) (λw s₂=>wpAny (model X.prog X.w) X.A (inplaceOp op u w) (λr s₃=>wpAny (model X.prog X.w) X.A (storeName X.env x r) (λ_=>SP X Z9 D .next) X.xe s₃) X.xe s₂) X.xe s:=by
  refine nV (he Z9 s σ H _ I h) λw s1 q1=>?_;obtain⟨y,H1,I1,r1,q1⟩:=q1
  refine nV (ho Z9 s1 σ H1 v y u w _ I1 r r1 q1) λz s2 q2=>?_;obtain⟨zv,H2,I2,r2,q2⟩:=q2
  exact qN I2 hN hi hx r2 (λs3 I3=>⟨_,H2,I3,q2⟩) hf
 rcases l with⟨hk,hm⟩|⟨hk,c,hc,hcell⟩
 ·exact cv I.ok.kind hk hn hm go
 ·rcases hk with hk|hk
  ·exact cU I.ok.kind hk hc hcell go
  ·rcases hx with k|k
   ·have:X.env.scope.names.lookup x=some .free:=hk
    rw[k] at this;cases this
   ·have:X.env.scope.names.lookup x=some .free:=hk
    rw[k] at this;cases this
inductive ipI (f:Int->Int->Int)(x:V)(y:V)(H:Hp)(Q:VK):Prop
 | mk (i:_)(j:_)(_:x=.int i)(_:y=.int j)(_:Q (.int (f i j)) H):ipI f x y H Q
theorem Ji:PIp X .Add (ipI λi j=>i+j):=by
 intro Z9 s σ H x y v u Q I r1 r2 h
 obtain⟨i,j,e1,e2,q⟩:=h
 subst e1;subst e2
 obtain⟨t,rfl⟩:=r1
 obtain⟨t',rfl⟩:=r2
 exact iadd_int ⟨.int _,H,I.tok _,⟨_,rfl⟩,q⟩
end
section
variable {X:Cx}{pos:Pos}
inductive tWhile (c:TT)(tb:TS)(D:Ends)(σ:L2.St)(H:Hp):Prop
 | mk (W:Nat->St->Hp->Prop)(_:(∃ m,W m σ H))(_:∀ m σ H,W m σ H->c σ H λb H1=>if b=true then ∃ N:St->Hp->Prop,(∀ σ' H',N σ' H'->∃ m',m'<m/\W m' σ' H')/\tb { D with nx:=N,ct:=N,bk:=D.nx } σ H1 else D.nx σ H1):tWhile c tb D σ H
theorem C7 {c:Expr}{body:List mP}{tc:TT}{tb:TS}(hp:PassesOwn (model X.prog X.w) X.A X.env X.xe)(hc:PT X c tc)(hb:PSs X body tb):PS X (.While c body [] pos) (tWhile tc tb):=by
 intro Z9 s σ H D I h
 obtain⟨W,⟨m0,w0⟩,turn⟩:=h
 refine wpAny_While (codeAny_whileLoop (λn s'=>∃ σ' H',Inv X Z9 σ' H' s'/\W n σ' H') ?_ m0 ⟨σ,H,I,w0⟩)
 rintro n s1 ⟨σ1,H1,I1,w1⟩
 refine gI hp (nV (hc Z9 s1 σ1 H1 _ I1 (turn n σ1 H1 w1)) λb s2 ⟨H2,I2,q2⟩=>?_)
 cases b with
 | true =>
  obtain⟨N,hN,q2⟩:=q2
  rw[if_pos rfl]
  refine gI hp (nV (hb Z9 s2 σ1 H2 _ I2 q2) λf s3 q3=>?_)
  cases f with
  | next =>
   obtain⟨σ3,H3,I3,n3⟩:=q3
   obtain⟨m',hm,w3⟩:=hN σ3 H3 n3
   exact⟨m',hm,σ3,H3,I3,w3⟩
  | cont =>
   obtain⟨σ3,H3,I3,n3⟩:=q3
   obtain⟨m',hm,w3⟩:=hN σ3 H3 n3
   exact⟨m',hm,σ3,H3,I3,w3⟩
  | brk=>exact q3
  | ret v=>exact q3
 | false =>
  rw[if_neg eB]
  exact gL ⟨σ1,H2,I2,q2⟩
end
structure It where
 go:Nat->Hp->Prop
 yld:Nat->Hp->V->Hp->Prop
 stop:Nat->Hp->Prop
def tm (X:Cx)(Z9:List (mS×Obj))(H:Hp)(b:mS):Prop :=
 H b=none/\b≠X.env.locals/\b ∉ X.fs/\(b∈X.ex ∨ X.s₀.heap.objs.size<=b)/\(∀ x c,X.env.cells.lookup x=some c->c≠b)/\∀ p∈X.pn++Z9,p.1≠b
theorem Inv.fpOk {X:Cx}{Z9:List (mS×Obj)}{σ:St}{H H':Hp}{s:mn}{b:mS}(I:Inv X Z9 σ H s)(hb:s.heap.objs.size<=b)(hn:H' b=none):tm X Z9 H' b:=by
 refine⟨hn,kl (dH I.lt hb),I.nofs hb,.inr (kq I.sz hb),λx c e z=>?_,λp hp z=>?_⟩
 ·obtain⟨v,q⟩:=I.cell x c e
  exact absurd (dH q.lt (by rw[z];exact hb)) (jJ _)
 ·exact absurd (dH (kI (I.pin p hp).1) (by rw[z];exact hb)) (jJ _)
structure Turn (P:l8)(w:mD)(K:ke)(tg:Expr)(J:It)(fp:List mS)(it:mS)(tn:Nat->mQ->Prop):Prop where
 mem:it∈fp
 obj:∀ i h,tn i h->∀ b∈fp,∃ o,h.get? b=some o/\∀ v,o.data≠.cell v
 keep:∀ i h h',tn i h->(∀ b∈fp,∀ o,h.get? b=some o->h'.get? b=some o)->tn i h'
 item:∀ (X:Cx),X.prog=P->X.w=w->X.K=K->X.calm=true->∀ (i:Nat)(Z9:List (mS×Obj))(s:mn)(σ:St)(H:Hp)(E:mF->mn->Prop),Inv X Z9 σ H s->(∀ b∈fp,tm X Z9 H b)->tn i s.heap->J.go i H ->
  wpAny (model P w) X.A (pyNext (.ref it)) (λr s1=>∃ u,r=some u /\
   wpAny (model P w) X.A (letOwnedTupleGo tg (.ref it) u) (λ_ s2=>∃ x H',Inv X Z9 σ H' s2/\RelV x u/\J.yld i H x H'/\tn (i+1) s2.heap/\∀ b∈fp,H' b=none) E s1) E s
 done:∀ (X:Cx),X.prog=P->X.w=w->X.K=K->X.calm=true->∀ (i:Nat)(Z9:List (mS×Obj))(s:mn)(σ:St)(H:Hp)(E:mF->mn->Prop),Inv X Z9 σ H s->(∀ b∈fp,tm X Z9 H b)->tn i s.heap->J.stop i H ->
  wpAny (model P w) X.A (pyNext (.ref it)) (λr s1=>r=none/\Inv X Z9 σ H s1) E s
 self:∀ (A:mC) (i:Nat)(s:mn)(Q:mF->mn->Prop)(E:mF->mn->Prop),tn i s.heap->Q (.ref it) s->wpAny (model P w) A (pyIter (.ref it)) Q E s
abbrev TI:=St->Hp->(It->Hp->Prop)->Prop
inductive PIE (X:Cx)(Z9:List (mS×Obj))(σ:St)(tg:Expr)(R:It->Hp->Prop)(itv:mF)(s2:mn):Prop
 | mk (it:mS)(fp:List mS)(tn:Nat->mQ->Prop)(J:It)(H':Hp)(_:itv=.ref it)(_:Inv X Z9 σ H' s2)(_:Turn X.prog X.w X.K tg J fp it tn)(_:tn 0 s2.heap)(_:(∀ b∈fp,tm X Z9 H' b))(_:R J H'):PIE X Z9 σ tg R itv s2
def PI (X:Cx)(tg Z5:Expr)(wi:TI):Prop :=
 ∀ (Z9:List (mS×Obj))(s:mn)(σ:St)(H:Hp)(R:It->Hp->Prop),Inv X Z9 σ H s->wi σ H R ->
  wpAny (model X.prog X.w) X.A (eval Z5 X.env) (λv s1=>wpAny (model X.prog X.w) X.A (pyIter v) (PIE X Z9 σ tg R) X.xe s1) X.xe s
theorem AM {M : mI} {A : mC} {E : mF -> mn -> Prop} {s : mn} {tg : Expr} {it : mS} {u : mF} {o : Obj} {n : String} {vs : Array mF} {Q : Unit -> mn -> Prop} (ho : s.heap.get? it = some o) (hc : o.cls = .type n) (hd : o.data = .fields vs)
    (hn:["enumerate","zip","dict_itemiterator","dict_reverseitemiterator","odict_iterator","itertools.zip_longest","itertools.pairwise"].contains n=false) (hQ:Q () s):wpAny M A (letOwnedTupleGo tg (.ref it) u) Q E s:=by
  unfold letOwnedTupleGo
  cases tg<;>first
    | exact lg hQ
    | (cases u <;> first
        | exact lg hQ
        | (refine lq (lj ho ?_)
           rw [hc, hd]
           show wpAny M A (if (["enumerate", "zip", "dict_itemiterator", "dict_reverseitemiterator", "odict_iterator", "itertools.zip_longest", "itertools.pairwise"].contains n && vs[0]? == some (rawInt _)) = true then _ else _) Q E s
           rw [if_neg (by intro h; rw [hn, Bool.false_and] at h; cases h)]
           exact lg hQ))
def Itl (K:ke)(a:mS):It :=
 ⟨λi H=>∃ xs x,SqL K H a xs/\xs[i]?=some x,λi H x H'=>H'=H/\∀ xs,SqL K H a xs->xs[i]?=some x,λi H=>∃ xs,SqL K H a xs/\xs.length<=i⟩
def Itt (K:ke)(a:mS):It :=
 ⟨λi H=>∃ xs x,SqT K H a xs/\xs[i]?=some x,λi H x H'=>H'=H/\∀ xs,SqT K H a xs->xs[i]?=some x,λi H=>∃ xs,SqT K H a xs/\xs.length<=i⟩
def Na (lo:Int) (n:Nat):It:=⟨λi _=>i<n,λi H x H'=>H'=H/\x=.int (lo+i),λi _=>n<=i⟩
theorem Bo {P:l8}{w:mD}{K:ke}{tg:Expr}(a it:mS):Turn P w K tg (Itl K a) [it] it (λi h=>h.IsListIter it a i) where
 mem:=by simp
 obj:=λi h st b hb=>by
  have e:b=it:=by simpa using hb
  subst e
  obtain⟨o,e,c,d⟩:=st
  exact⟨o,e,λv z=>by rw[d] at z;cases z⟩
 keep:=λi h h' st k=>st.at λo e=>k it (by simp) o e
 item:=by
  intro X hP hw hK hc i Z9 s σ H E I hf st hg
  subst hP hw hK
  obtain⟨xs,x,hq,hx⟩:=hg
  obtain⟨Z7,rv,p,hz⟩:=I.list hq
  obtain⟨u,hu,ru⟩:=rv.get hx
  obtain⟨f0,f1,f2,f3,f4,f5⟩:=hf it (by simp)
  refine wpAny_pyNext_list_item st p.isList (x:=u) (by simpa using hu) λh' st' sb=>?_
  have I1:Inv X Z9 σ H { s with heap:=h' }:=I.turned (t':=s.toks) (λb o hb e=>(sb.2 b hb).trans e) f0 f1 f3 f4 f5
  obtain⟨o,e,c,d⟩:=id st'
  exact⟨u,rfl,AM (s:={ s with heap:=h' }) e c d (by decide) ⟨x,H,I1,ru,⟨rfl,λys hy=>by rw[I.list_inj hy hq];exact hx⟩,st',λb hb=>(hf b hb).1⟩⟩
 done:=by
  intro X hP hw hK hc i Z9 s σ H E I hf st hg
  subst hP hw hK
  obtain⟨xs,hq,hx⟩:=hg
  obtain⟨Z7,rv,p,hz⟩:=I.list hq
  obtain⟨f0,f1,f2,f3,f4,f5⟩:=hf it (by simp)
  have hl:=rv.length
  exact wpAny_pyNext_list_end (I.ok.hd hc) st p.isList (by simp;lia) λh' eb=>⟨rfl,I.turned (t':=s.toks) (λb o hb e=>eb b o hb e) f0 f1 f3 f4 f5⟩
 self:=λ_ _ _ _ _ st h=>wpAny_pyIter_listiter st h
theorem yQ {P:l8}{w:mD}{K:ke}{tg:Expr}(a it:mS):Turn P w K tg (Itt K a) [it] it (λi h=>h.IsTupleIter it a i) where
 mem:=by simp
 obj:=λi h st b hb=>by
  have e:b=it:=by simpa using hb
  subst e
  obtain⟨o,e,c,d⟩:=st
  exact⟨o,e,λv z=>by rw[d] at z;cases z⟩
 keep:=λi h h' st k=>st.at λo e=>k it (by simp) o e
 item:=by
  intro X hP hw hK hc i Z9 s σ H E I hf st hg
  subst hP hw hK
  obtain⟨xs,x,hq,hx⟩:=hg
  obtain⟨Z7,rv,p,hz⟩:=I.tuple hq
  obtain⟨u,hu,ru⟩:=rv.get hx
  obtain⟨f0,f1,f2,f3,f4,f5⟩:=hf it (by simp)
  refine wpAny_pyNext_tuple_item st (show s.heap.IsTuple a Z7.toArray from p) (x:=u) (by simpa using hu) λh' st' sb=>?_
  have I1:Inv X Z9 σ H { s with heap:=h' }:=I.turned (t':=s.toks) (λb o hb e=>(sb.2 b hb).trans e) f0 f1 f3 f4 f5
  obtain⟨o,e,c,d⟩:=id st'
  exact⟨u,rfl,AM (s:={ s with heap:=h' }) e c d (by decide) ⟨x,H,I1,ru,⟨rfl,λys hy=>by rw[I.tuple_inj hy hq];exact hx⟩,st',λb hb=>(hf b hb).1⟩⟩
 done:=by
  intro X hP hw hK hc i Z9 s σ H E I hf st hg
  subst hP hw hK
  obtain⟨xs,hq,hx⟩:=hg
  obtain⟨Z7,rv,p,hz⟩:=I.tuple hq
  obtain⟨f0,f1,f2,f3,f4,f5⟩:=hf it (by simp)
  have hl:=rv.length
  exact wpAny_pyNext_tuple_end (I.ok.hd hc) st (show s.heap.IsTuple a Z7.toArray from p) (by simp;lia) λh' eb=>⟨rfl,I.turned (t':=s.toks) (λb o hb e=>eb b o hb e) f0 f1 f3 f4 f5⟩
 self:=λ_ _ _ _ _ st h=>wpAny_pyIter_tupleiter st h
theorem yR {P:l8}{w:mD}{K:ke}{tg:Expr}(it:mS) (lo:Int) (n:Nat):Turn P w K tg (Na lo n) [it] it (λi h=>k6 h it (lo+(i:Nat)*1) ((n:Int)-(i:Nat)) 1) where
 mem:=by simp
 obj:=λi h st b hb=>by
  have e:b=it:=by simpa using hb
  subst e
  exact⟨_,st,λv z=>by
   have z':Data.fields _=Data.cell v:=z
   cases z'⟩
 keep:=λi h h' st k=>k it (by simp) _ st
 item:=by
  intro X hP hw hK hc i Z9 s σ H E I hf st hg
  subst hP hw hK
  obtain⟨f0,f1,f2,f3,f4,f5⟩:=hf it (by simp)
  have W:=Walks.range (prog:=X.prog) (w:=X.w) (I.ok.hd hc) it lo 1 n
  refine W.item i s _ _ hg st λv h' tk hv st' kk=>?_
  obtain⟨t,rfl⟩:=hv
  have I1:Inv X Z9 σ H { s with heap:=h',toks:=tk }:=I.turned (λb o hb e=>kk b o (by simpa using hb) e) f0 f1 f3 f4 f5
  refine⟨_,rfl,AM (s:={ s with heap:=h',toks:=tk }) (n:="range_iterator") st' rfl rfl (by decide) ⟨.int (lo+i),H,I1,⟨t,?_⟩,⟨rfl,rfl⟩,st',λb hb=>(hf b hb).1⟩⟩
  rw[Int.mul_one]
 done:=by
  intro X hP hw hK hc i Z9 s σ H E I hf st hg
  subst hP hw hK
  obtain⟨f0,f1,f2,f3,f4,f5⟩:=hf it (by simp)
  exact bA (I.ok.hd hc) st (by have:n<=i:=hg;lia) λh' eb=>⟨rfl,I.turned (t':=s.toks) (λb o hb e=>eb b o hb e) f0 f1 f3 f4 f5⟩
 self:=λ_ _ _ _ _ st h=>bB st h
end L2
namespace L2
open PySem PySem.Spec PyProof.Rows
section
variable {X:Cx}{tg:Expr}
theorem xK {Z9:List (mS×Obj)}{σ:St}{H:Hp}{s:mn}{R:It->Hp->Prop}{E:mF->mn->Prop}{lo hi:Int}{t u v:Tok}{tk:Nat}(I:Inv X Z9 σ H s)(h1:-(2 ^ 62)<=lo)(h2:lo<2 ^ 62)(h3:-(2 ^ 62)<=hi)(h4:hi<2 ^ 62)
  (q:R (Na lo (hi-lo).toNat) H):wpAny (model X.prog X.w) X.A (pyIter (.ref s.heap.objs.size)) (PIE X Z9 σ tg R) E { s with heap:=s.heap.push { cls:=.type "range",data:=.fields #[.int lo t,.int hi u,.int 1 v] },toks:=tk }:=by
 refine wpAny_pyIter_range (IsRange.new ..) (small_one h1 h2 h3 h4) ?_
 have I1:Inv X Z9 σ H { s with heap:=s.heap.push { cls:=.type "range",data:=.fields #[.int lo t,.int hi u,.int 1 v] },toks:=tk }:=I.kept λb o e=>bQ _ e
 refine⟨(s.heap.push { cls:=.type "range",data:=.fields #[.int lo t,.int hi u,.int 1 v] }).objs.size,[(s.heap.push { cls:=.type "range",data:=.fields #[.int lo t,.int hi u,.int 1 v] }).objs.size],_,_,H,rfl,
  I1.kept (t':=tk) λb o e=>bQ _ e,yR _ lo (hi-lo).toNat,?_,λb hb=>?_,q⟩
 ·have e1:lo+((0:Nat):Int)*1=lo:=by simp
  have e2:(((hi-lo).toNat:Nat):Int)-((0:Nat):Int)=bz lo hi 1:=by rw[jw];split<;>lia
  show k6 _ _ (lo+((0:Nat):Int)*1) ((((hi-lo).toNat:Nat):Int)-((0:Nat):Int)) 1
  rw[e1,e2]
  exact da _ rfl
 ·have e:b=(s.heap.push { cls:=.type "range",data:=.fields #[.int lo t,.int hi u,.int 1 v] }).objs.size:=by simpa using hb
  subst e
  exact I1.fpOk (kW _) (I1.hok.fresh (kW _))
def Mq (ta:TA):TI:=λσ H R=>ta σ H λvs H1=>∃ j:Int,vs=[.int j]/\-(2 ^ 62)<=j/\j<2 ^ 62/\R (Na 0 j.toNat) H1
def iRng2 (ta:TA):TI:=λσ H R=>ta σ H λvs H1=>∃ i j:Int,vs=[.int i,.int j]/\(-(2 ^ 62)<=i/\i<2 ^ 62/\-(2 ^ 62)<=j/\j<2 ^ 62)/\R (Na i (j-i).toNat) H1
theorem BF {a:Expr}{ta:TA}{p pos:Pos}(hg:Gl X "range")(hm:X.mg "range" = none)(ha:PA X [a] ta)(hs:starEach [a] X.env=[(false,eval a X.env)]:=by rfl):PI X tg (.Call (.Name "range" p) [a] [] pos) (Mq ta):=by
 intro Z9 s σ H R I h
 refine mO (pH I hg hm lB (aj (nV (ha pos Z9 s σ H _ I h) λus s1 ⟨vs,H1,I1,r1,q1⟩=>?_) hs rfl))
 obtain⟨j,e,q1,q2,q⟩:=q1
 subst e
 cases r1 with
 | cons r rr =>
  cases rr
  obtain⟨t,rfl⟩:=r
  exact call_range_1 (xK I1 ⋯ ⋯ q1 q2 (by simpa using q))
theorem BE {a b:Expr}{ta:TA}{p pos:Pos}(hg:Gl X "range")(hm:X.mg "range" = none)(ha:PA X [a,b] ta)(hs:starEach [a,b] X.env=[(false,eval a X.env),(false,eval b X.env)]:=by rfl)(hs2:starEach [b] X.env=[(false,eval b X.env)]:=by rfl) :
  PI X tg (.Call (.Name "range" p) [a,b] [] pos) (iRng2 ta):=by
 intro Z9 s σ H R I h
 refine mO (pH I hg hm lB (aj (nV (ha pos Z9 s σ H _ I h) λus s1 ⟨vs,H1,I1,r1,q1⟩=>?_) (by rw[hs,hs2]) (by rw[hs2];rfl)))
 obtain⟨i,j,e,⟨q1,q2,q3,q4⟩,q⟩:=q1
 subst e
 cases r1 with
 | cons r rr =>
  cases rr with
  | cons r' rr =>
   cases rr
   obtain⟨t,rfl⟩:=r
   obtain⟨t',rfl⟩:=r'
   exact call_range_2 (xK I1 q1 q2 q3 q4 q)
def ON (wi:TI)(g:TG)(tb:TS):TS:=λD σ H=>wi σ H λJ H1=>∃ W:Nat->Nat->St->Hp->Prop,(∃ m,W 0 m σ H1)/\∀ i m σ H,W i m σ H ->
 (J.stop i H/\D.nx σ H) ∨ (J.go i H/\∃ N:St->Hp->Prop,(∀ σ' H',N σ' H'->∃ m',m'<m/\W (i+1) m' σ' H')/\∀ x H',J.yld i H x H'->g x σ H' λσ2 H2=>tb { D with nx:=N,ct:=N,bk:=D.nx } σ2 H2)
def tV (fp:List mS)(h:mQ):List (mS×Obj):=fp.filterMap λb=>(h.get? b).map λo=>(b,o)
theorem qq {fp:List mS}{h:mQ}{b:mS}{o:Obj}(hb:b∈fp)(e:h.get? b=some o):(b,o)∈tV fp h:=dP.mpr ⟨b,hb,by rw[e];rfl⟩
theorem BK {fp:List mS}{h:mQ}{p:mS×Obj}(hp:p∈tV fp h):p.1∈fp/\h.get? p.1=some p.2:=by
 obtain⟨b,hb,e⟩:=dP.mp hp
 cases q:h.get? b with
 | none=>rw[q] at e;cases e
 | some o =>
  rw[q] at e
  have e':(b,o)=p:=gX e
  subst e'
  exact⟨hb,q⟩
theorem Inv.pinned {Z9:List (mS×Obj)}{σ:St}{H:Hp}{s:mn}{fp:List mS}(I:Inv X Z9 σ H s)(hf:∀ b∈fp,tm X Z9 H b)(ho:∀ b∈fp,∃ o,s.heap.get? b=some o/\∀ v,o.data≠.cell v):Inv X (Z9++tV fp s.heap) σ H s :=
 I.pins_of λp hp=>(ik.mp hp).elim (λz=>I.pin p (ca _ z)) λz=>by
  obtain⟨hb,e⟩:=BK z
  obtain⟨f0,f1,f2,_⟩:=hf p.1 hb
  obtain⟨o,e',d⟩:=ho p.1 hb
  rw[e] at e';cases e'
  exact⟨e,f0,f1,f2,d⟩
theorem Inv.unpinned {Z9 pl:List (mS×Obj)}{σ:St}{H:Hp}{s:mn}(I:Inv X (Z9++pl) σ H s):Inv X Z9 σ H s:=I.pins_of λp hp=>I.pin p (ca _ (cJ _ hp))
theorem Iy {Z5:Expr}{body:List mP}{wi:TI}{g:TG}{tb:TS}{pos:Pos}(hp:PassesOwn (model X.prog X.w) X.A X.env X.xe)(hc:X.calm=true)(hi:PI X tg Z5 wi)(hg:PG X tg g)(hb:PSs X body tb)
  (hs:∀ x,foldedSetIterable Z5 X.env x=pure x:=by intro _;rfl):PS X (.For tg Z5 body [] pos) (ON wi g tb):=by
 intro Z9 s σ H D I h
 refine wpAny_For (nV (hi Z9 s σ H _ I h) λv s1 h1=>nV h1 λitv s2 h2=>?_) hs
 obtain⟨it,fp,tn,J,H2,e,I2,T,st2,f2,W,⟨m0,w0⟩,turn⟩:=h2
 subst e
 -- what stays true of the iterator's objects through the loop
 have stat:∀ {H':Hp},(∀ b∈fp,H' b=none)->∀ b∈fp,tm X Z9 H' b:=λhn b hb=>⟨hn b hb,(f2 b hb).2⟩
 refine codeAny_forLoop_any (λn s'=>∃ i σ' H',Inv X Z9 σ' H' s'/\tn i s'.heap/\(∀ b∈fp,H' b=none)/\W i n σ' H') ?_ m0 ⟨0,σ,H2,I2,st2,λb hb=>(f2 b hb).1,w0⟩
 rintro n s3 ⟨i,σ3,H3,I3,st3,fr3,w3⟩
 rcases turn i n σ3 H3 w3 with⟨stop,qn⟩|⟨go,N,hN,step⟩
 ·refine gI hp (nV (T.done X rfl rfl rfl hc i Z9 s3 σ3 H3 X.xe I3 (stat fr3) st3 stop) λr s4 ⟨hr,I4⟩=>?_)
  subst hr
  exact gL ⟨σ3,H3,I4,qn⟩
 ·refine gI hp (nV (T.item X rfl rfl rfl hc i Z9 s3 σ3 H3 X.xe I3 (stat fr3) st3 go) λr s4 ⟨u,hr,h4⟩=>?_)
  subst hr
  refine gI hp (nV h4 λ_ s5 ⟨x,H5,I5,r5,y5,st5,fr5⟩=>?_)
  have I5':=I5.pinned (stat fr5) (T.obj _ _ st5)
  refine gI hp (nV (hg _ s5 σ3 H5 x u _ I5' r5 (step x H5 y5)) λ_ s6 ⟨σ6,H6,I6,q6⟩=>?_)
  refine gI hp (nV (hb _ s6 σ6 H6 _ I6 q6) λf s7 q7=>?_)
  have again:∀ {σ7:St}{H7:Hp},Inv X (Z9++tV fp s5.heap) σ7 H7 s7->N σ7 H7->∃ m,m<n/\∃ i σ' H',Inv X Z9 σ' H' s7/\tn i s7.heap/\(∀ b∈fp,H' b=none)/\W i m σ' H':=λ{σ7 H7} I7 n7=>by
   obtain⟨m',hm,w7⟩:=hN σ7 H7 n7
   refine⟨m',hm,i+1,σ7,H7,I7.unpinned,T.keep _ _ _ st5 λb hb o e=>(I7.pin (b,o) (ca _ (ca _ (qq hb e)))).1,λb hb=>?_,w7⟩
   obtain⟨o,e,d⟩:=T.obj _ _ st5 b hb
   exact (I7.pin (b,o) (ca _ (ca _ (qq hb e)))).2.1
  cases f with
  | next=>obtain⟨σ7,H7,I7,n7⟩:=q7;exact again I7 n7
  | cont=>obtain⟨σ7,H7,I7,n7⟩:=q7;exact again I7 n7
  | brk=>obtain⟨σ7,H7,I7,q7⟩:=q7;exact⟨σ7,H7,I7.unpinned,q7⟩
  | ret v=>obtain⟨x7,σ7,H7,I7,r7,q7⟩:=q7;exact⟨x7,σ7,H7,I7.unpinned,r7,q7⟩
end
end L2
namespace L2
open PySem PySem.Spec PyProof.Rows
abbrev R2:=V->V->Hp->VK->Prop
def pD (X:Cx)(f:mF->mF->Sem mF)(r:R2):Prop :=
 ∀ (Z9:List (mS×Obj))(s:mn)(σ:St)(H:Hp)(x y:V)(v u:mF)(Q:VK),Inv X Z9 σ H s->RelV x v->RelV y u->r x y H Q ->
  wpAny (model X.prog X.w) X.A (f v u) (EP X Z9 σ Q) X.xe s
def Sg (X:Cx)(f:mF->Sem mF)(r:V->Hp->VK->Prop):Prop :=
 ∀ (Z9:List (mS×Obj))(s:mn)(σ:St)(H:Hp)(x:V)(v:mF)(Q:VK),Inv X Z9 σ H s->RelV x v->r x H Q ->
  wpAny (model X.prog X.w) X.A (f v) (EP X Z9 σ Q) X.xe s
def nO (X:Cx)(f:mF)(r:List V->Hp->VK->Prop):Prop :=
 ∀ (Z9:List (mS×Obj))(s:mn)(σ:St)(H:Hp)(xs:List V)(us:List mF)(Q:VK),Inv X Z9 σ H s->Vals xs us->r xs H Q ->
  wpAny (model X.prog X.w) X.A (call f us) (EP X Z9 σ Q) X.xe s
def Sh (X:Cx)(r:V->Hp->(Bool->Hp->Prop)->Prop):Prop :=
 ∀ (Z9:List (mS×Obj))(s:mn)(σ:St)(H:Hp)(x:V)(v:mF)(Q:Bool->Hp->Prop),Inv X Z9 σ H s->RelV x v->r x H Q ->
  wpAny (model X.prog X.w) X.A (truthy v) (TP X Z9 σ Q) X.xe s
def HJ (r:R2)(ta tb:TE):TE:=λσ H Q=>ta σ H λx H1=>tb σ H1 λy H2=>r x y H2 Q
def tUn (r:V->Hp->VK->Prop)(ta:TE):TE:=λσ H Q=>ta σ H λx H1=>r x H1 Q
inductive rI (C:Int->Int->Prop)(g:Int->Int->V)(x:V)(y:V)(H:Hp)(Q:VK):Prop
 | mk (i:_)(j:_)(_:x=.int i)(_:y=.int j)(_:C i j)(_:Q (g i j) H):rI C g x y H Q
inductive rI0 (g:Int->Int->V)(x:V)(y:V)(H:Hp)(Q:VK):Prop
 | mk (i:_)(j:_)(_:x=.int i)(_:y=.int j)(_:Q (g i j) H):rI0 g x y H Q
inductive rU (g:Int->V)(x:V)(H:Hp)(Q:VK):Prop
 | mk (i:_)(_:x=.int i)(_:Q (g i) H):rU g x H Q
section
variable {X:Cx}{a b:Expr}{ta tb:TE}{pos:Pos}
theorem Ki (ha:PE X a ta)(hb:PE X b tb){Z9:List (mS×Obj)}{s:mn}{σ:St}{H:Hp}{R:V->V->Hp->Prop}(I:Inv X Z9 σ H s)
  (h:ta σ H λx H1=>tb σ H1 λy H2=>R x y H2){Q:mF->mn->Prop}{f:mF->mF->Sem mF}
  (hf:∀ v u s2 x y H2,Inv X Z9 σ H2 s2->RelV x v->RelV y u->R x y H2->wpAny (model X.prog X.w) X.A (f v u) Q X.xe s2) :
  wpAny (model X.prog X.w) X.A (eval a X.env) (λv s₁=>wpAny (model X.prog X.w) X.A (eval b X.env) (λu s₂=>wpAny (model X.prog X.w) X.A (f v u) Q X.xe s₂) X.xe s₁) X.xe s:=by
 refine nV (ha Z9 s σ H _ I h) λv s1 q1=>?_;obtain⟨x,H1,I1,r1,q1⟩:=q1
 refine nV (hb Z9 s1 σ H1 _ I1 q1) λu s2 q2=>?_;obtain⟨y,H2,I2,r2,q2⟩:=q2
 exact hf v u s2 x y H2 I2 r1 r2 q2
theorem Hl {op:lW}{r:R2}(ho:pD X (binaryOp op) r)(ha:PE X a ta)(hb:PE X b tb):PE X (.BinOp a op b pos) (HJ r ta tb):=by
 intro Z9 s σ H Q I h
 exact wpAny_BinOp (Ki ha hb I h λv u s2 x y H2 I2 rx ry q=>ho Z9 s2 σ H2 x y v u Q I2 rx ry q)
theorem LU {op:UnaryOp}{r:V->Hp->VK->Prop}(ho:Sg X (unaryOp op) r)(ha:PE X a ta):PE X (.UnaryOp op a pos) (tUn r ta):=by
 intro Z9 s σ H Q I h
 exact UnaryOp_ (nV (ha Z9 s σ H _ I h) λv s1 q1=>by obtain⟨x,H1,I1,r1,q1⟩:=q1;exact ho Z9 s1 σ H1 x v Q I1 r1 q1)
theorem Nv {f:mF->mF->Sem mF}{C:Int->Int->Prop}{g:Int->Int->Int}
  (rule:∀ (i j:Int)(t u:Tok)(s:mn)(Q:mF->mn->Prop)(E:mF->mn->Prop),C i j->Q (.int (g i j) s.toks) { s with toks:=s.toks+1 }->wpAny (model X.prog X.w) X.A (f (.int i t) (.int j u)) Q E s) :
  pD X f (rI C λi j=>.int (g i j)):=by
 intro Z9 s σ H x y v u Q I rx ry h
 obtain⟨i,j,rfl,rfl,hc,q⟩:=h
 obtain⟨t,rfl⟩:=rx
 obtain⟨t',rfl⟩:=ry
 exact rule i j t t' s _ _ hc ⟨.int (g i j),H,I.tok _,⟨_,rfl⟩,q⟩
theorem Me {f:mF->mF->Sem mF}{g:Int->Int->Int}
  (rule:∀ (i j:Int)(t u:Tok)(s:mn)(Q:mF->mn->Prop)(E:mF->mn->Prop),Q (.int (g i j) s.toks) { s with toks:=s.toks+1 }->wpAny (model X.prog X.w) X.A (f (.int i t) (.int j u)) Q E s) :
  pD X f (rI0 λi j=>.int (g i j)):=by
 intro Z9 s σ H x y v u Q I rx ry h
 obtain⟨i,j,rfl,rfl,q⟩:=h
 obtain⟨t,rfl⟩:=rx
 obtain⟨t',rfl⟩:=ry
 exact rule i j t t' s _ _ ⟨.int (g i j),H,I.tok _,⟨_,rfl⟩,q⟩
theorem Fx {f:mF->mF->Sem mF}{g:Int->Int->Bool}
  (rule:∀ (i j:Int)(t u:Tok)(s:mn)(Q:mF->mn->Prop)(E:mF->mn->Prop),Q (.bool (g i j)) s->wpAny (model X.prog X.w) X.A (f (.int i t) (.int j u)) Q E s) :
  pD X f (rI0 λi j=>.bl (g i j)):=by
 intro Z9 s σ H x y v u Q I rx ry h
 obtain⟨i,j,rfl,rfl,q⟩:=h
 obtain⟨t,rfl⟩:=rx
 obtain⟨t',rfl⟩:=ry
 exact rule i j t t' s _ _ ⟨.bl (g i j),H,I,rfl,q⟩
def Sn (i j:Int):Prop:=0<j/\j<1073741824
def Sm (i j:Int):Prop:=0<=j/\j<=1000000/\i.natAbs<2 ^ 64
def CMul (i j:Int):Prop:=(-(2 ^ 64)<i/\i<2 ^ 64) ∨ (-(2 ^ 64)<j/\j<2 ^ 64)
theorem CMul.ok {i j:Int}(h:CMul i j):IntMulOk i j:=by
 rcases h with⟨h1,h2⟩|⟨h1,h2⟩
 ·exact .of_left (jy h1 h2)
 ·exact .of_right (jy h1 h2)
theorem IX:pD X (binaryOp .Add) (rI0 λi j=>.int (i+j)):=Me λ_ _ _ _ _ _ _ q=>add_int q
theorem IP:pD X (binaryOp .Sub) (rI0 λi j=>.int (i-j)):=Me λ_ _ _ _ _ _ _ q=>sub_int q
theorem IS:pD X (binaryOp .Mult) (rI CMul λi j=>.int (i*j)):=Nv λ_ _ _ _ _ _ _ hc q=>mul_int q hc.ok
theorem Fv:pD X (binaryOp .FloorDiv) (rI Sn λi j=>.int (i / j)):=Nv λi j _ _ _ _ _ hc q=>by
 have h1:(0:Int)<j:=hc.1
 have h2:j<1073741824:=hc.2
 exact floordiv_int ⋯ (by rw[Int.fdiv_eq_ediv_of_nonneg i ⋯];exact q) (.inl (PyProof.noPylong_small ⋯))
theorem IT:pD X (binaryOp .Mod) (rI (λ_ j=>0<j) λi j=>.int (i % j)):=Nv λi j _ _ _ _ _ hc q=>by
 have h1:(0:Int)<j:=hc
 exact mod_int' ⋯ (by rw[Int.fmod_eq_emod_of_nonneg i ⋯];exact q)
theorem IR:pD X (binaryOp .Pow) (rI Sm λi j=>.int (i ^ j.toNat)):=Nv λ_ _ _ _ _ _ _ hc q=>pow_int_small hc.1 hc.2.1 hc.2.2 q
theorem unI {f:mF->Sem mF}{g:Int->Int}
  (rule:∀ (i:Int)(t:Tok)(s:mn)(Q:mF->mn->Prop)(E:mF->mn->Prop),Q (.int (g i) s.toks) { s with toks:=s.toks+1 }->wpAny (model X.prog X.w) X.A (f (.int i t)) Q E s) :
  Sg X f (rU λi=>.int (g i)):=by
 intro Z9 s σ H x v Q I rx h
 obtain⟨i,rfl,q⟩:=h
 obtain⟨t,rfl⟩:=rx
 exact rule i t s _ _ ⟨.int (g i),H,I.tok _,⟨_,rfl⟩,q⟩
theorem HF:Sg X (unaryOp .USub) (rU λi=>.int (-i)):=unI λ_ _ _ _ _ q=>neg_int q
end
def Lu:V->V->Bool
 | .non,.non=>true|.non,.int _=>true|.int _,.non=>true|.non,.bl _=>true|.bl _,.non=>true|.non,.str _=>true|.str _,.non=>true
 | .int _,.int _=>true|.bl _,.bl _=>true|.str _,.str _=>true|.byt _,.byt _=>true
 | .int _,.str _=>true|.str _,.int _=>true|.bl _,.str _=>true|.str _,.bl _=>true
 | _,_=>false
def rEq:R2:=λx y H Q=>Lu x y=true/\Q (.bl (decide (x=y))) H
def rNe:R2:=λx y H Q=>Lu x y=true/\Q (.bl (!decide (x=y))) H
theorem A1 {i j:Int}:decide (V.int i=V.int j)=(i == j):=by
 rw[iJ]
 simp
theorem Ef {i j:Bool}:decide (V.bl i=V.bl j)=(i == j):=by
 rw[iJ]
 simp
theorem A0 {i j:Str}:decide (V.str i=V.str j)=(i == j):=by
 rw[iJ]
 simp
theorem A2 {i j:Array UInt8}:decide (V.byt i=V.byt j)=(i.toList == j.toList):=by
 rw[iJ]
 cases i
 cases j
 simp
section
variable {X:Cx}{a b c:Expr}{ta tb tc:TE}{pos:Pos}
theorem nG {Z9:List (mS×Obj)}{σ:St}{H:Hp}{s:mn}{Q:VK}{k k':Bool}(I:Inv X Z9 σ H s)(q:Q (.bl k) H)(e:k=k'):EP X Z9 σ Q (.bool k') s:=by
 subst e
 exact⟨.bl k,H,I,rfl,q⟩
theorem Mc:pD X (compareOp .Eq) rEq:=by
 intro Z9 s σ H x y v u Q I rx ry h
 obtain⟨hs,q⟩:=h
 cases x with
 | non =>
  cases rx
  cases y with
  | non=>cases ry;exact PySem.EqNone.eq_none_none (nG I q (by simp))
  | bl j=>cases ry;exact PySem.EqNone.eq_none_bool (nG I q (by simp))
  | int j=>obtain⟨t',rfl⟩:=ry;exact PySem.EqNone.eq_none_int (nG I q (by simp))
  | str j=>obtain⟨t',rfl⟩:=ry;exact PySem.EqNone.eq_none_str (nG I q (by simp))
  | _=>exact absurd (show false=true from hs) eB
 | bl i =>
  cases rx
  cases y with
  | non=>cases ry;exact PySem.EqNone.eq_bool_none (nG I q (by simp))
  | bl j=>cases ry;exact eq_bool (nG I q Ef)
  | str j=>obtain⟨t',rfl⟩:=ry;exact PySem.EqMixed.eq_bool_str (nG I q (by simp))
  | _=>exact absurd (show false=true from hs) eB
 | int i =>
  obtain⟨t,rfl⟩:=rx
  cases y with
  | non=>cases ry;exact PySem.EqNone.eq_int_none (nG I q (by simp))
  | int j=>obtain⟨t',rfl⟩:=ry;exact eq_int (nG I q A1)
  | str j=>obtain⟨t',rfl⟩:=ry;exact PySem.EqMixed.eq_int_str (nG I q (by simp))
  | _=>exact absurd (show false=true from hs) eB
 | str i =>
  obtain⟨t,rfl⟩:=rx
  cases y with
  | non=>cases ry;exact PySem.EqNone.eq_str_none (nG I q (by simp))
  | bl j=>cases ry;exact PySem.EqMixed.eq_str_bool (nG I q (by simp))
  | int j=>obtain⟨t',rfl⟩:=ry;exact PySem.EqMixed.eq_str_int (nG I q (by simp))
  | str j=>obtain⟨t',rfl⟩:=ry;exact eq_str (nG I q A0)
  | _=>exact absurd (show false=true from hs) eB
 | byt i =>
  obtain⟨t,rfl⟩:=rx
  cases y with
  | byt j=>obtain⟨t',rfl⟩:=ry;exact PySem.W.eq_bytes (nG I q A2)
  | _=>exact absurd (show false=true from hs) eB
 | _=>cases y<;>exact absurd (show false=true from hs) eB
theorem L7:pD X (compareOp .NotEq) rNe:=by
 intro Z9 s σ H x y v u Q I rx ry h
 obtain⟨hs,q⟩:=h
 cases x with
 | non =>
  cases rx
  cases y with
  | non=>cases ry;exact PySem.EqNone.ne_none_none (nG I q (by simp))
  | bl j=>cases ry;exact PySem.EqNone.ne_none_bool (nG I q (by simp))
  | int j=>obtain⟨t',rfl⟩:=ry;exact PySem.EqNone.ne_none_int (nG I q (by simp))
  | str j=>obtain⟨t',rfl⟩:=ry;exact PySem.EqNone.ne_none_str (nG I q (by simp))
  | _=>exact absurd (show false=true from hs) eB
 | bl i =>
  cases rx
  cases y with
  | non=>cases ry;exact PySem.EqNone.ne_bool_none (nG I q (by simp))
  | bl j=>cases ry;exact ne_bool (nG I q (congrArg not Ef))
  | str j=>obtain⟨t',rfl⟩:=ry;exact PySem.EqMixed.ne_bool_str (nG I q (by simp))
  | _=>exact absurd (show false=true from hs) eB
 | int i =>
  obtain⟨t,rfl⟩:=rx
  cases y with
  | non=>cases ry;exact PySem.EqNone.ne_int_none (nG I q (by simp))
  | int j=>obtain⟨t',rfl⟩:=ry;exact ne_int (nG I q (congrArg not A1))
  | str j=>obtain⟨t',rfl⟩:=ry;exact PySem.EqMixed.ne_int_str (nG I q (by simp))
  | _=>exact absurd (show false=true from hs) eB
 | str i =>
  obtain⟨t,rfl⟩:=rx
  cases y with
  | non=>cases ry;exact PySem.EqNone.ne_str_none (nG I q (by simp))
  | bl j=>cases ry;exact PySem.EqMixed.ne_str_bool (nG I q (by simp))
  | int j=>obtain⟨t',rfl⟩:=ry;exact PySem.EqMixed.ne_str_int (nG I q (by simp))
  | str j=>obtain⟨t',rfl⟩:=ry;exact ne_str (nG I q (congrArg not A0))
  | _=>exact absurd (show false=true from hs) eB
 | byt i =>
  obtain⟨t,rfl⟩:=rx
  cases y with
  | byt j=>obtain⟨t',rfl⟩:=ry;exact PySem.W.ne_bytes (nG I q (congrArg not A2))
  | _=>exact absurd (show false=true from hs) eB
 | _=>cases y<;>exact absurd (show false=true from hs) eB
theorem L8:pD X (compareOp .Lt) (rI0 λi j=>.bl (decide (i<j))):=Fx λ_ _ _ _ _ _ _ q=>lt_int q
theorem L9:pD X (compareOp .LtE) (rI0 λi j=>.bl (decide (i<=j))):=Fx λ_ _ _ _ _ _ _ q=>le_int q
theorem Ma:pD X (compareOp .Gt) (rI0 λi j=>.bl (decide (j<i))):=Fx λ_ _ _ _ _ _ _ q=>gt_int q
theorem Mb:pD X (compareOp .GtE) (rI0 λi j=>.bl (decide (j<=i))):=Fx λ_ _ _ _ _ _ _ q=>ge_int q
theorem Fn {op:mN}{r:R2}(ho:pD X (compareOp op) r)(ha:PE X a ta)(hb:PE X b tb)(hm:behindInMarks op b=false):PE X (.Compare a [op] [b] pos) (HJ r ta tb):=by
 intro Z9 s σ H Q I h
 exact wpAny_Compare1 (Ki ha hb I h λv u s2 x y H2 I2 rx ry q=>ho Z9 s2 σ H2 x y v u Q I2 rx ry q) hm
def Le (t:TE):TT:=λσ H Q=>t σ H λx H'=>∃ k,x=.bl k/\Q k H'
theorem Fd {op:mN}{r:R2}(ho:pD X (compareOp op) r)(ha:PE X a ta)(hb:PE X b tb)(hm:behindInMarks op b=false):PT X (.Compare a [op] [b] pos) (Le (HJ r ta tb)):=by
 intro Z9 s σ H Q I h
 refine bT (nV (ha Z9 s σ H _ I h) λv s1 ⟨x,H1,I1,r1,q1⟩=>nV (hb Z9 s1 σ H1 _ I1 q1) λu s2 ⟨y,H2,I2,r2,q2⟩ =>
  nV (ho Z9 s2 σ H2 x y v u _ I2 r1 r2 q2) λc s3 ⟨z,H3,I3,r3,k,e,q3⟩=>?_) hm
 subst e
 cases r3
 exact eG ⟨H3,I3,q3⟩
def CB (r r':R2)(ta tb tc:TE):TE:=λσ H Q=>ta σ H λx H1=>tb σ H1 λy H2=>r x y H2 λz H3=>∃ k,z=.bl k /\
 (if k=true then tc σ H3 λw' H4=>r' y w' H4 Q else Q (.bl false) H3)
theorem Dm {op op':mN}{r r':R2}(ho:pD X (compareOp op) r)(ho':pD X (compareOp op') r')(ha:PE X a ta)(hb:PE X b tb)(hc:PE X c tc)
  (hm:lastMarks [op,op'] [b,c]=false:=by with_unfolding_all rfl):PE X (.Compare a [op,op'] [b,c] pos) (CB r r' ta tb tc):=by
 intro Z9 s σ H Q I h
 refine Compare_chain (nV (ha Z9 s σ H _ I h) λv s1 ⟨x,H1,I1,r1,q1⟩=>chain_link (nV (hb Z9 s1 σ H1 _ I1 q1) λu s2 ⟨y,H2,I2,r2,q2⟩ =>
  nV (ho Z9 s2 σ H2 x y v u _ I2 r1 r2 q2) λd s3 ⟨z,H3,I3,r3,k,e,q3⟩=>?_)) hm
 subst e
 cases r3
 refine eG ?_
 cases k with
 | false=>exact ite_ff ⟨.bl false,H3,I3,rfl,q3⟩
 | true=>exact ite_tt (chain_last (nV (hc Z9 s3 σ H3 _ I3 q3) λw' s4 ⟨z',H4,I4,r4,q4⟩=>ho' Z9 s4 σ H4 y z' u w' Q I4 r2 r4 q4))
def Ez (K:ke)(x:V)(H:Hp)(k:Bool):Prop :=
 match x with
 | .non=>k=false
 | .bl b=>k=b
 | .int i=>k=(i != 0)
 | .str y=>y.length<=sizeLine/\k=((y.length:Int) != 0)
 | .byt y=>y.size<=sizeLine/\k=((y.size:Int) != 0)
 | .ref p=>(∃ xs,SqL K H p xs/\k = !xs.isEmpty) ∨ (∃ xs,SqT K H p xs/\k = !xs.isEmpty) ∨ ∃ Z6,H p=some (.dK Z6)/\k = !Z6.isEmpty
 | _=>False
theorem zw {κ:Type}{Z6:List (κ×V)}{vs:List (κ×mF)}(r:KV Z6 vs):(!vs.isEmpty) = !Z6.isEmpty:=by
 cases r<;>rfl
theorem uq {xs:List V}{Z7:List mF}(r:Vals xs Z7):(!Z7.toArray.isEmpty) = !xs.isEmpty:=by
 cases r<;>simp
theorem ua:(sizeLine:Nat)<2 ^ 63:=by rw[kP];decide
theorem yT:Sh X (λx H Q=>∃ k,Ez X.K x H k/\Q k H):=by
 intro Z9 s σ H x v Q I rx h
 obtain⟨k,e,q⟩:=h
 have hl:=ua
 have hs:sizeLine=16777216:=kP
 cases x with
 | non =>
  cases rx
  have e':k=false:=e
  subst e'
  exact truthy_none ⟨H,I,q⟩
 | bl b =>
  cases rx
  have e':k=b:=e
  subst e'
  exact eG ⟨H,I,q⟩
 | int i =>
  obtain⟨t,rfl⟩:=rx
  have e':k=(i != 0):=e
  subst e'
  exact PySem.P.truthy_int ⟨H,I,q⟩
 | str y =>
  obtain⟨t,rfl⟩:=rx
  obtain⟨hy,e'⟩:y.length<=sizeLine/\k=((y.length:Int) != 0):=e
  subst e'
  exact PySem.P.truthy_str ⋯ ⟨H,I.tok _,q⟩
 | byt y =>
  obtain⟨t,rfl⟩:=rx
  obtain⟨hy,e'⟩:y.size<=sizeLine/\k=((y.size:Int) != 0):=e
  subst e'
  exact PySem.W.truthy_bytes ⋯ ⟨H,I.tok _,q⟩
 | ref p =>
  cases rx
  have e':(∃ xs,SqL X.K H p xs/\k = !xs.isEmpty) ∨ (∃ xs,SqT X.K H p xs/\k = !xs.isEmpty) ∨ ∃ Z6,H p=some (.dK Z6)/\k = !Z6.isEmpty:=e
  rcases e' with⟨xs,hx,e'⟩|⟨xs,hx,e'⟩|⟨Z6,hx,e'⟩
  ·subst e'
   obtain⟨Z7,r,pl,hz⟩:=I.list hx
   have hlen:=r.length
   exact wpAny_truthy_list pl.isList (by simp -iota only[fo];lia) ⟨H,I.tok _,by rw[uq r];exact q⟩
  ·subst e'
   obtain⟨Z7,r,pl,hz⟩:=I.tuple hx
   have hlen:=r.length
   exact truthy_tuple pl (by simp -iota only[fo];lia) ⟨H,I.tok _,by rw[uq r];exact q⟩
  ·subst e'
   obtain⟨hz,hS,vs,r,m⟩:Z6.length<=sizeLine/\(p == sysModules)=false/\∃ vs,KV Z6 vs/\s.heap.DictOf (og X.prog X.w) p vs:=I.hok p _ hx
   have hlen:Z6.length=vs.length:=jH r
   exact wpAny_truthy_dict hS m ⋯ ⟨H,I.tok _,by rw[zw r];exact q⟩
 | _=>exact (show False from e).elim
theorem C5 (ha:PE X a ta)(he:∀ whole,isTrue a X.env whole=(do let v <- whole;standAt a.pos;holding [v] (truthy v))) :
  PT X a (λσ H Q=>ta σ H λx H'=>∃ k,Ez X.K x H' k/\Q k H'):=by
 intro Z9 s σ H Q I h
 exact isTrue_plain (nV (ha Z9 s σ H _ I h) λv s1 q1=>by obtain⟨x,H1,I1,r1,q1⟩:=q1;exact yT Z9 s1 σ H1 x v Q I1 r1 q1) (he _)
theorem vals1 {x:V}{us:List mF}(r:Vals [x] us):∃ u,us=[u]/\RelV x u:=by
 cases r with
 | cons r1 r2=>cases r2;exact⟨_,rfl,r1⟩
theorem vals2 {x y:V}{us:List mF}(r:Vals [x,y] us):∃ u w',us=[u,w']/\RelV x u/\RelV y w':=by
 cases r with
 | cons r1 r2 =>
  cases r2 with
  | cons r3 r4=>cases r4;exact⟨_,_,rfl,r1,r3⟩
theorem En:nO X (.builtin "abs") (λxs H Q=>∃ i,xs=[.int i]/\Q (.int (if i<0 then -i else i)) H):=by
 intro Z9 s σ H xs us Q I r h
 obtain⟨i,rfl,q⟩:=h
 obtain⟨u,rfl,t,rfl⟩:=vals1 r
 exact call_abs_int λu tk=>⟨.int (if i<0 then -i else i),H,I.tok _,⟨_,rfl⟩,q⟩
theorem Ci (hc:X.calm=true):nO X (.builtin "max") (λxs H Q=>∃ i j,xs=[.int i,.int j]/\Q (.int (if j > i then j else i)) H):=by
 intro Z9 s σ H xs us Q I r h
 obtain⟨i,j,rfl,q⟩:=h
 obtain⟨u,w',rfl,⟨t,rfl⟩,⟨t',rfl⟩⟩:=vals2 r
 refine max_two_ints (I.ok.hd hc) λh' tk k=>⟨_,H,I.kept k,?_,q⟩
 by_cases hj:j > i
 ·rw[if_pos hj,if_pos hj];exact⟨_,rfl⟩
 ·rw[if_neg hj,if_neg hj];exact⟨_,rfl⟩
theorem Ch (hc:X.calm=true):nO X (.builtin "min") (λxs H Q=>∃ i j,xs=[.int i,.int j]/\Q (.int (if j<i then j else i)) H):=by
 intro Z9 s σ H xs us Q I r h
 obtain⟨i,j,rfl,q⟩:=h
 obtain⟨u,w',rfl,⟨t,rfl⟩,⟨t',rfl⟩⟩:=vals2 r
 refine min_two_ints (I.ok.hd hc) λh' tk k=>⟨_,H,I.kept k,?_,q⟩
 by_cases hj:j<i
 ·rw[if_pos hj,if_pos hj];exact⟨_,rfl⟩
 ·rw[if_neg hj,if_neg hj];exact⟨_,rfl⟩
theorem vR:nO X (.type "int") (λxs H Q=>(∃ i,xs=[.int i]/\Q (.int i) H) ∨ ∃ k,xs=[.bl k]/\Q (.int (if k then 1 else 0)) H):=by
 intro Z9 s σ H xs us Q I r h
 rcases h with⟨i,rfl,q⟩|⟨k,rfl,q⟩
 ·obtain⟨u,rfl,t,rfl⟩:=vals1 r
  exact call_int_int ⟨.int i,H,I,⟨_,rfl⟩,q⟩
 ·obtain⟨u,rfl,r1⟩:=vals1 r
  cases r1
  exact call_int_bool ⟨.int (if k then 1 else 0),H,I.tok _,⟨_,rfl⟩,q⟩
theorem w5:nO X (.type "str") (λxs H Q=>∃ i,xs=[.int i]/\i.natAbs.log2<1920/\Q (.str (toString i)) H):=by
 intro Z9 s σ H xs us Q I r h
 obtain⟨i,rfl,hz,q⟩:=h
 obtain⟨u,rfl,t,rfl⟩:=vals1 r
 exact PySem.P.str_of_int hz ⟨.str _,H,I.tok _,⟨_,rfl⟩,q⟩
end
end L2
namespace L2
open PySem PySem.Spec PyProof.Rows
structure ObjM (h:mQ)(x dx C:mS)(mA:Str->Option mF):Prop where
 obj:h.get? x=some (gS C dx)
 ns:h.Ns1 dx mA
 ne:dx≠x
theorem BU {h:mQ}{dx:mS}{mA:Str->Option mF}(n:h.Ns1 dx mA):∃ od,h.get? dx=some od/\∀ name,iX name od=some (mA name):=by
 obtain⟨o,es,ep,ho,hd,hk,_,hm⟩:=n
 refine⟨o,ho,λname=>?_⟩
 have e:=hm name
 unfold nsFind findBy at e
 rw[<- Array.find?_toList] at e
 unfold iX
 rw[hd]
 dsimp only
 split
 ·rename_i y q
  rw[q] at e
  exact congrArg some e
 ·rename_i q
  rw[q] at e
  have a:es.toList.any (·.refKey)=false:=by
   rw[List.any_eq_false]
   intro y hy
   obtain⟨z,t,hkey⟩:=hk y (Array.mem_toList_iff.mp hy)
   simp[DictEntry.refKey,hkey]
  have a':¬ es.toList.any (·.refKey)=true:=by rw[a];exact eB
  rw[if_neg a']
  exact congrArg some e
theorem ObjM.look {h:mQ}{x dx C:mS}{mA:Str->Option mF}(I:ObjM h x dx C mA):∃ od,PySem.W.InstAt h x (gS C dx) C (some od)/\∀ name,iX name od=some (mA name) :=
 let ⟨od,ho,hl⟩:=BU I.ns
 ⟨od,⟨I.obj,rfl,rfl,ho⟩,hl⟩
theorem RelO.some_of {v:V}{o:Option mF}(r:RelO (some v) o):∃ u,o=some u/\RelV v u:=by
 cases o with
 | none=>exact (show False from r).elim
 | some u=>exact⟨u,rfl,r⟩
section
variable {P:l8}{w:mD}{H:Hp}{h:mQ}{a C dx:mS}{fs:List (Str×V)}
theorem Gc (hok:HOk P w H h)(e:H a=some (.ins C dx fs)):∃ mA,ObjM h a dx C mA/\(∀ f,RelO (fs.lookup f) (mA f))/\kb mA (fs.map (·.1))/\fs.length<=1000/\H dx=some (.own a):=by
 obtain⟨d,z,ne,ob,mA,n,r,q⟩:=(show ObjOk P w H h a (.ins C dx fs) from hok a _ e)
 exact⟨mA,⟨ob,n,ne⟩,r,q,z,d⟩
end
structure Cls (K:ke)(C:mS):Prop where
 pg:fS K C Str.empty=true
 hd:PySem.W.hasDictIn K C=true
 po:PySem.W.plainOver K C=true
 sa:i7 K (.ref C) "__setattr__" = some (some (.builtin "object.__setattr__"))
theorem Cls.get {K:ke}{C:mS}(c:Cls K C)(f:Str):fS K C f=true:=c.pg
def xk (K:ke)(C:mS)(f:Str):Prop:=i7 K (.ref C) f=some none
structure Meth (K:ke)(C:mS)(m:Str)(f:mS):Prop where
 at_:i7 K (.ref C) m=some (some (.ref f))
 fn:PySem.W.isFn K (.ref f)=true
 kp:i6 K (.ref f)=true
section
variable {X:Cx}{Z9:List (mS×Obj)}{σ:St}{H:Hp}{s:mn}{A:mC}{E:mF->mn->Prop}{Q:mF->mn->Prop}{c:mF}{b:Bool}
inductive TyOf (K:ke)(H:Hp):V->mF->Prop where
 | non:TyOf K H .non (.type "NoneType")
 | bl (x:Bool):TyOf K H (.bl x) (.type "bool")
 | int (i:Int):TyOf K H (.int i) (.type "int")
 | str (x:Str):TyOf K H (.str x) (.type "str")
 | flt (x:UInt64):TyOf K H (.flt x) (.type "float")
 | lst {a:mS}{xs:List V}(e:H a=some (.lst xs)):TyOf K H (.ref a) (.type "list")
 | frz {a:mS}{o:Obj}{xs:List V}(e:H a=some (.frz o (.lst xs))):TyOf K H (.ref a) (.type "list")
 | tup {a:mS}{xs:List V}(e:H a=some (.tup xs)):TyOf K H (.ref a) (.type "tuple")
 | dK {a:mS}{Z6:List (pJ×V)}(e:H a=some (.dK Z6)):TyOf K H (.ref a) (.type "dict")
 | dT {a:mS}{Z6:List (List pJ×V)}(e:H a=some (.dT Z6)):TyOf K H (.ref a) (.type "dict")
 | ins {a C dx:mS}{fs:List (Str×V)}(e:H a=some (.ins C dx fs))(cl:Cls K C)(ha:i7 K (.ref C) "__class__" = some (some (.builtin "object.__class__")))
   (hn:PySem.W.specialIn K (.builtin "object.__class__") "__get__" = some (some (.builtin "getset_descriptor.__get__")))(htk:PySem.W.takesIn K (.builtin "object.__class__")=some true)
   (hm:PySem.W.mroIn K C (.type "object")=some true):TyOf K H (.ref a) (.ref C)
theorem BZ {x:V}{u t:mF}(I:Inv X Z9 σ H s)(rx:RelV x u)(ty:TyOf X.K H x t)(e:iY X.K t c=some b)(h:∀ tk,Q (.bool b) { s with toks:=tk }) :
  wpAny (model X.prog X.w) A (call (.builtin "isinstance") [u,c]) Q E s:=by
 cases ty with
 | non=>cases (show u=Value.none from rx);exact gR eX I.kIn True.intro e (λz=>nomatch z) h
 | bl y=>cases (show u=Value.bool y from rx);exact gR fb I.kIn True.intro e (λz=>nomatch z) h
 | int i=>obtain⟨t,q⟩:=(show ∃ t,u=Value.int i t from rx);cases q;exact gR fU I.kIn True.intro e (λz=>nomatch z) h
 | str y=>obtain⟨t,q⟩:=(show ∃ t,u=Value.str y t from rx);cases q;exact gR fT I.kIn True.intro e (λz=>nomatch z) h
 | flt y=>obtain⟨t,q⟩:=(show ∃ t,u=Value.float y t from rx);cases q;exact gR dC I.kIn True.intro e (λz=>nomatch z) h
 | @lst a xs ea =>
  cases (show u=Value.ref a from rx)
  obtain⟨_,_,n,_,h1⟩:=(show ObjOk X.prog X.w H s.heap a (.lst xs) from I.hok a _ ea)
  exact gR eY I.kIn ⟨_,h1,rfl⟩ e (λz=>nomatch z) h
 | @frz a ob xs ea =>
  cases (show u=Value.ref a from rx)
  obtain⟨_,_,_,n,_,h1⟩:=(show ObjOk X.prog X.w H s.heap a (.frz ob (.lst xs)) from I.hok a _ ea)
  exact gR eY I.kIn ⟨_,h1,rfl⟩ e (λz=>nomatch z) h
 | @tup a xs ea =>
  cases (show u=Value.ref a from rx)
  obtain⟨_,_,_,p⟩:=(show ObjOk X.prog X.w H s.heap a (.tup xs) from I.hok a _ ea)
  obtain⟨o,h1,h2,_⟩:=p
  exact gR dB I.kIn ⟨o,h1,h2⟩ e (λz=>nomatch z) h
 | @dK a Z6 ea =>
  cases (show u=Value.ref a from rx)
  obtain⟨_,_,vs,_,p⟩:=(show ObjOk X.prog X.w H s.heap a (.dK Z6) from I.hok a _ ea)
  obtain⟨o,es,ep,h1,h2,_⟩:=p
  exact gR eZ I.kIn ⟨o,h1,h2.1⟩ e (λz=>nomatch z) h
 | @dT a Z6 ea =>
  cases (show u=Value.ref a from rx)
  obtain⟨_,_,xs,_,o,es,ep,h1,h2,_⟩:=(show ObjOk X.prog X.w H s.heap a (.dT Z6) from I.hok a _ ea)
  exact gR eZ I.kIn ⟨o,h1,h2.1⟩ e (λz=>nomatch z) h
 | @ins a C dx fs ea cl ha hn htk hm =>
  cases (show u=Value.ref a from rx)
  obtain⟨mA,O,_⟩:=Gc I.hok ea
  obtain⟨od,J,_⟩:=O.look
  exact gR (PySem.W.kitx_own (cl.get _) cl.hd ha hn htk hm) I.kIn J e (λz=>nomatch z) h
end
end L2
namespace L2
open PySem PySem.Spec PyProof.Rows
structure Room (k:Nat)(A:mC):Prop where
 hd:A.handled=none
 dp:A.depth+3*k+5<recursionLimit
 un:A.units+16*k+200<cLine
 gd:A.guards=some []
theorem Room.deeper {k:Nat}{A:mC}(r:Room (k+1) A)(env:Env):Room k (A.deeper env) :=
 ⟨r.hd,by have:=r.dp;show A.depth+1+3*k+5<_;lia,by have:=r.un;show A.units+3+16*k+200<_;lia,r.gd⟩
structure RoomS (k:Nat)(A:mC):Prop extends Room k A where
 dp2:A.depth+3*k+7<recursionLimit
 un2:A.units+16*k+210<cLine
theorem Room.deeperS {k:Nat}{A:mC}(r:Room (k+1) A)(env:Env):RoomS k (A.deeper env) :=
 ⟨r.deeper env,by have:=r.dp;show A.depth+1+3*k+7<_;lia,by have:=r.un;show A.units+3+16*k+210<_;lia⟩
theorem Room.depth {k:Nat}{A:mC}(r:Room k A):A.depth<recursionLimit:=by have:=r.dp;lia
theorem Room.units {k:Nat}{A:mC}(r:Room k A):A.units+64<cLine:=by have:=r.un;lia
def Lj:TA:=λ_ H Q=>Q [] H
def Ad (ta:TE)(tr:TA):TA:=λσ H Q=>ta σ H λx H1=>tr σ H1 λxs H2=>Q (x :: xs) H2
section
variable {X:Cx}{e:Expr}{es:List Expr}{te:TE}{t:TA}{pos:Pos}
theorem n6:PA X [] Lj:=λ_ _ _ _ H Q I h=>fI ⟨[],H,I,.nil,h⟩
theorem nC (ha:PE X e te)(hr:PA X es t)(hs:starEach (e :: es) X.env=(false,eval e X.env) :: starEach es X.env:=by rfl):PA X (e :: es) (Ad te t):=by
 intro pos Z9 s σ H Q I h
 rw[hs]
 show wpAny _ _ (spliced ((false,eval e X.env) :: backTo pos (starEach es X.env))) _ _ s
 refine eA (nV (ha Z9 s σ H _ I h) λu s1 ⟨x,H1,I1,r1,q1⟩=>?_)
 refine nV (hr pos Z9 s1 σ H1 _ I1 q1) λus s2 q2=>?_;obtain⟨xs,H2,I2,r2,q2⟩:=q2;exact⟨x :: xs,H2,I2,.cons r1 r2,q2⟩
def OF (t:TA):TE:=λσ H Q=>t σ H λxs H1=>xs.length<=sizeLine/\∀ p,H1 p=none->Q (.ref p) (n5 H1 p (.tup xs))
def OK (t:TA):TE:=λσ H Q=>t σ H λxs H1=>xs.length<=sizeLine/\∀ p,H1 p=none->Q (.ref p) (n5 H1 p (.lst xs))
theorem Dh {x1}(h:PA X es t):PE X (.Tuple es x1 pos) (OF t):=by
 intro Z9 s σ H Q I hq
 refine wpAny_Tuple_spliced (nV (h pos Z9 s σ H _ I hq) λus s1 ⟨xs,H1,I1,r,z,q⟩=>⟨by rw[<- r.length];exact z,?_⟩)
 have hf:H1 s1.heap.objs.size=none:=I1.hok.fresh (kW _)
 refine⟨.ref s1.heap.objs.size,n5 H1 s1.heap.objs.size (.tup xs),I1.laid (t':=s1.toks) (λb u e=>bQ _ e) (kW _) ?_,rfl,q _ hf⟩
 exact⟨z,us,r,⟨_,da _ rfl,rfl,_,rfl⟩⟩
theorem Di (h:PA X es t):PE X (.List es pos) (OK t):=by
 intro Z9 s σ H Q I hq
 refine wpAny_List_spliced (nV (h pos Z9 s σ H _ I hq) λus s1 ⟨xs,H1,I1,r,z,q⟩=>⟨by rw[<- r.length];exact z,?_⟩)
 have hf:H1 s1.heap.objs.size=none:=I1.hok.fresh (kW _)
 refine⟨.ref s1.heap.objs.size,n5 H1 s1.heap.objs.size (.lst xs),I1.laid (t':=s1.toks) (λb u e=>bQ _ e) (kW _) ?_,rfl,q _ hf⟩
 exact⟨z,us,0,r,da _ rfl⟩
end
abbrev Sp:=List V->Hp->VK->XK->Prop
abbrev Ha:=List Env->Hp->mn->XK->mF->mn->Prop
structure Env0 (P:l8)(w:mD)(K:ke)(mg:Str->Option mF)(base:mQ)(A:mC)(outer:List Env)(s:mn)(H:Hp):Prop where
 frames:A.frames=some outer
 mod:Mod K mg base
 bs:∀ b o,base.get? b=some o->s.heap.get? b=some o/\H b=none
 bsz:base.objs.size<=s.heap.objs.size
 funs:s.heap.FunFrames base outer
 frf:∀ b∈zA outer,H b=none
 hok:HOk P w H s.heap
 bare:mm s.gens
inductive CE (outer:List Env)(P:l8)(w:mD)(H:Hp)(s:mn)(Q:VK)(u:mF)(s':mn):Prop
 | mk (v:_)(H':_)(_:s'.os=s.os)(_:mm s'.gens)(_:Un (zA outer) [] H H' s.heap s'.heap)(_:HOk P w H' s'.heap)(_:RelV v u)(_:Q v H'):CE outer P w H s Q u s'
def CR (CX:Ha)(outer:List Env)(P:l8)(w:mD)(H:Hp)(s:mn)(Q:VK)(E:XK)(r:mq)(s':mn):Prop :=
 match r with
 | .ok (.ret u)=>CE outer P w H s Q u s'
 | .ok _=>False
 | .error e=>CX outer H s E e s'
structure FnOk (P:l8)(w:mD)(K:ke)(mg:Str->Option mF)(base:mQ)(CX:Ha) (k:Nat)(f:mS)(fd:l0)(ps:List Str)(sp:Sp):Prop where
 len:∀ vs H Q E,sp vs H Q E->vs.length=ps.length
 run:∀ (A:mC)(outer:List Env)(s:mn)(H:Hp)(args:Args)(us:List mF)(vs:List V)(Q:VK)(E:XK),Room k A->Env0 P w K mg base A outer s H->ml s fd args (ps.zip us)->Vals vs us->sp vs H Q E ->
  codeAny (model P w) A (.call (.ref f) args) (CR CX outer P w H s Q E) s
section
variable {X:Cx}{Z9:List (mS×Obj)}{σ:St}{H:Hp}{s s':mn}
theorem Inv.env0 (I:Inv X Z9 σ H s):Env0 X.prog X.w X.K X.mg X.base X.A X.stack s H :=
 ⟨I.ok.frames,I.ok.mod,I.bs,kq I.ok.bsz I.sz,I.stack,I.stkFree,I.hok,I.bare⟩
theorem Inv.after {Q:VK}{u:mF}(I:Inv X Z9 σ H s)(h:CE X.stack X.prog X.w H s Q u s'):EP X Z9 σ Q u s':=by
 obtain⟨v,H',os,bare,un,hok,r,q⟩:=h
 obtain⟨hh,g,d,t,os'⟩:=s'
 obtain rfl:os'=s.os:=os
 exact⟨v,H',I.call (h':=hh) (g':=g) (d':=d) (t':=t) (ch:=[]) un hok bare (λb z=>absurd z (by simp)),r,q⟩
end
def Ln (sp:Sp)(dvs:List V)(E:XK)(t:TA):TE:=λσ H Q=>t σ H λvs H1=>sp (vs++dvs) H1 Q E
def Binds (K:ke)(fd:l0)(ps:List Str)(ds:List mF):Prop :=
 ∀ (s:mn)(us:List mF),K.In s.heap->(us++ds).length=ps.length->ml s fd ⟨us,[]⟩ (ps.zip (us++ds))
theorem Binds.all {K:ke}{fd:l0}{ps:List Str}(h:∀ us:List mF,us.length=ps.length->bindArgs fd ⟨us,[]⟩=pure (ps.zip us)):Binds K fd ps []:=λs us _ hl=>by
 rw[iA] at hl ⊢
 exact .of_eq (h us hl)
def zV (CX:Ha)(X:Cx)(E:XK):Prop:=∀ (Z9:List (mS×Obj))(σ:St)(H:Hp)(s:mn)(e:mF)(s':mn),Inv X Z9 σ H s->CX X.stack H s E e s'->X.xe e s'
section
variable {X:Cx}{CX:Ha}{k:Nat}{f C:mS}{fd:l0}{ps:List Str}{sp:Sp}{dvs:List V}{ds:List mF}{E:XK}{x:Str}{p pos:Pos}{e:Expr}{es:List Expr}{t:TA}
theorem HY {Z9:List (mS×Obj)}{σ:St}{H:Hp}{s:mn}{Q:VK}{us:List mF}{vs:List V}(F:FnOk X.prog X.w X.K X.mg X.base CX k f fd ps sp)(hr:Room k X.A)(hb:Binds X.K fd ps ds)(hd:Vals dvs ds)(hx:zV CX X E)
  (I:Inv X Z9 σ H s)(r:Vals vs us)(h:sp (vs++dvs) H Q E):wpAny (model X.prog X.w) X.A (call (.ref f) us) (EP X Z9 σ Q) X.xe s:=by
 have r2:Vals (vs++dvs) (us++ds):=r.append hd
 have hl:(us++ds).length=ps.length:=by rw[<- r2.length];exact F.len _ _ _ _ h
 refine lm (j8 (F.run X.A X.stack s H ⟨us,[]⟩ (us++ds) (vs++dvs) Q E hr I.env0 (hb s us I.kIn hl) r2 h) λr s' hq=>?_)
 cases r with
 | error e=>exact hx Z9 σ H s e s' I hq
 | ok fl =>
  cases fl with
  | ret u=>exact I.after hq
  | next=>exact lN hq
  | brk=>exact lN hq
  | cont=>exact lN hq
theorem Fo (F:FnOk X.prog X.w X.K X.mg X.base CX k f fd ps sp)(hr:Room k X.A)(hg:Gl X x)(hm:X.mg x=some (.ref f))(hk:i6 X.K (.ref f)=true)(hb:Binds X.K fd ps ds)(hd:Vals dvs ds)(hx:zV CX X E)
  (ha:PA X (e :: es) t)(hdb:(x == ("__debug__":Str))=false:=by decide)(he:starEach (e :: es) X.env=(false,eval e X.env) :: starEach es X.env:=by rfl)(hpl:(backTo pos (starEach es X.env)).any (·.1)=false:=by rfl) :
  PE X (.Call (.Name x p) (e :: es) [] pos) (Ln sp dvs E t):=by
 intro Z9 s σ H Q I h
 refine dq (F0 I hg hm ?_ hdb)
 refine PySem.W.callWith_K (h₀:=X.base) I.ok.mod.kin hk (nV (ha pos Z9 s σ H _ I h) λus s1 ⟨vs,H1,I1,r,q⟩=>⟨I1.kIn,?_⟩) he hpl
 exact HY F hr hb hd hx I1 r q
structure Mk (K:ke)(C f:mS):Prop where
 makes:PySem.W.makesIn K C=true
 init:i7 K (.ref C) "__init__" = some (some (.ref f))
 fn:PySem.W.isFn K (.ref f)=true
 kp:i6 K (.ref C)=true
end
structure FnScope (N P:List Str)(sc:mG):Prop where
 kind:sc.kind=.function
 co:sc.isCoroutine=false
 gen:sc.isGenerator=false
 nd:N.Nodup
 pre:N.take P.length=P
 par:∀ x∈P,sc.names.lookup x=some .local ∨ sc.names.lookup x=some .cell
 nofree:∀ y∈sc.names,y.2≠.free
theorem vS {kindOf:Str->Option lX}{x:Str}:∀ {binds:List (Str×mF)}{m:Str->Option mF},(∀ v,(x,v) ∉ binds)->bindL kindOf binds m x=m x
 | [],_,_=>rfl
 | (n,v) :: r,m,h=>by
  unfold bindL
  rw[vS λw hw=>h w (cI _ hw)]
  split
  ·have:x≠n:=by rintro rfl;exact h v dQ
   simp[this]
  ·rfl
theorem vU {kindOf:Str->Option lX}{x:Str}:∀ {binds:List (Str×mF)}{m:Str->Option mF},(∀ v,(x,v) ∉ binds)->bindC kindOf binds m x=m x
 | [],_,_=>rfl
 | (n,v) :: r,m,h=>by
  unfold bindC
  rw[vU λw hw=>h w (cI _ hw)]
  split
  ·rfl
  ·have:x≠n:=by rintro rfl;exact h v dQ
   simp[this]
theorem vT {kindOf:Str->Option lX}{x:Str}{v:mF}:∀ {P:List Str}{vs:List mF}{i:Nat}{m:Str->Option mF},P.Nodup->P[i]?=some x->vs[i]?=some v->kindOf x=some .local ->
  bindL kindOf (P.zip vs) m x=some v
 | [],_,_,_,_,h,_,_=>by simp at h
 | _ :: _,[],_,_,_,_,h,_=>by simp at h
 | p :: P,w :: vs,0,m,nd,h1,h2,hk=>by
  simp at h1 h2;subst h1;subst h2
  show bindL kindOf ((p,w) :: P.zip vs) m p=_
  unfold bindL
  rw[vS λv hv=>(ig.mp nd).1 (ie hv).1,if_pos hk]
  simp
 | p :: P,w :: vs,i+1,m,nd,h1,h2,hk=>by
  show bindL kindOf ((p,w) :: P.zip vs) m x=_
  unfold bindL
  exact vT (i:=i) (ig.mp nd).2 (by simpa using h1) (by simpa using h2) hk
theorem vV {kindOf:Str->Option lX}{x:Str}{v:mF}:∀ {P:List Str}{vs:List mF}{i:Nat}{m:Str->Option mF},P.Nodup->P[i]?=some x->vs[i]?=some v->kindOf x≠some .local ->
  bindC kindOf (P.zip vs) m x=some v
 | [],_,_,_,_,h,_,_=>by simp at h
 | _ :: _,[],_,_,_,_,h,_=>by simp at h
 | p :: P,w :: vs,0,m,nd,h1,h2,hk=>by
  simp at h1 h2;subst h1;subst h2
  show bindC kindOf ((p,w) :: P.zip vs) m p=_
  unfold bindC
  rw[vU λv hv=>(ig.mp nd).1 (ie hv).1,if_neg hk]
  simp
 | p :: P,w :: vs,i+1,m,nd,h1,h2,hk=>by
  show bindC kindOf ((p,w) :: P.zip vs) m x=_
  unfold bindC
  exact vV (i:=i) (ig.mp nd).2 (by simpa using h1) (by simpa using h2) hk
def start (N:List Str)(vs:List V):St:=vs.map some++jc (N.length-vs.length) none
def zI (CX:Ha)(P:l8)(w:mD)(K:ke)(mg:Str->Option mF)(base:mQ)(N:List Str)(qual:Str)(scope:mG)(f:mS)(cd:mF)(A:mC)(outer:List Env)(s:mn)(H:Hp)(E:XK):Cx where
 prog:=P
 w:=w
 K:=K
 mg:=mg
 base:=base
 A:=A.deeper (envOfC qual scope s.heap.objs.size f cd)
 N:=N
 s₀:=s
 H₀:=H
 env:=envOfC qual scope s.heap.objs.size f cd
 outer:=outer
 stack:=envOfC qual scope s.heap.objs.size f cd :: outer
 ex:=[]
 calm:=true
 fn:=λ_=>true
 pn:=[]
 xe:=λe s'=>wpAny (model P w) (A.deeper (envOfC qual scope s.heap.objs.size f cd)) (leaving (envOfC qual scope s.heap.objs.size f cd) e) (λ_ s''=>CX outer H s E e s'') (λe' s''=>CX outer H s E e' s'') s'
theorem yJ {sc:mG}{n:Nat}{x:Str}(h:sc.names.lookup x=some .cell):∃ c,(cellsFrom n sc.names []).lookup x=some c:=by
 have q:=bF sc.names n [] (.inl h)
 exact aU.mp q
theorem B0 {CX:Ha}{P:l8}{w:mD}{K:ke}{mg:Str->Option mF}{base:mQ}{N ps:List Str}{qual:Str}{scope:mG}{f:mS}{cd:mF}{A:mC}{outer:List Env}{s s1:mn}{H:Hp}{E:XK}{us:List mF}{vs:List V}
  (S:FnScope N ps scope)(hd:A.handled=none)(e0:Env0 P w K mg base A outer s H)(hl:vs.length=ps.length)(r:Vals vs us)
  (x:InCallC s s.heap.objs.size (bindL (envOfC qual scope s.heap.objs.size f cd).kindOf (ps.zip us) λ_=>none) (cellsFrom (s.heap.objs.size+1) scope.names []) (bindC (envOfC qual scope s.heap.objs.size f cd).kindOf (ps.zip us) λ_=>none) s1) :
  Inv (zI CX P w K mg base N qual scope f cd A outer s H E) [] (start N vs) H s1:=by
 have hpl:ps.length<=N.length:=by have:=congrArg kZ S.pre;rw[gi] at this;lia
 obtain⟨h1,tk,rfl,hk⟩:=x.done
 have noA:∀ b:mS,b ∉ (zI CX P w K mg base N qual scope f cd A outer s H E).ex:=λb z=>absurd (show b∈([]:List mS) from z) (by simp)
 refine⟨⟨e0.mod,S.kind,rfl,rfl,kW _,λy z c h1 h2=>?_,λy hy=>?_,λy c _ h=>?_,λ_=>hd,Around.frames_deeper e0.frames,.inr ⟨rfl,rfl⟩,λb z=>absurd z (noA b),e0.bs,e0.bsz,λb _ _=>noA b,λb z=>absurd z (noA b),e0.funs,e0.frf⟩,
  rfl,e0.bare,Un.kept hk,⟨_,x.toInCall.ns,λi y v h1 h2 h3=>?_⟩,λy c h=>⟨_,x.cell y c h⟩,e0.hok.fresh (kW _),λy c h=>?_,λp hp=>absurd (show p∈([]:List (mS×Obj)) from hp) (by simp),e0.hok.kept hk,?_⟩
 ·exact name_of_addr x.apart (cW h1) (cW h2)
 ·have hy:scope.names.lookup y=some .cell ∨ scope.names.lookup y=some .free:=hy
  rcases hy with hy|hy
  ·exact yJ hy
  ·exact absurd rfl (S.nofree _ (cW hy))
 ·exact kr (x.above y c (cW h))
 ·have hi:i<vs.length:=by
   unfold start at h2
   by_cases hi:i<vs.length
   ·exact hi
   ·rw[az (by simpa using hi)] at h2
    rw[bp] at h2
    split at h2<;>cases h2
  have ha:vs[i]?=some v:=by
   unfold start at h2
   rw[aK (by simpa using hi),fx] at h2
   cases e:vs[i]? with
   | none=>rw[e] at h2;cases h2
   | some a=>rw[e] at h2;cases h2;rfl
  obtain⟨u,hu,rv⟩:=r.get ha
  have hp:ps[i]?=some y:=by
   rw[<- S.pre,aW ⋯];exact h1
  have ndP:ps.Nodup:=by rw[<- S.pre];exact S.nd.sublist (fm _ _)
  refine⟨u,rv,?_⟩
  rcases S.par y (cG hp) with k|k
  ·exact .inl ⟨k,vT ndP hp hu k⟩
  ·obtain⟨c,e⟩:=yJ (n:=s.heap.objs.size+1) k
   refine .inr ⟨.inl k,c,e,?_⟩
   have q:=x.cell y c e
   rw[vV ndP hp hu (by show scope.names.lookup y≠_;rw[k];decide)] at q
   exact q
 ·exact e0.hok.fresh (kr (x.above y c (cW h)))
 ·unfold start
  show _=N.length
  rw[dS,iq,cf]
  lia
theorem Mu {CX:Ha}{P:l8}{w:mD}{K:ke}{mg:Str->Option mF}{base:mQ}{k:Nat}{f:mS}{name qual:Str}{params:Arguments}{body:List mP}{scope:mG}{dV kV doc pm cdv ct oc:mF}{an od:Option mS}
  {osl:Array (Option mF)}{N ps:List Str}{sp:Sp}(lk:K.lookup f=some ⟨oc,od,.func (kc name qual params body scope dV kV doc pm an cdv ct),osl⟩)(hcd:i8 K cdv qual=true)(S:FnScope N ps scope)
  (len:∀ vs H Q E,sp vs H Q E->vs.length=ps.length)
  (ZU:∀ (A:mC)(outer:List Env)(s:mn)(H:Hp)(vs:List V)(Q:VK)(E:XK),RoomS k (A.deeper (envOfC qual scope s.heap.objs.size f cdv))->sp vs H Q E ->
   ∃ t,PSs (zI CX P w K mg base N qual scope f cdv A outer s H E) body t/\t { nx:=λ_ H'=>Q .non H',rt:=Q } (start N vs) H) :
  FnOk P w K mg base CX (k+1) f (kc name qual params body scope dV kV doc pm an cdv ct) ps sp:=by
 refine⟨len,λA outer s H args us vs Q E hr e0 hb r hsp=>?_⟩
 have hl:=len _ _ _ _ hsp
 have KX:K.In s.heap:=e0.mod.kin.keeps λb o e=>(e0.bs b o e).1
 have lim:s.heap.NoLimit:=e0.mod.nolimit.keeps λb o e=>(e0.bs b o e).1
 have hkind:∀ y∈ps.zip us,scope.names.lookup y.1=some .local ∨ (scope.names.lookup y.1=some .cell/\((cellsFrom (s.heap.objs.size+1) scope.names []).lookup y.1).isSome=true):=λq1 hy=>by
  obtain⟨n,v⟩:=q1
  rcases S.par n (ie hy).1 with q|q
  ·exact .inl q
  ·exact .inr ⟨q,bF _ _ _ (.inl q)⟩
 refine codeAny_call_function hr.depth (KX _ _ lk) rfl S.co S.gen rfl (PySem.W.codeRec_of KX hcd) (hb _ _ _ _ ?_)
 refine wpAny_newFunctionEnv_cells S.kind hkind λenv he s1 x=>?_
 subst he
 refine⟨lim.keeps x.toInCall.keep,codeAny_func ?_⟩
 obtain⟨t,ht,hq⟩:=ZU A outer s H vs Q E (hr.deeperS _) hsp
 have I:Inv (zI CX P w K mg base N qual scope f cdv A outer s H E) [] (start N vs) H s1:=B0 S hr.hd e0 hl r x
 refine lh (ht [] s1 (start N vs) H _ I hq) (λfl s' hs=>?_) λe s' hs=>hs
 have fin:∀ {σ':St}{H':Hp}{v:V}{u:mF},Inv (zI CX P w K mg base N qual scope f cdv A outer s H E) [] σ' H' s'->RelV v u->Q v H'->CE outer P w H s Q u s' :=
  λ{σ' H' v u} J rv q=>⟨v,H',J.os,J.bare,J.base,J.hok,rv,q⟩
 cases fl with
 | ret u =>
  obtain⟨v,σ',H',J,rv,q⟩:=hs
  exact fin J rv q
 | next =>
  obtain⟨σ',H',J,q⟩:=hs
  exact fin (v:=V.non) (u:=Value.none) J rfl q
 | brk =>
  obtain⟨_,_,_,q⟩:=hs
  exact lN q
 | cont =>
  obtain⟨_,_,_,q⟩:=hs
  exact lN q
end L2
namespace L2
open PySem PySem.Spec PyProof.Rows
section
variable {X:Cx}{x:Str}{p pos:Pos}{e:Expr}{es:List Expr}{t:TA}{id T:String}{r:List V->Hp->VK->Prop}
def OO (r:List V->Hp->VK->Prop)(t:TA):TE:=λσ H Q=>t σ H λvs H1=>r vs H1 Q
theorem qQ (hc:nO X (.builtin id) r)(hg:Gl X x)(hm:X.mg x=none)(hv:bootBuiltins x=some (.builtin id))(ha:PA X (e :: es) t)(hn:x≠"__name__":=by decide)(hdb:(x == ("__debug__":Str))=false:=by decide)
  (he:starEach (e :: es) X.env=(false,eval e X.env) :: starEach es X.env:=by rfl)(hpl:(backTo pos (starEach es X.env)).any (·.1)=false:=by rfl):PE X (.Call (.Name x p) (e :: es) [] pos) (OO r t):=by
 intro Z9 s σ H Q I h
 refine dq (pH I hg hm hv ?_ hn hdb)
 exact PyProof.Rows.callWith_builtin1 (nV (ha pos Z9 s σ H _ I h) λus s1 q1=>by obtain⟨vs,H1,I1,r1,q1⟩:=q1;exact hc Z9 s1 σ H1 vs us Q I1 r1 q1) he hpl
theorem sF (hc:nO X (.type T) r)(hg:Gl X x)(hm:X.mg x=none)(hv:bootBuiltins x=some (.type T))(ha:PA X (e :: es) t)(hn:x≠"__name__":=by decide)(hdb:(x == ("__debug__":Str))=false:=by decide)
  (he:starEach (e :: es) X.env=(false,eval e X.env) :: starEach es X.env:=by rfl)(hpl:(backTo pos (starEach es X.env)).any (·.1)=false:=by rfl):PE X (.Call (.Name x p) (e :: es) [] pos) (OO r t):=by
 intro Z9 s σ H Q I h
 refine dq (pH I hg hm hv ?_ hn hdb)
 exact aj (nV (ha pos Z9 s σ H _ I h) λus s1 q1=>by obtain⟨vs,H1,I1,r1,q1⟩:=q1;exact hc Z9 s1 σ H1 vs us Q I1 r1 q1) he hpl
end
end L2
namespace HT
open PySem PyProof.Rows
def lexLt:List Int->List Int->Bool
 | [],[]=>false
 | [],_ :: _=>true
 | _ :: _,[]=>false
 | x :: xs,y :: ys=>if x=y then lexLt xs ys else decide (x<y)
theorem zq (x y:Int)(xs ys:List Int):lexLt (x :: xs) (y :: ys)=if x=y then lexLt xs ys else decide (x<y):=rfl
theorem uZ:lexLt [] []=false:=rfl
theorem ub (y:Int)(ys:List Int):lexLt [] (y :: ys)=true:=rfl
theorem uc (x:Int)(xs:List Int):lexLt (x :: xs) []=false:=rfl
theorem Eb (A:mC)(s:mn) (a:Int)(t:Tok) (c:Int)(u:Tok):∃ e,lE A s (.int a t) (.int c u) e/\(e=true↔a=c) :=
 ⟨(a == c),dA a t c u,by simp⟩
theorem CZ (A:mC)(s:mn) (a:Int)(t:Tok) (c:Int)(u:Tok)(prog:l8)(w:mD)(E:mF->mn->Prop)(Q:mF->mn->Prop)(h:Q (.bool (decide (a<c))) s) :
  wpAny (model prog w) A (richCompare .Lt (.int a t) (.int c u)) Q E s :=
 (cX h:wpAny (model prog w) A (compareOp .Lt (.int a t) (.int c u)) Q E s)
section
open PySem.SeqAt
open PySem.AutoSeq1 (wpAny_loadPart')
open PySem.MeetsSeq PySem.MeetsSeq2 PySem.MeetsSeq3
theorem uS (l b:mS)(items ZX:Array mF) (n n2:Nat)(dd dd2:Option mS)(sl sl2:Array (Option mF))(ns ms:List Int)(hi:me items.toList ns)(hj:me ZX.toList ms) :
  mJ (mh.«tuple.__lt__» ⟨[.ref l,.ref b],[]⟩)
   (λ_ R s=>s.heap.get? l=some { cls:=.type "tuple",dict:=dd,data:=.seq items n,slots:=sl }/\s.heap.get? b=some { cls:=.type "tuple",dict:=dd2,data:=.seq ZX n2,slots:=sl2 } /\
    R (.ok (.ret (.bool (lexLt ns ms)))) s) :=
 .of_wp λprog w A R s h=>by
  obtain⟨hp,g,d,tk,os⟩:=s;obtain⟨hl,hb,h⟩:=h
  have f2:=bd
  have z1:items.size=ns.length:=by rw[<- hi.length];simp
  have z2:ZX.size=ms.length:=by rw[<- hj.length];simp
  wp_walk using gJ hl,gJ hb,fN _ (λrest b s'=>b.1=none/\s'=⟨hp,g,d,tk,os⟩/\∃ (vs ws:List mF)(ns' ms':List Int),rest=vs.zip ws /\
   me vs ns'/\me ws ms'/\ns'.length+ZX.size=ms'.length+items.size/\R (.ok (.ret (.bool (lexLt ns' ms')))) ⟨hp,g,d,tk,os⟩) _
  case turn =>
   rintro⟨y,x⟩ rest b s' ⟨hb',rfl,vs,ws,ns',ms',hz,hvi,hwi,hlen,hR⟩
   cases hvi with
   | nil=>rw[fj] at hz;cases hz
   | cons a t hvi' =>
    cases hwi with
    | nil=>rw[dJ] at hz;cases hz
    | cons c u hwi' =>
     rw[dL] at hz
     injection hz with hyx hrest
     injection hyx with hy hx
     subst hy hx
     rw[zq] at hR
     simp -iota only[gm] at hlen
     obtain⟨e,he,hiff⟩:=Eb A.in1 ⟨hp,g,d,tk,os⟩ a t c u
     refine lq (he prog w _ _ ?_)
     cases e with
     | true =>
      rw[if_pos (hiff.mp rfl)] at hR
      wp_walk
      exact⟨rfl,rfl,_,_,_,_,hrest,hvi',hwi',by lia,hR⟩
     | false =>
      rw[if_neg (λq=>absurd (hiff.mpr q) eB)] at hR
      have hri:=CZ A.in1 ⟨hp,g,d,tk,os⟩ a t c u prog w
      wp_walk using hri
      exact⟨_,rfl,by simpa using hR⟩
  case fin =>
   rintro⟨b1,b2⟩ s' ⟨hb',rfl,vs,ws,ns',ms',hz,hvi,hwi,hlen,hR⟩
   simp only at hb'
   subst hb'
   have hv:lexLt ns' ms'=decide (items.size<ZX.size):=by
    cases hvi with
    | nil =>
     cases hwi with
     | nil =>
      simp -iota only[ip] at hlen
      rw[uZ]
      exact (decide_eq_false ⋯).symm
     | cons c u hw =>
      simp -iota only[ip,gm] at hlen
      rw[ub]
      exact (decide_eq_true ⋯).symm
    | cons a t hv =>
     cases hwi with
     | nil =>
      simp -iota only[ip,gm] at hlen
      rw[uc]
      exact (decide_eq_false ⋯).symm
     | cons c u hw =>
      rw[dL] at hz
      cases hz
   rw[hv] at hR
   wp_walk
   exact⟨_,rfl,by simpa[ag] using hR⟩
  case h =>
   exact⟨rfl,rfl,items.toList,ZX.toList,ns,ms,rfl,hi,hj,by lia,h⟩
end
section
variable {prog:l8}{w:mD}{A:mC}{E:mF->mn->Prop}{s:mn}
theorem lt_tupInts {l b:mS}{items ZX:Array mF}{ns ms:List Int}{Q:mF->mn->Prop}(hl:mL s.heap l items)(hb:mL s.heap b ZX)(hi:me items.toList ns)(hj:me ZX.toList ms)
  (hu:A.units<cLine)(h:Q (.bool (lexLt ns ms)) s):wpAny (model prog w) A (compareOp .Lt (.ref l) (.ref b)) Q E s:=by
 obtain⟨⟨cls,dd,data,sl⟩,ho,hc,n,hd⟩:=id hl
 obtain⟨⟨cls2,dd2,data2,sl2⟩,ho2,hc2,n2,hd2⟩:=id hb
 simp only at hc hd hc2 hd2
 subst hc hd hc2 hd2
 exact bD (op:=.Lt) ⟨_,ho,rfl⟩ ⟨_,ho2,rfl⟩ bW bH (bm _ _) (uS l b items ZX n n2 dd dd2 sl sl2 ns ms hi hj)
  ⟨ho,ho2,show Value.bool (lexLt ns ms)≠Value.notImplemented/\Q (.bool (lexLt ns ms)) s from ⟨(λx=>nomatch x),h⟩⟩ hu
theorem cat_tup {t b:mS}{vs ws:List mF}{Q:mF->mn->Prop}(ht:mL s.heap t vs.toArray)(hb:mL s.heap b ws.toArray)(hv:vs≠[])
  (h1:ws=[]->Q (.ref t) s)(h2:ws≠[]->Q (.ref s.heap.objs.size) { s with heap:=s.heap.push { cls:=.type "tuple",data:=.seq (vs++ws).toArray } })
  (hsz:vs.length+ws.length<=sizeLine):wpAny (model prog w) A (binaryOp .Add (.ref t) (.ref b)) Q E s:=by
 obtain⟨⟨cls,dd,data,sl⟩,ho,hc,n,hd⟩:=id ht
 obtain⟨⟨cls2,dd2,data2,sl2⟩,ho2,hc2,n2,hd2⟩:=id hb
 simp only at hc hd hc2 hd2
 subst hc hd hc2 hd2
 have e:vs.toArray++ws.toArray=(vs++ws).toArray:=by simp
 by_cases hw:ws=[]
 ·exact j7 ⟨_,ho,rfl⟩ ⟨_,ho2,rfl⟩ fR jv bG bj (aS _ _)
   (tuple_addW1 t b vs.toArray ws.toArray n n2 dd dd2 sl sl2 (by simpa using hv) (by simp[hw])) ⟨ho,ho2,h1 hw⟩
 ·refine j7 ⟨_,ho,rfl⟩ ⟨_,ho2,rfl⟩ fR jv bG bj (aS _ _)
   (tuple_addW2 t b vs.toArray ws.toArray n n2 dd dd2 sl sl2 (by simpa using hv) (by simpa using hw) (by rw[fo,fo];exact hsz)) ⟨ho,ho2,?_⟩
  rw[e]
  exact h2 hw
def sIx (n d:Nat):Option Int->Nat
 | none=>d
 | some v=>if v<0 then (v+(n:Int)).toNat else min v.toNat n
theorem HX (n d:Nat)(hd:d<=n)(o:Option Int):sIx n d o<=n:=by
 cases o with
 | none=>exact hd
 | some v =>
  show (if v<0 then (v+(n:Int)).toNat else min v.toNat n)<=n
  by_cases hv:v<0
  ·rw[if_pos hv];lia
  ·rw[if_neg hv];exact Nat.min_le_right _ _
theorem A4 (v:Int) (n d:Nat):(if v<0 then max (v+(n:Int)) 0 else min v (n:Int))=((sIx n d (some v):Nat):Int):=by
 show (if v<0 then max (v+(n:Int)) 0 else min v (n:Int))=(((if v<0 then (v+(n:Int)).toNat else min v.toNat n):Nat):Int)
 by_cases hv:v<0
 ·simp -iota only[if_pos hv];lia
 ·simp -iota only[if_neg hv];lia
theorem zS (lo hi:Option Int) (n:Nat):aO lo hi 1 (n:Int)=(((sIx n 0 lo:Nat):Int),((sIx n n hi:Nat):Int)):=by
 have h1:¬ ((1:Int)<0):=by lia
 unfold aO
 simp -iota only[h1,if_false]
 refine Prod.ext ?_ ?_
 ·cases lo with
  | none=>rfl
  | some v=>exact A4 v n 0
 ·cases hi with
  | none=>rfl
  | some v=>exact A4 v n n
theorem zf (i j:Nat):aN (i:Int) (j:Int) 1=j-i:=by
 unfold aN
 have h1:(1:Int) > 0:=by lia
 simp -iota only[h1,if_true,Int.ediv_one]
 split<;>lia
theorem tO {v:mF}{o:Option Int}{Q:Option Int->mn->Prop}(p:mw v o)(h:Q o s):wpAny (model prog w) A (Builtin.Slice.slicePartIndex v) Q E s:=by
 cases p with
 | none=>exact iR h
 | int i t=>exact slicePart_int h
theorem sliceApplied_gen {sl:mS}{vl vu:mF}{lo hi:Option Int}{n:Nat}{Q:Int×Int×Nat->mn->Prop}(hs:s.heap.IsSliceOf sl vl vu .none)(pl:mw vl lo)(pu:mw vu hi)
  (h:Q (((sIx n 0 lo:Nat):Int),1,sIx n n hi-sIx n 0 lo) s):wpAny (model prog w) A (aF (.ref sl) (pure (n:Int))) Q E s:=by
 obtain⟨os,hos,hcs,hds⟩:=id hs
 unfold aF Builtin.Slice.sliceFields
 refine lq (lq (kO hos hds (x:=vl) rfl (lq (kO hos hds (x:=vu) rfl (lq (kO hos hds (x:=.none) rfl (lg ?_)))))))
 refine lq (iR ?_)
 show wpAny _ _ (if ((1:Int) == 0)=true then _ else _) _ _ s
 rw[if_neg (by decide)]
 refine lq (tO pl (lq (tO pu (lq (lg ?_)))))
 show wpAny _ _ (match aO lo hi 1 (n:Int) with|(lo,hi)=>pure (lo,(1:Int),aN lo hi 1)) _ _ s
 rw[zS lo hi n]
 show wpAny _ _ (pure (((sIx n 0 lo:Nat):Int),(1:Int),aN ((sIx n 0 lo:Nat):Int) ((sIx n n hi:Nat):Int) 1)) _ _ s
 rw[zf]
 exact lg h
theorem Dc (xs:Array mF) (i k:Nat):((lL k).filterMap λ(m:Nat)=>xs[((i:Int)+(m:Int)*1).toNat]?).toArray=((xs.toList.drop i).take k).toArray:=by
 have e:(λ(m:Nat)=>xs[((i:Int)+(m:Int)*1).toNat]?)=λm=>xs[i+m]?:=by
  funext m
  have:((i:Int)+(m:Int)*1).toNat=i+m:=by lia
  rw[this]
 rw[e]
 have:=pick_run xs i k
 rw[dW] at this
 have e2:((λx=>xs[x]?) ∘ λx=>i+x)=λm=>xs[i+m]?:=rfl
 rw[e2] at this
 rw[this]
theorem getItem_tuple_cut {t sl:mS}{items:Array mF}{vl vu:mF}{lo hi:Option Int}{Q:mF->mn->Prop}(ht:mL s.heap t items)(hs:s.heap.IsSliceOf sl vl vu .none)(pl:mw vl lo)(pu:mw vu hi)
  (hw:¬ (sIx items.size 0 lo=0/\sIx items.size items.size hi=items.size))
  (h:Q (.ref s.heap.objs.size) { s with heap:=s.heap.push { cls:=.type "tuple",data:=.seq ((items.toList.drop (sIx items.size 0 lo)).take (sIx items.size items.size hi-sIx items.size 0 lo)).toArray } })
  (hsz:items.size<=sizeLine):wpAny (model prog w) A (getItem (.ref t) (.ref sl)) Q E s:=by
 have htake:sizeOk (.seq ((items.toList.drop (sIx items.size 0 lo)).take (sIx items.size items.size hi-sIx items.size 0 lo)).toArray):=by
  show ((items.toList.drop (sIx items.size 0 lo)).take (sIx items.size items.size hi-sIx items.size 0 lo)).toArray.size<=sizeLine
  rw[fo,gi,gj,dj]
  lia
 have hj:sIx items.size items.size hi<=items.size:=HX _ _ (kW _) hi
 obtain⟨os,hos,hcs,hds⟩:=id hs
 have hTs:s.TypeIs (.ref sl) "slice":=⟨os,hos,hcs⟩
 unfold getItem
 try with_reducible refine jq ?_
 first|refine lq (lg ?_)|skip
 refine lq (eK ht.typeIs (by decide) ?_)
 refine lq (bh (name:=j9 "__getitem__") ht.typeIs af
  (fP af ht.typeIs cV ?_ (dz _ _)))
 show wpAny _ _ (aD (.ref t) >>= _) _ _ s
 refine lq (ju ht ?_)
 refine lq (j0 hTs ?_)
 rw[if_pos (by decide)]
 refine lq (sliceApplied_gen hs pl pu ?_)
 have hno:¬ ((((sIx items.size 0 lo:Nat):Int) == 0 && (1:Int) == 1 && (sIx items.size items.size hi-sIx items.size 0 lo) == items.size)=true):=by
  intro q
  rw[gF,gF] at q
  have q1:((sIx items.size 0 lo:Nat):Int)=0:=eq_of_beq q.1.1
  have q2:sIx items.size items.size hi-sIx items.size 0 lo=items.size:=eq_of_beq q.2
  exact hw ⟨by lia,by lia⟩
 show wpAny _ _ (if (((sIx items.size 0 lo:Nat):Int) == 0 && (1:Int) == 1 && (sIx items.size items.size hi-sIx items.size 0 lo) == items.size)=true then _ else _) _ _ s
 rw[if_neg hno,Dc]
 first
  | exact lq (m:=aY _) (eO (lg ⟨_,rfl,lg h⟩) htake)
  | exact lq (m:=aY _) (eO (lq (lg (lg ⟨_,rfl,lg h⟩))) htake)
  | exact lq (lq (m:=aY _) (eO (lg (lg ⟨_,rfl,lg h⟩)) htake))
  | exact lq (lq (m:=aY _) (eO (lg ⟨_,rfl,lg h⟩) htake))
end
end HT
namespace L2
open PySem PySem.Spec PyProof.Rows
abbrev TO:=St->Hp->(Option Int->Hp->Prop)->Prop
def PO (X:Cx)(e:Option Expr)(t:TO):Prop :=
 ∀ (Z9:List (mS×Obj))(s:mn)(σ:St)(H:Hp)(Q:Option Int->Hp->Prop),Inv X Z9 σ H s->t σ H Q ->
  wpAny (model X.prog X.w) X.A (evalPart e X.env) (λu s'=>∃ o H',Inv X Z9 σ H' s'/\mw u o/\Q o H') X.xe s
def EU:TO:=λ_ H Q=>Q none H
def Lg (t:TE):TO:=λσ H Q=>t σ H λx H1=>∃ i,x=.int i/\Q (some i) H1
theorem intsAre_of {ns:List Int}:∀ {us:List mF},Vals (ns.map V.int) us->me us ns:=by
 induction ns with
 | nil=>intro us r;rw[kF] at r;cases r;exact .nil
 | cons n ns ih =>
  intro us r
  rw[jQ] at r
  cases r with
  | cons r1 r2 =>
   obtain⟨t,e⟩:=r1
   subst e
   exact .cons n t (ih r2)
section
variable {X:Cx}{e:Expr}{te:TE}{lo hi:Option Expr}{tl th:TO}{pos p2:Pos}
theorem Fj:PO X none EU:=by
 intro Z9 s σ H Q I h
 rw[jA]
 exact lg ⟨none,H,I,.none,h⟩
theorem Fi (h:PE X e te):PO X (some e) (Lg te):=by
 intro Z9 s σ H Q I hw
 rw[jz]
 refine nV (h Z9 s σ H _ I hw) λu s1 q1=>?_;obtain⟨x,H1,I1,r1,q1⟩:=q1
 obtain⟨i,rfl,q⟩:=q1
 obtain⟨t,rfl⟩:=r1
 exact⟨some i,H1,I1,.int i t,q⟩
def KN (X:Cx)(r:V->Option Int->Option Int->Hp->VK->Prop):Prop :=
 ∀ (Z9:List (mS×Obj))(s:mn)(σ:St)(H:Hp)(x:V)(v vl vu:mF)(lo hi:Option Int)(sl:mS)(Q:VK),Inv X Z9 σ H s->RelV x v->s.heap.IsSliceOf sl vl vu .none->mw vl lo->mw vu hi->r x lo hi H Q ->
  ∃ T id,typeLookup (.type T) "__getitem__" = pure (some (.builtin id))/\s.TypeIs v T/\wpAny (model X.prog X.w) X.A (getItem v (.ref sl)) (EP X Z9 σ Q) X.xe s
def tSl (r:V->Option Int->Option Int->Hp->VK->Prop)(te:TE)(tl th:TO):TE:=λσ H Q=>te σ H λx H1=>tl σ H1 λl H2=>th σ H2 λu H3=>r x l u H3 Q
theorem tX {r:V->Option Int->Option Int->Hp->VK->Prop}(hr:KN X r)(he:PE X e te)(hl:PO X lo tl)(hu:PO X hi th):PE X (.Subscript e (.Slice lo hi none p2) pos) (tSl r te tl th):=by
 intro Z9 s σ H Q I h
 refine lD (nV (he Z9 s σ H _ I h) λv s1 ⟨x,H1,I1,r1,q1⟩=>?_)
 refine wpAny_Slice (nV (hl Z9 s1 σ H1 _ I1 q1) λvl s2 ⟨l,H2,I2,pl,q2⟩=>nV (hu Z9 s2 σ H2 _ I2 q2) λvu s3 ⟨u,H3,I3,pu,q3⟩=>?_)
 rw[jA]
 refine lg ?_
 have I4:Inv X Z9 σ H3 { s3 with heap:=s3.heap.push { cls:=.type "slice",data:=.fields #[vl,vu,.none] } }:=I3.kept (t':=s3.toks) λb ob q=>bQ _ q
 obtain⟨T,id,hT,ht,hg⟩:=hr Z9 { s3 with heap:=s3.heap.push { cls:=.type "slice",data:=.fields #[vl,vu,.none] } } σ H3 x v vl vu l u s3.heap.objs.size Q I4 r1 (dZ ..) pl pu q3
 show wpAny (model X.prog X.w) X.A (subscriptTail e (.Slice lo hi none p2) v (.ref s3.heap.objs.size)) (EP X Z9 σ Q) X.xe { s3 with heap:=s3.heap.push { cls:=.type "slice",data:=.fields #[vl,vu,.none] } }
 exact tail_any (ops:=[.ref s3.heap.objs.size,v]) ht hT hg (by with_unfolding_all rfl)
def yE (xs:List V)(lo hi:Option Int):List V:=(xs.drop (HT.sIx xs.length 0 lo)).take (HT.sIx xs.length xs.length hi-HT.sIx xs.length 0 lo)
theorem sV (xs:List V)(lo hi:Option Int):(yE xs lo hi).length<=xs.length:=by
 unfold yE
 rw[gi,gj]
 lia
inductive rSlT (K:ke)(x:V)(lo:Option Int)(hi:Option Int)(H:Hp)(Q:VK):Prop
 | mk (a:_)(xs:_)(_:x=.ref a)(_:SqT K H a xs)(_:¬ (HT.sIx xs.length 0 lo=0/\HT.sIx xs.length xs.length hi=xs.length))(_:∀ p,H p=none->Q (.ref p) (n5 H p (.tup (yE xs lo hi)))):rSlT K x lo hi H Q
theorem HS:KN X (rSlT X.K):=by
 intro Z9 s σ H x v vl vu lo hi sl Q I rx hs pl pu h
 obtain⟨a,xs,rfl,hx,hw,q⟩:=h
 cases rx
 obtain⟨Z7,r,ht,hz⟩:=I.tuple hx
 have hlen:Z7.toArray.size=xs.length:=by rw[fo];exact r.length.symm
 refine⟨"tuple",_,af.lookup,ht.typeIs,?_⟩
 refine HT.getItem_tuple_cut ht hs pl pu (by rw[hlen];exact hw) ?_ (by rw[hlen];exact hz)
 rw[hlen]
 refine⟨.ref s.heap.objs.size,_,I.laid (t':=s.toks) (o:=.tup (yE xs lo hi)) (λb ob q=>bQ _ q) (kW _) ?_,rfl,q _ (I.hok.fresh (kW _))⟩
 exact⟨kq (sV xs lo hi) hz,_,(r.drop (HT.sIx xs.length 0 lo)).take (HT.sIx xs.length xs.length hi-HT.sIx xs.length 0 lo),lQ _ _⟩
inductive rLtT (K:ke)(x:V)(y:V)(H:Hp)(Q:VK):Prop
 | mk (a:_)(b:_)(ns:_)(ms:_)(_:x=.ref a)(_:y=.ref b)(_:SqT K H a (ns.map V.int))(_:SqT K H b (ms.map V.int))(_:Q (.bl (HT.lexLt ns ms)) H):rLtT K x y H Q
theorem IU (hu:X.A.units<cLine):pD X (compareOp .Lt) (rLtT X.K):=by
 intro Z9 s σ H x y v u Q I rx ry h
 obtain⟨a,b,ns,ms,rfl,rfl,ha,hb,q⟩:=h
 cases rx
 cases ry
 obtain⟨Z7,r1,p1,_⟩:=I.tuple ha
 obtain⟨its2,r2,p2,_⟩:=I.tuple hb
 have i1:me Z7.toArray.toList ns:=intsAre_of r1
 have i2:me its2.toArray.toList ms:=intsAre_of r2
 exact HT.lt_tupInts p1 p2 i1 i2 hu ⟨.bl (HT.lexLt ns ms),H,I,rfl,q⟩
inductive rCatT (K:ke)(x:V)(y:V)(H:Hp)(Q:VK):Prop
 | mk (a:_)(b:_)(xs:_)(ys:_)(_:x=.ref a)(_:y=.ref b)(_:SqT K H a xs)(_:SqT K H b ys)(_:xs≠[])(_:xs.length+ys.length<=sizeLine)(_:(ys=[]->Q (.ref a) H))(_:(ys≠[]->∀ p,H p=none->Q (.ref p) (n5 H p (.tup (xs++ys))))):rCatT K x y H Q
theorem Vals.nil_iff {xs:List V}{us:List mF}(r:Vals xs us):us=[]↔xs=[]:=by
 cases r with
 | nil=>simp
 | cons _ _=>simp
theorem Fw:pD X (binaryOp .Add) (rCatT X.K):=by
 intro Z9 s σ H x y v u Q I rx ry h
 obtain⟨a,b,xs,ys,rfl,rfl,ha,hb,hx,hz,q1,q2⟩:=h
 cases rx
 cases ry
 obtain⟨Z7,r1,p1,_⟩:=I.tuple ha
 obtain⟨its2,r2,p2,_⟩:=I.tuple hb
 refine HT.cat_tup p1 p2 (λz=>hx (r1.nil_iff.mp z)) (λz=>⟨.ref a,H,I,rfl,q1 (r2.nil_iff.mp z)⟩) (λz=>?_) (by rw[<- r1.length,<- r2.length];exact hz)
 refine⟨.ref s.heap.objs.size,_,I.laid (t':=s.toks) (o:=.tup (xs++ys)) (λb ob q=>bQ _ q) (kW _) ?_,rfl,q2 (λw=>z (r2.nil_iff.mpr w)) _ (I.hok.fresh (kW _))⟩
 exact⟨by rw[dS];exact hz,_,r1.append r2,lQ _ _⟩
end
end L2
namespace L2
open PySem PySem.Spec PyProof.Rows
def ixN (n:Nat) (i:Int):Option Nat:=if 0<=i then (if i<n then some i.toNat else none) else if -(n:Int)<=i then some (i+n).toNat else none
def atI {α:Type}(xs:List α) (i:Int):Option α:=(ixN xs.length i).bind λj=>xs[j]?
theorem AG {n:Nat}{i:Int}{j:Nat}(h:ixN n i=some j):seqIndex? i n=some j/\j<n/\-(n:Int)<=i/\i<n:=by
 unfold ixN at h
 by_cases h0:0<=i
 ·rw[if_pos h0] at h
  by_cases h1:i<n
  ·rw[if_pos h1] at h
   have e:i.toNat=j:=gX h
   exact⟨by rw[kQ h0 h1,e],by lia,by lia,h1⟩
  ·rw[if_neg h1] at h;cases h
 ·rw[if_neg h0] at h
  by_cases h1:-(n:Int)<=i
  ·rw[if_pos h1] at h
   have e:(i+n).toNat=j:=gX h
   exact⟨by rw[j5 ⋯ h1,e],by lia,h1,by lia⟩
  ·rw[if_neg h1] at h;cases h
theorem A8 {α:Type}{xs:List α}{i:Int}{v:α}(h:atI xs i=some v):∃ j,seqIndex? i xs.length=some j/\xs[j]?=some v/\j<xs.length/\-(xs.length:Int)<=i/\i<xs.length:=by
 unfold atI at h
 cases e:ixN xs.length i with
 | none=>rw[e] at h;cases h
 | some j =>
  rw[e] at h
  obtain⟨h1,h2,h3,h4⟩:=AG e
  exact⟨j,h1,h,h2,h3,h4⟩
def Bd (b:Expr):Prop:=∀ o i,subscripted b false o i=operate [o,i] (getItem o i)
def OA (X:Cx)(r:R2):Prop :=
 ∀ (value slice:Expr)(Z9:List (mS×Obj))(s:mn)(σ:St)(H:Hp)(x y:V)(v u:mF)(Q:VK),Inv X Z9 σ H s->RelV x v->RelV y u->r x y H Q ->
  subscripted slice false v u=operate [v,u] (getItem v u)->wpAny (model X.prog X.w) X.A (subscriptTail value slice v u) (EP X Z9 σ Q) X.xe s
def MtR (X:Cx)(id:String)(r:V->List V->Hp->VK->Prop):Prop :=
 ∀ (Z9:List (mS×Obj))(s:mn)(σ:St)(H:Hp)(x:V)(xs:List V)(v:mF)(us:List mF)(Q:VK),Inv X Z9 σ H s->RelV x v->Vals xs us->r x xs H Q ->
  wpAny (model X.prog X.w) X.A (call (.builtin id) (v :: us)) (EP X Z9 σ Q) X.xe s
section
variable {X:Cx}{a b:Expr}{ta tb:TE}{pos:Pos}
theorem Hm {r:R2}(hr:OA X r)(ha:PE X a ta)(hb:PE X b tb)(hs:Bd b):PE X (.Subscript a b pos) (HJ r ta tb):=by
 intro Z9 s σ H Q I h
 exact lD (Ki ha hb I h λv u s2 x y H2 I2 rx ry q=>hr a b Z9 s2 σ H2 x y v u Q I2 rx ry q (hs _ _))
inductive rIxL (K:ke)(x:V)(y:V)(H:Hp)(Q:VK):Prop
 | mk (p:_)(xs:_)(i:_)(v:_)(_:x=.ref p)(_:y=.int i)(_:SqL K H p xs)(_:atI xs i=some v)(_:Q v H):rIxL K x y H Q
inductive rIxT (K:ke)(x:V)(y:V)(H:Hp)(Q:VK):Prop
 | mk (p:_)(xs:_)(i:_)(v:_)(_:x=.ref p)(_:y=.int i)(_:SqT K H p xs)(_:atI xs i=some v)(_:Q v H):rIxT K x y H Q
theorem F8:OA X (rIxL X.K):=by
 intro value slice Z9 s σ H x y v u Q I rx ry h hs
 obtain⟨p,xs,i,z,rfl,rfl,hq,he,q⟩:=h
 cases rx
 obtain⟨t,rfl⟩:=ry
 obtain⟨Z7,r,pl,hz⟩:=I.list hq
 obtain⟨j,h1,h2,h3,h4,h5⟩:=A8 he
 obtain⟨w,ew,rw'⟩:=r.get h2
 have hl:=r.length
 have hn:=ua
 have fin:EP X Z9 σ Q w s:=⟨z,H,I,rw',q⟩
 by_cases h0:0<=i
 ·have hj:i.toNat=j:=by
   rw[kQ h0 h5] at h1
   exact gX h1
  exact item_listR pl.isList h0 ⋯ (by rw[hj];simpa using ew) fin hs
 ·have hj:(i+(Z7.toArray.size:Int)).toNat=j:=by
   rw[j5 ⋯ h4] at h1
   rw[fo,<- hl]
   exact gX h1
  exact bC (x:=w) pl.isList.typeIs eQ.lookup
   (wpAny_getItem_list_neg (Q:=λr s'=>r=w/\EP X Z9 σ Q r s') pl.isList ⋯ (by rw[fo]<;>lia) ⋯ (by rw[hj];simpa using ew) ⟨rfl,fin⟩) hs
theorem Jg:OA X (rIxT X.K):=by
 intro value slice Z9 s σ H x y v u Q I rx ry h hs
 obtain⟨p,xs,i,z,rfl,rfl,hq,he,q⟩:=h
 cases rx
 obtain⟨t,rfl⟩:=ry
 obtain⟨Z7,r,pl,hz⟩:=I.tuple hq
 obtain⟨j,h1,h2,h3,h4,h5⟩:=A8 he
 obtain⟨w,ew,rw'⟩:=r.get h2
 have hl:=r.length
 have hn:=ua
 have fin:EP X Z9 σ Q w s:=⟨z,H,I,rw',q⟩
 exact bC (x:=w) pl.typeIs slot_tuple_getitem.lookup
  (getItem_tuple (j:=j) (Q:=λr s'=>r=w/\EP X Z9 σ Q r s') pl ⋯ ⋯ (by rw[fo,<- hl];exact h1) (by simpa using ew) ⟨rfl,fin⟩) hs
theorem zn (Z7:List mF) (n j:Nat)(u:mF):lH (·.setIfInBounds j u) { cls:=.type "list",data:=.seq Z7.toArray n } = { cls:=.type "list",data:=.seq (Z7.set j u).toArray n }:=by
 simp[lH]
theorem Inv.lst {Z9:List (mS×Obj)}{σ:St}{H:Hp}{s:mn}{p:mS}{xs:List V}(I:Inv X Z9 σ H s)(h:H p=some (.lst xs)) :
  ∃ (Z7:List mF) (n:Nat),Vals xs Z7/\s.heap.get? p=some { cls:=.type "list",data:=.seq Z7.toArray n }/\xs.length<=sizeLine:=by
 obtain⟨z,Z7,n,r,e⟩:=I.hok p _ h
 exact⟨Z7,n,r,e,z⟩
theorem Inv.lstUpd {Z9:List (mS×Obj)}{σ:St}{H:Hp}{s:mn}{p:mS}{xs ys:List V}{Z7 its':List mF}{n n':Nat}{f:Obj->Obj}(I:Inv X Z9 σ H s)(h:H p=some (.lst xs))
  (ho:s.heap.get? p=some { cls:=.type "list",data:=.seq Z7.toArray n })(hf:f { cls:=.type "list",data:=.seq Z7.toArray n } = { cls:=.type "list",data:=.seq its'.toArray n' })(r:Vals ys its')(hz:ys.length<=sizeLine) (t:Nat) :
  Inv X Z9 σ (n5 H p (.lst ys)) { s with heap:=s.heap.update p f,toks:=t }:=by
 have e:(s.heap.update p f).get? p=some { cls:=.type "list",data:=.seq its'.toArray n' }:=by
  rw[ck f ho (by rw[hf]<;>rfl),hf]
 refine I.write (x:=p) (e:=p) (by rw[h];trivial) (.inl rfl) (λb u hb q=>(bP _ _ (ma hb)).trans q) ⟨_,e⟩ ?_
 exact⟨hz,its',n',r,e⟩
inductive rSetL (o:V)(i:V)(v:V)(H:Hp)(Q:(Hp->Prop)):Prop
 | mk (p:_)(xs:_)(k:_)(j:_)(_:o=.ref p)(_:i=.int k)(_:H p=some (.lst xs))(_:ixN xs.length k=some j)(_:Q (n5 H p (.lst (xs.set j v)))):rSetL o i v H Q
theorem CP:M5 X rSetL:=by
 intro Z9 s σ H o i v ov iv u Q I ro ri rv h
 obtain⟨p,xs,k,j,rfl,rfl,hp,hj,q⟩:=h
 cases ro
 obtain⟨t,rfl⟩:=ri
 obtain⟨Z7,n,r,ho,hz⟩:=I.lst hp
 obtain⟨h1,h2,h3,h4⟩:=AG hj
 have hl:=r.length
 have hn:=ua
 have I':Inv X Z9 σ (n5 H p (.lst (xs.set j v))) { s with heap:=s.heap.update p (lH (·.setIfInBounds j u)) } :=
  I.lstUpd hp ho (zn Z7 n j u) (r.set rv j) (by rw[im];exact hz) s.toks
 by_cases h0:0<=k
 ·have hk:k.toNat=j:=by
   rw[kQ h0 h4] at h1
   exact gX h1
  exact PySem.W.ki_setAt ho h0 ⋯ (by rw[fo,<- hl];exact h4) (by rw[hk];exact⟨_,I',q⟩)
 ·have hk:(k+(Z7.toArray.size:Int)).toNat=j:=by
   rw[j5 ⋯ h3] at h1
   rw[fo,<- hl]
   exact gX h1
  exact PySem.W.ki_setBack ho ⋯ (by rw[fo,<- hl];exact h3) ⋯ (by rw[hk];exact⟨_,I',q⟩)
theorem wu (lo hi:Option Int) (n:Nat):(sliceBounds lo hi none n).1=((HT.sIx n 0 lo:Nat):Int)/\(sliceBounds lo hi none n).2.1=((HT.sIx n n hi:Nat):Int)/\(sliceBounds lo hi none n).2.2=1:=by
 refine⟨?_,?_,rfl⟩
 ·cases lo with
  | none=>simp[sliceBounds,HT.sIx]
  | some i =>
   simp only[sliceBounds,HT.sIx,fX,show (1:Int) > 0 by decide,if_true]
   by_cases h:i<0
   ·simp only[h,if_true]<;>lia
   ·simp only[h,if_false]<;>lia
 ·cases hi with
  | none=>simp[sliceBounds,HT.sIx]
  | some i =>
   simp only[sliceBounds,HT.sIx,fX,show (1:Int) > 0 by decide,if_true]
   by_cases h:i<0
   ·simp only[h,if_true]<;>lia
   ·simp only[h,if_false]<;>lia
theorem uW (Z7:List mF)(lo hi:Option Int):slicePick Z7.toArray lo hi none=((Z7.drop (HT.sIx Z7.length 0 lo)).take (HT.sIx Z7.length Z7.length hi-HT.sIx Z7.length 0 lo)).toArray:=by
 obtain⟨h1,h2,h3⟩:=wu lo hi Z7.toArray.size
 unfold slicePick
 rw[h1,h2,h3]
 simp -iota only[sliceRange_one,pick_run,fo]<;>rfl
inductive rSlL (K:ke)(x:V)(lo:Option Int)(hi:Option Int)(H:Hp)(Q:VK):Prop
 | mk (a:_)(xs:_)(_:x=.ref a)(_:SqL K H a xs)(_:∀ p,H p=none->Q (.ref p) (n5 H p (.lst (yE xs lo hi)))):rSlL K x lo hi H Q
theorem Ah:KN X (rSlL X.K):=by
 intro Z9 s σ H x v vl vu lo hi sl Q I rx hs pl pu h
 obtain⟨a,xs,rfl,hx,q⟩:=h
 cases rx
 obtain⟨Z7,r,ht,hz⟩:=I.list hx
 have hlen:=r.length
 refine⟨"list",_,eQ.lookup,ht.isList.typeIs,?_⟩
 refine aQ ht.isList hs pl pu .none (by simp) ?_ (by rw[fo]<;>lia)
 rw[uW,<- hlen]
 refine⟨.ref s.heap.objs.size,_,I.laid (t':=s.toks) (o:=.lst (yE xs lo hi)) (λb ob q=>bQ _ q) (kW _) ?_,rfl,q _ (I.hok.fresh (kW _))⟩
 exact⟨kq (sV xs lo hi) hz,_,0,(r.drop (HT.sIx xs.length 0 lo)).take (HT.sIx xs.length xs.length hi-HT.sIx xs.length 0 lo),da _ rfl⟩
theorem w9:nO X (.builtin "len") (λxs H Q=>∃ p ys,xs=[.ref p]/\(SqL X.K H p ys ∨ SqT X.K H p ys)/\Q (.int ys.length) H):=by
 intro Z9 s σ H xs us Q I r h
 obtain⟨p,ys,rfl,hq,q⟩:=h
 obtain⟨u,rfl,rx⟩:=vals1 r
 cases rx
 have hn:=ua
 rcases hq with hq|hq
 ·obtain⟨Z7,r',pl,hz⟩:=I.list hq
  have hlen:=r'.length
  exact Calls.call_len_list pl.isList (by simp -iota only[fo]<;>lia) ⟨.int ys.length,H,I.tok _,⟨s.toks+1,by rw[fo,hlen]⟩,q⟩
 ·obtain⟨Z7,r',pl,hz⟩:=I.tuple hq
  have hlen:=r'.length
  exact len_tuple pl (by simp -iota only[fo]<;>lia) ⟨.int ys.length,H,I.tok _,⟨s.toks+1,by rw[fo,hlen]⟩,q⟩
theorem w8:nO X (.type "list") (λxs H Q=>∃ p ys,xs=[.ref p]/\(SqL X.K H p ys ∨ SqT X.K H p ys)/\∀ l,H l=none->Q (.ref l) (n5 H l (.lst ys))):=by
 intro Z9 s σ H xs us Q I r h
 obtain⟨p,ys,rfl,hq,q⟩:=h
 obtain⟨u,rfl,rx⟩:=vals1 r
 cases rx
 have fin:∀ (Z7:List mF),Vals ys Z7->ys.length<=sizeLine->∀ (h':mQ) (c':Nat),(∀ b o',s.heap.get? b=some o'->h'.get? b=some o') ->
   h'.get? s.heap.objs.size=some { cls:=.type "list",dict:=none,data:=.seq Z7.toArray c',slots:=#[] }->EP X Z9 σ Q (.ref s.heap.objs.size) { s with heap:=h' }:=λZ7 r' hz h' c' kp e =>
  ⟨.ref s.heap.objs.size,_,I.laid (t':=s.toks) kp (kW _) (show ObjOk X.prog X.w _ h' _ (.lst ys) from ⟨hz,Z7,c',r',e⟩),rfl,q _ (I.hok.fresh (kW _))⟩
 rcases hq with hq|hq
 ·obtain⟨Z7,r',pl,hz⟩:=I.list hq
  have hlen:=r'.length
  obtain⟨o,ho,hc,n,hd⟩:=pl.isList
  exact jC p (.inl rfl) ho hc hd (λh' c' kp e=>fin Z7 r' hz h' c' kp e) (by simp -iota only[fo]<;>lia)
 ·obtain⟨Z7,r',pl,hz⟩:=I.tuple hq
  have hlen:=r'.length
  obtain⟨o,ho,hc,n,hd⟩:=pl
  exact jC p (.inr rfl) ho hc hd (λh' c' kp e=>fin Z7 r' hz h' c' kp e) (by simp -iota only[fo]<;>lia)
theorem p8:nO X (.type "tuple") (λxs H Q=>∃ p ys,xs=[.ref p]/\((SqL X.K H p ys/\∀ l,H l=none->Q (.ref l) (n5 H l (.tup ys))) ∨ (SqT X.K H p ys/\Q (.ref p) H))):=by
 intro Z9 s σ H xs us Q I r h
 obtain⟨p,ys,rfl,h⟩:=h
 obtain⟨u,rfl,rx⟩:=vals1 r
 cases rx
 rcases h with⟨hq,q⟩|⟨hq,q⟩
 ·obtain⟨Z7,r',pl,hz⟩:=I.list hq
  have hlen:=r'.length
  refine call_tuple_list pl.isList (λh' kp=>?_) (by simp -iota only[fo]<;>lia)
  have I1:Inv X Z9 σ H { s with heap:=h' }:=I.kept (t':=s.toks) kp
  have I2:Inv X Z9 σ (n5 H h'.objs.size (.tup ys)) { s with heap:=h'.push { cls:=.type "tuple",data:=.seq Z7.toArray } } :=
   I1.laid (t':=s.toks) (λb o e=>bQ _ e) (kW _) (show ObjOk X.prog X.w _ _ _ (.tup ys) from ⟨hz,Z7,r',lQ _ _⟩)
  exact⟨.ref h'.objs.size,_,I2,rfl,q _ (I1.hok.fresh (kW _))⟩
 ·obtain⟨Z7,r',pl,hz⟩:=I.tuple hq
  exact call_tuple_same pl ⟨.ref p,H,I,rfl,q⟩
def tyV (K:ke)(T:String)(x:V)(H:Hp):Prop:=match x with
 | .str _=>T = "str"
 | .int _=>T = "int"
 | .ref p=>(T = "list"/\∃ xs,SqL K H p xs) ∨ (T = "tuple"/\∃ o,K.lookup p=some o/\o.cls=.type "tuple"/\o.dict=none) ∨
   (T = "dict"/\((∃ Z6,H p=some (.dK Z6)) ∨ ∃ Z6,H p=some (.dT Z6))) ∨ (T = "set"/\∃ S n,H p=some (.set S n))
 | _=>False
theorem HG {Z9:List (mS×Obj)}{σ:St}{H:Hp}{s:mn}{T:String}{x:V}{v:mF}(I:Inv X Z9 σ H s)(r:RelV x v)(ty:tyV X.K T x H) :
  s.TypeIs v T/\∀ a,v=.ref a->∃ ob,s.heap.get? a=some ob/\ob.dict=none:=by
 cases x with
 | str z =>
  obtain⟨t,rfl⟩:=r
  cases (show T = "str" from ty)
  exact⟨typeIs_str s z t,λ_ e=>nomatch e⟩
 | int i =>
  obtain⟨t,rfl⟩:=r
  cases (show T = "int" from ty)
  exact⟨lw s i t,λ_ e=>nomatch e⟩
 | ref p =>
  cases r
  rcases ty with⟨rfl,xs,hq⟩|⟨rfl,o,hk,hc,hd⟩|⟨rfl,hk⟩|⟨rfl,S,n,hk⟩
  ·obtain⟨Z7,_,pl,_⟩:=I.list hq
   refine⟨pl.isList.typeIs,λa e=>?_⟩
   cases e
   obtain⟨o,n,e,c,hd,_⟩:=pl
   exact⟨o,e,hd⟩
  ·refine⟨⟨o,I.kIn p o hk,hc⟩,λa e=>?_⟩
   cases e
   exact⟨o,I.kIn _ o hk,hd⟩
  ·have z:∃ o,s.heap.get? p=some o/\o.ExactDict:=by
    rcases hk with⟨Z6,hk⟩|⟨Z6,hk⟩
    ·obtain⟨_,_,_,_,o,_,_,e,ex,_⟩:=I.hok p _ hk
     exact⟨o,e,ex⟩
    ·obtain⟨_,_,_,_,o,_,_,e,ex,_⟩:=I.hok p _ hk
     exact⟨o,e,ex⟩
   obtain⟨o,e,ex⟩:=z
   refine⟨⟨o,e,ex.1⟩,λa e2=>?_⟩
   cases e2
   exact⟨o,e,ex.2.1⟩
  ·obtain⟨o,_,_,_,e,ex,_⟩:=I.hok p _ hk
   refine⟨⟨o,e,ex.1⟩,λa e2=>?_⟩
   cases e2
   exact⟨o,e,ex.2.1⟩
 | _=>exact lN ty
def tBM (K:ke)(T:String)(r:V->List V->Hp->VK->Prop)(to:TE)(t:TA):TE:=λσ H Q=>to σ H λx H1=>tyV K T x H1/\t σ H1 λxs H2=>r x xs H2 Q
variable {o e:Expr}{es:List Expr}{to:TE}{t:TA}{name:Str}{ZZ Z0:Pos}{T id:String}{r:V->List V->Hp->VK->Prop}
theorem Hn (pa:PlainAttrs T)(slot:Slot T name id)(hty:typeOf (.builtin id)=pure (.type "method_descriptor"))(hm:MtR X id r)(ho:PE X o to)(ha:PA X (e :: es) t)
  (hbase:attributeBase o name X.env (eval o X.env)=eval o X.env:=by rfl)
  (hfew:((backTo Z0 (starEach (e :: es) X.env)).all (λx=>!x.1) && (backToKw Z0 (keywordEach [] X.env)).all (λx=>x.1.isSome)
   && decide ((e :: es).length+([]:List Keyword).length+(if ([]:List Keyword).isEmpty then 0 else 1)<30))=true:=by rfl)
  (hline:(ZZ.endLine == Z0.line)=true:=by rfl)(hs:starEach (e :: es) X.env=(false,eval e X.env) :: starEach es X.env:=by rfl)(hplain:(backTo Z0 (starEach es X.env)).any (·.1)=false:=by rfl) :
  PE X (.Call (.Attribute o name ZZ) (e :: es) [] Z0) (tBM X.K T r to t):=by
 intro Z9 s σ H Q I h
 refine wpAny_Call_method_late hbase hfew hline rfl (nV (ho Z9 s σ H _ I h) λv s1 ⟨x,H1,I1,r1,ty,q1⟩=>?_)
 obtain⟨h1,h2⟩:=HG I1 r1 ty
 refine⟨T,id,pa,slot,hty,h1,h2,?_⟩
 have hA:=ha Z0 Z9 s1 σ H1 _ I1 q1
 rw[hs] at hA ⊢
 refine Calls.callWith_builtin (by show (false || (backTo Z0 (starEach es X.env)).any (·.1))=false;rw[hplain]<;>rfl) (Calls.evalArgs_plain ?_)
 refine nV hA λus s2 q2=>?_;obtain⟨vs,H2,I2,r2,q2⟩:=q2;exact hm Z9 s2 σ H2 x vs v us Q I2 r1 r2 q2
end
end L2
namespace L2
open PySem PySem.Spec PyProof.Rows
def Sj (X:Cx)(id:String)(r:V->List V->Hp->VK->Prop):Prop :=
 ∀ (Z9:List (mS×Obj))(s:mn)(σ:St)(H:Hp)(x:V)(xs:List V)(v:mF)(us:List mF)(Q:VK),Inv X Z9 σ H s->RelV x v->Vals xs us->r x xs H Q ->
  wpAny (model X.prog X.w) X.A (call (.builtin id) (v :: us)) (EP X Z9 σ Q) X.xe s
theorem Vals.one:∀ {x:V}{us:List mF},Vals [x] us->∃ u,us=[u]/\RelV x u:=λh=>by
 obtain⟨u,r,rfl,h1,h2⟩:=h.unc
 exact⟨u,by rw[h2.unn],h1⟩
theorem Vals.reverse {xs:List V}{us:List mF}(h:Vals xs us):Vals xs.reverse us.reverse:=by
 induction h with
 | nil=>exact .nil
 | cons r t ih=>rw[fq,fq];exact Vals.append ih (.cons r .nil)
theorem Vals.rep {xs:List V}{us:List mF}(h:Vals xs us):∀ k:Nat,Vals (jc k xs).flatten (jc k us).flatten
 | 0=>.nil
 | k+1=>by
  rw[cZ,cZ,fy,fy]
  exact Vals.append h (Vals.rep h k)
theorem foldl_rep (Z7:List mF):∀ (k:Nat)(Z8:List mF),
  lM (λx1 x2=>x1++x2) Z8.toArray (jc k Z7.toArray)=(Z8++(jc k Z7).flatten).toArray
 | 0,Z8=>by simp
 | k+1,Z8=>by
  have e:Z8.toArray++Z7.toArray=(Z8++Z7).toArray:=by simp
  have e2:(Z8++Z7)++(jc k Z7).flatten=Z8++(jc (k+1) Z7).flatten:=by
   rw[cZ,fy,fB]
  rw[<- e2,<- foldl_rep Z7 k (Z8++Z7),<- e,cZ,iu]
section
variable {X:Cx}{Z9:List (mS×Obj)}{σ:St}{H:Hp}{s:mn}{l:mS}{xs ys:List V}
theorem Inv.lset {Z7 its':List mF}{n:Nat}{f:Array mF->Array mF}{t':Nat}(I:Inv X Z9 σ H s)(hH:H l=some (.lst xs))
  (e:s.heap.get? l=some { cls:=.type "list",data:=.seq Z7.toArray n })(hf:f Z7.toArray=its'.toArray)(hv:Vals ys its')(hz:ys.length<=sizeLine) :
  Inv X Z9 σ (n5 H l (.lst ys)) { s with heap:=s.heap.update l (lH f),toks:=t' }:=by
 have q:=PySem.IsL.update e f
 rw[hf] at q
 refine I.write (x:=l) (e:=l) (by rw[hH];exact trivial) (.inl rfl) (λb' u hb hu=>(bP s.heap (lH f) (ma hb)).trans hu) ⟨_,q⟩ ?_
 exact⟨hz,its',_,hv,q⟩
theorem Inv.lnew {Z7:List mF}{t':Nat}(I:Inv X Z9 σ H s)(hv:Vals ys Z7)(hz:ys.length<=sizeLine) :
  Inv X Z9 σ (n5 H s.heap.objs.size (.lst ys)) { s with heap:=s.heap.push { cls:=.type "list",data:=.seq Z7.toArray },toks:=t' } :=
 I.laid (λ_ _ q=>bQ _ q) (kW _) ⟨hz,Z7,0,hv,da _ rfl⟩
theorem Inv.fresh (I:Inv X Z9 σ H s):H s.heap.objs.size=none:=I.hok.fresh (kW _)
theorem Inv.lstM (I:Inv X Z9 σ H s)(hH:H l=some (.lst xs)):xs.length<=sizeLine/\∃ (Z7:List mF) (n:Nat),Vals xs Z7/\xs.length=Z7.length/\s.heap.get? l=some { cls:=.type "list",data:=.seq Z7.toArray n }:=by
 obtain⟨z,Z7,n,r,e⟩:=I.hok l _ hH
 exact⟨z,Z7,n,r,r.length,e⟩
theorem tZ {n:Nat}(h:n<=sizeLine):aZ n=false:=by
 unfold aZ
 exact decide_eq_false ⋯
end
section
variable {X:Cx}
inductive rAppend (x:V)(vs:List V)(H:Hp)(Q:VK):Prop
 | mk (l:_)(xs:_)(y:_)(_:x=.ref l)(_:vs=[y])(_:H l=some (.lst xs))(_:xs.length<sizeLine)(_:Q .non (n5 H l (.lst (xs++[y])))):rAppend x vs H Q
theorem vj:Sj X "list.append" rAppend:=by
 intro Z9 s σ H x vs v us Q I rx rv h
 obtain⟨l,xs,y,rfl,rfl,hH,hz,q⟩:=h
 cases rx
 obtain⟨u,rfl,ru⟩:=rv.one
 obtain⟨z,Z7,n,r,hl,e⟩:=I.lstM hH
 refine lA F.slot_list_append ⟨_,e,rfl⟩ F.entry_list_append (F.args_list_append_2 _ _) (PySem.list_append l Z7.toArray n u (by rw[fo];lia)) ⟨e,?_⟩
 refine⟨.non,_,I.lset (its':=Z7++[u]) hH e (by simp) (r.append (.cons ru .nil)) ?_,rfl,q⟩
 rw[dS,cb]
 lia
inductive rExtend (x:V)(vs:List V)(H:Hp)(Q:VK):Prop
 | mk (l:_)(b:_)(xs:_)(zs:_)(_:x=.ref l)(_:vs=[.ref b])(_:H l=some (.lst xs))(_:H b=some (.lst zs))(_:xs.length+zs.length<=sizeLine)(_:Q .non (n5 H l (.lst (xs++zs)))):rExtend x vs H Q
theorem BN:Sj X "list.extend" rExtend:=by
 intro Z9 s σ H x vs v us Q I rx rv h
 obtain⟨l,b,xs,zs,rfl,rfl,hH,hB,hz,q⟩:=h
 cases rx
 obtain⟨u,rfl,ru⟩:=rv.one
 cases ru
 obtain⟨z,Z7,n,r,hl,e⟩:=I.lstM hH
 obtain⟨z2,its2,n2,r2,hl2,e2⟩:=I.lstM hB
 have hsz:Z7.toArray.size+its2.toArray.size<=sizeLine:=by rw[fo,fo];lia
 have hlong:¬ (!Z7.toArray.isEmpty && aZ (Z7.toArray.size+its2.toArray.size))=true:=by
  rw[tZ hsz,jn]
  exact eB
 refine lA eg ⟨_,e,rfl⟩ dh (cO _ _)
  (AutoSeq1.list_extend_list_list_0 l Z7.toArray n b its2.toArray n2 hlong (by rw[fo];lia) ⋯) ⟨e,e2,?_⟩
 refine⟨.non,_,I.lset (its':=Z7++its2) hH e (by simp) (r.append r2) ?_,rfl,q⟩
 rw[dS]
 lia
inductive rCat (x:V)(y:V)(H:Hp)(Q:VK):Prop
 | mk (l:_)(b:_)(xs:_)(zs:_)(_:x=.ref l)(_:y=.ref b)(_:H l=some (.lst xs))(_:H b=some (.lst zs))(_:xs.length+zs.length<=sizeLine)(_:∀ p,H p=none->Q (.ref p) (n5 H p (.lst (xs++zs)))):rCat x y H Q
theorem IW:pD X (binaryOp .Add) rCat:=by
 intro Z9 s σ H x y v u Q I rx ry h
 obtain⟨l,b,xs,zs,rfl,rfl,hH,hB,hz,q⟩:=h
 cases rx
 cases ry
 obtain⟨z,Z7,n,r,hl,e⟩:=I.lstM hH
 obtain⟨z2,its2,n2,r2,hl2,e2⟩:=I.lstM hB
 refine PySem.P.add_list e e2 ?_ (by rw[fo,fo];lia)
 have ea:Z7.toArray++its2.toArray=(Z7++its2).toArray:=by simp
 rw[ea]
 exact⟨.ref _,_,I.lnew (t':=s.toks) (r.append r2) (by rw[dS];lia),rfl,q _ I.fresh⟩
inductive rRep (x:V)(y:V)(H:Hp)(Q:VK):Prop
 | mk (l:_)(k:_)(xs:_)(_:x=.ref l)(_:y=.int k)(_:H l=some (.lst xs))(_:-(2 ^ 63)<=k)(_:k<2 ^ 63)(_:xs.length*k.toNat<=sizeLine)(_:∀ p,H p=none->Q (.ref p) (n5 H p (.lst (jc k.toNat xs).flatten))):rRep x y H Q
theorem FU {α:Type}(xs:List α) (k:Nat):(jc k xs).flatten.length=k*xs.length:=by
 induction k with
 | zero=>simp
 | succ k ih=>rw[cZ,fy,dS,ih,Nat.succ_mul,kA]
theorem IQ:pD X (binaryOp .Mult) rRep:=by
 intro Z9 s σ H x y v u Q I rx ry h
 obtain⟨l,k,xs,rfl,rfl,hH,h1,h2,hz,q⟩:=h
 cases rx
 obtain⟨t,rfl⟩:=ry
 obtain⟨z,Z7,n,r,hl,e⟩:=I.lstM hH
 have hlen:Z7.toArray.size*k.toNat<=sizeLine:=by rw[fo,<- hl];exact hz
 have hcap:¬ Z7.toArray.size*k.toNat > (2 ^ 63-1) / 8:=by
  have:(sizeLine:Nat)<=(2 ^ 63-1) / 8:=by decide
  lia
 have hfit:¬ (!Builtin.List.listFitsIndex k)=true:=by
  rw[fitsIndex_both h1 h2]
  exact eB
 have hlong:¬ aZ (Z7.toArray.size*k.toNat)=true:=by
  rw[tZ hlen]
  exact eB
 have hnew:lM (λx1 x2=>x1++x2) #[] (jc (if Z7.toArray.isEmpty=true then 0 else k.toNat) Z7.toArray)=(jc k.toNat Z7).flatten.toArray:=by
  have f0:∀ m:Nat,lM (λx1 x2=>x1++x2) #[] (jc m Z7.toArray)=(jc m Z7).flatten.toArray:=λm=>by
   have:=foldl_rep Z7 m []
   rw[ii] at this
   exact this
  rw[f0]
  cases Z7 with
  | nil=>simp
  | cons a r'=>rw[if_neg (by simp)]
 refine wpAny_binaryOp_repeat_ref (T:="list") (U:="int") (by decide) ⟨_,e,rfl⟩ (λs'=>lw s' k t) noFill_list_mul F.fills_int_mul iG repeat_list F.slot_int_index.lookup
  (lA iG (lw s k t) F.entry_int_rmul (F.args_int_rmul_2 _ _) (int___rmul___int_list k t l Z7.toArray n)
   ⟨e,rfl,⟨_,e,rfl⟩,lA F.slot_list_mul ⟨_,e,rfl⟩ F.entry_list_mul (F.args_list_mul_2 _ _) (AutoListH.list___mul___list_int_3 l Z7.toArray n k t hfit hcap hlong) ⟨e,?_⟩⟩)
 rw[hnew]
 exact⟨.ref _,_,I.lnew (t':=s.toks) (r.rep k.toNat) (by rw[FU,Nat.mul_comm];exact hz),rfl,q _ I.fresh⟩
end
end L2
namespace Att
open PySem PySem.W PySem.Calls PyProof.Rows
theorem sY {P:Params}{h:mQ}:∀ (ns:List Int)(vs:List mF),WellAll P h vs (ns.map WData.int)->me vs ns:=by
 intro ns
 induction ns with
 | nil =>
  intro vs w
  rw[kF] at w
  cases w
  exact .nil
 | cons n ns ih =>
  intro vs w
  rw[jQ] at w
  cases w with
  | cons a b =>
   cases a
   exact .cons _ _ (ih _ b)
theorem Bv {l:l9}{n:Nat}(hn:l.most=some n){P:Params}{h:mQ}{args:List WData}{vals:List mF}
  (ZW:l.row.toRowW.claim.pre args=true)(hwl:WellAll P h vals args) :
  ∃ a vs ns,vals=[Value.ref a]/\args=[WData.list (ns.map WData.int)]/\h.get? a=some { cls:=.type "list",data:=.seq vs.toArray }/\me vs ns/\ns.length<=n:=by
 have hsh:WShape.hasAll [] args [.list .int]=true:=(pre_splitW ZW).1
 have hc:l.pre.holds [] { args:=args } = true:=(pre_splitW ZW).2
 obtain⟨d,r,rfl,h1,h2⟩:=hasAllW_cons hsh
 obtain rfl:=hasAllW_nil h2
 obtain⟨xs,rfl,h3⟩:=hasW_list h1
 obtain⟨ns,rfl⟩:=items_int h3
 have hlen:ns.length<=n:=by
  unfold OpenLaw.pre at hc
  have h4:(WTm.not (.lt (.lit (.int (n:Int))) (.len (.arg 0)))).holds [] { args:=[.list (ns.map .int)] } = true:=by
   have h4:=(holds_andW hc).1
   rw[hn] at h4
   exact h4
  have h5:=condW_of h4 (w_not (w_lt w_lit (w_len_list (w_arg rfl))))
  rw[iq] at h5
  refine Nat.le_of_not_lt λq=>?_
  have q':(n:Int)<((ns.length:Nat):Int):=by lia
  first
   | (rw[decide_eq_true q'] at h5;exact absurd h5 (by decide))
   | (simp at h5;lia)
 cases hwl with
 | cons w1 w2 =>
  cases w2
  cases w1 with
  | list ho hall=>exact⟨_,_,ns,rfl,rfl,ho,sY ns _ hall,hlen⟩
theorem BB (l:l9)(args:List WData):l.row.toRowW.claim.post args (.bool true) args=true :=
 postW_of (r:=l.row.toRowW) (X:=(true == true))
  (show WShape.has [] (.bool true) .bool=true by first|rfl|decide|simp[WShape.has,WShape.arms,WShape.armsAll])
  (show (WTm.eq .res (.lit (.bool true))).value [] { args:=args,res:=some (.bool true),after:=args } = some (.bool (true == true)) from w_eq_bool (w_res rfl) w_lit) rfl
theorem attach_call {l:l9}{n:Nat}{q:l8}{loose:List Str}{XP:(Str->Option mF)->mQ->Prop}{YP:mD->mQ->Prop}{d:mB}
  (hn:l.most=some n)(hdf:d.params.defaults=[])
  (call:∀ (w:mD)(s₀ s₁:mn)(mg mb:Str->Option mF)(fa:mS)(o:Obj)(pm cd doc:mF)(a:mS)(vs:List mF)(ns:List Int),
   Ground q loose [] XP w s₀ mg mb s₁.heap->YP w s₁.heap ->
   s₁.heap.get? fa=some o->o.data=.func (docDef d.name d.params d.body d.scope pm cd doc)->s₁.heap.CodeRec cd d.name->mg d.name=some (.ref fa) ->
   s₁.heap.get? a=some { cls:=.type "list",data:=.seq vs.toArray }->me vs ns->ns.length<=n->s₁.gens = #[] ->
   codeAny (model l.prog w) callerA (.call (.ref fa) ⟨[.ref a],[]⟩) (λr s'=>r=.ok (.ret (.bool true))/\OldK s₁.heap s'.heap/\s'.os=s₁.os/\mm s'.gens) s₁) :
  WalkO q loose XP YP l.row.toRowW d [] (λf vs=>lF f vs):=by
 intro w s₀ s₁ mg mb G Y fa o pm cd doc dV kV ho hd hcd hD hmg hg args vals as ZW hlay hrd hwl hlo
 obtain rfl:dV=.none:=Dflts.none hD hdf
 obtain rfl:kV=.none:=Dflts.noKw hD
 obtain⟨a,vs,ns,rfl,rfl,hobj,hints,hlen⟩:=Bv hn ZW hwl
 refine enter_call (j8 (call w s₀ s₁ mg mb fa o pm cd doc a vs ns G Y ho (fd_plain hd) hcd hmg hobj hints hlen hg) λr s' hq=>?_)
 obtain⟨rfl,h2,h3,h4⟩:=hq
 exact⟨.inl ⟨.bool true,.bool true,[],rfl,λ_=>rfl,.bool true,BB l _,λ_=>⟨List.Pairwise.nil,λ_ hm=>(nomatch hm)⟩⟩,h2,h3,h4⟩
end Att
namespace L2
open PySem PySem.Spec PyProof.Rows
theorem Bn:∀ {vs:List mF}{ns:List Int},me vs ns->Vals (ns.map V.int) vs:=λh=>by
 induction h with
 | nil=>exact .nil
 | cons n t _ ih=>exact .cons ⟨t,rfl⟩ ih
def G9 (H:Hp):Prop:=∀ b,H b=none ∨ ∃ o xs,H b=some (.frz o (.lst xs))
theorem DL {P:l8}{w:mD}{K:ke}{mg mb:Str->Option mF}{CX:Ha}{k:Nat}{fa a:mS}{fd:l0}{x:Str}{sp:Sp}{s₁:mn}{vs:List mF}{ns:List Int}
  (KX:K.In s₁.heap)(hns:s₁.heap.Ns mainGlobals mg)(hb:s₁.heap.Ns builtinsNs mb)(hbb:∀ x:Str,x≠"__name__"->mb x=bootBuiltins x)(hlim:s₁.heap.NoLimit)(hg:s₁.gens = #[])
  (ha:s₁.heap.get? a=some { cls:=.type "list",data:=.seq vs.toArray })(hi:me vs ns)(hl:ns.length<=sizeLine)(hr:Room k callerA)
  (F:∀ base:mQ,K.In base->base.Ns mainGlobals mg->FnOk P w K mg base CX k fa fd [x] sp)(hbind:∀ (s:mn)(u:mF),ml s fd ⟨[u],[]⟩ [(x,u)])
  (hsp:∀ H:Hp,G9 H->SqL K H a (ns.map V.int)->sp [.ref a] H (λv _=>v=.bl true) λ_ _ _=>False)
  (hCX:∀ H e s',CX [] H s₁ (λ_ _ _=>False) e s'->False) :
  codeAny (model P w) callerA (.call (.ref fa) ⟨[.ref a],[]⟩) (λr s'=>r=.ok (.ret (.bool true))/\OldK s₁.heap s'.heap/\s'.os=s₁.os/\mm s'.gens) s₁:=by
 have rv:=Bn hi
 have lenV:=hi.length
 -- from an abstract heap in which nothing but the script may be tracked
 have core:∀ H:Hp,G9 H->SqL K H a (ns.map V.int)->HOk P w H s₁.heap->(∀ b,H b≠none->b=a)->(H a≠none->K.lookup a=none) ->
   codeAny (model P w) callerA (.call (.ref fa) ⟨[.ref a],[]⟩) (λr s'=>r=.ok (.ret (.bool true))/\OldK s₁.heap s'.heap/\s'.os=s₁.os/\mm s'.gens) s₁:=by
  intro H hO hS hok hA hK
  have base_of:∀ {b:mS}{o:Obj},s₁.heap.get? b=some o->H b=none->(wR s₁.heap H).get? b=some o:=λe n=>DZ e n
  have noA:∀ {b:mS}{o:Obj}{es:Array DictEntry}{ep:Nat},s₁.heap.get? b=some o->o.data=.dict es ep->H b=none:=λ{b o es ep} e d=>by
   cases q:H b with
   | none=>rfl
   | some u =>
    have e':b=a:=hA b (by rw[q];simp)
    subst e'
    rw[ha] at e;cases e
    have d':Data.seq vs.toArray _=Data.dict es ep:=d
    cases d'
  have nsK:∀ {b:mS}{m:Str->Option mF},s₁.heap.Ns b m->(wR s₁.heap H).Ns b m:=λ{b m} q1=>by obtain⟨o,es,ep,e,d,r⟩:=q1;exact⟨o,es,ep,base_of e (noA e d),d,r⟩
  have hKb:K.In (wR s₁.heap H):=λb o e=>base_of (KX b o e) (by
   cases q:H b with
   | none=>rfl
   | some u =>
    have e':b=a:=hA b (by rw[q];simp)
    subst e'
    rw[hK (by rw[q];simp)] at e;cases e)
  have hM:Mod K mg (wR s₁.heap H):=⟨hKb,nsK hns,⟨mb,nsK hb,hbb⟩,let ⟨mc,h1,h2⟩:=hlim;⟨mc,nsK h1,h2⟩⟩
  have e0:Env0 P w K mg (wR s₁.heap H) callerA [] s₁ H:=⟨rfl,hM,λb o e=>FC e,ku (B2 _ _),trivial,λb hb=>absurd (show b∈([]:List mS) from hb) (by simp),hok,.of_eq hg⟩
  refine j8 ((F _ hKb (nsK hns)).run callerA [] s₁ H ⟨[.ref a],[]⟩ [.ref a] [.ref a] _ _ hr e0 (hbind s₁ (.ref a)) (.cons rfl .nil) (hsp H hO hS)) λr s' h=>?_
  cases r with
  | error e=>exact (hCX H e s' h).elim
  | ok fl =>
   cases fl with
   | next=>exact lN h
   | brk=>exact lN h
   | cont=>exact lN h
   | ret u =>
    obtain⟨v,H',os,bare,un,hok',r',q⟩:=h
    have q':v=.bl true:=q
    subst q'
    obtain rfl:u=Value.bool true:=r'
    refine⟨rfl,OldK.of_keep λb o e=>?_,os,bare⟩
    cases q:H b with
    | none=>exact un.keep b o e q (by intro z;exact absurd (show b∈([]:List mS) from z) (by simp)) (by simp)
    | some u =>
     rcases hO b with z|⟨ob,xs,z⟩
     ·rw[q] at z;cases z
     ·have z2:=un.frzs b ob _ z
      obtain⟨e1,_⟩:=hok b _ z
      obtain⟨e2,_⟩:=hok' b _ z2
      rw[e] at e1;cases e1
      exact e2
 cases hk:K.lookup a with
 | some o =>
  -- the script is one of the module's own objects
  have e:=KX a o hk
  rw[ha] at e
  cases e
  refine core (λ_=>none) (λ_=>.inl rfl) (.inr ⟨_,vs.toArray,_,hk,rfl,rfl,rfl,by rw[fo,lenV];exact hl,by simpa using rv⟩) (λb u z=>by have z':(none:Option HO)=some u:=z;cases z') (λb z=>absurd rfl z) λz=>absurd rfl z
 | none =>
  refine core (λb=>if b=a then some (.frz { cls:=.type "list",data:=.seq vs.toArray } (.lst (ns.map V.int))) else none) (λb=>?_) (.inl (.inr ⟨{ cls:=.type "list",data:=.seq vs.toArray },if_pos rfl⟩)) (λb u z=>?_) (λb z=>?_) λ_=>hk
  ·by_cases hb:b=a
   ·exact .inr ⟨_,_,if_pos hb⟩
   ·exact .inl (if_neg hb)
  ·by_cases hb:b=a
   ·have z':=(if_pos hb).symm.trans z
    cases z'
    subst hb
    exact⟨ha,by rw[iq];exact hl,vs,_,rv,ha⟩
   ·have z':=(if_neg hb).symm.trans z
    cases z'
  ·by_cases hb:b=a
   ·exact hb
   ·exact absurd (if_neg hb) z
end L2
namespace L2
open PySem PySem.Spec PyProof.Rows
def rC (s:mP):Arguments:=match s with
 | .FunctionDef _ a _ _ _ _ _ _ _ _=>a
 | _=>{ posonlyargs:=[],args:=[],vararg:=none,kwonlyargs:=[],kw_defaults:=[],kwarg:=none,defaults:=[] }
def oN (s:mP):List mP:=match s with
 | .FunctionDef _ _ b _ _ _ _ _ _ _=>b
 | _=>[]
def nJ (s:mP):mG:=match s with
 | .FunctionDef _ _ _ _ _ _ sc _ _ _=>sc
 | _=>{ kind:=.function,names:=[],isGenerator:=false,isCoroutine:=false }
abbrev EF:Ha:=λ_ _ _ _ _ _=>False
abbrev E0:XK:=λ_ _ _=>False
theorem LX {X:Cx}:zV EF X E0:=λ_ _ _ _ _ _ _ h=>h.elim
structure Fun (K:ke)(x qual:Str)(st:mP)(f:mS)(fd:l0):Prop where
 ex:∃ (oc:mF)(od:Option mS)(kV doc pm:mF)(an:Option mS)(cdv ct:mF)(osl:Array (Option mF)),
  fd=kc x qual (rC st) (oN st) (nJ st) .none kV doc pm an cdv ct/\K.lookup f=some ⟨oc,od,.func fd,osl⟩/\i8 K cdv qual=true
 kp:i6 K (.ref f)=true
section
variable {P:l8}{w:mD}{K:ke}{mg:Str->Option mF}{base:mQ}
theorem Fun.ok {x qual:Str}{st:mP}{f:mS}{fd:l0}{N ps:List Str}{k:Nat}{sp:Sp}(F:Fun K x qual st f fd)(S:FnScope N ps (nJ st))(len:∀ vs H Q E,sp vs H Q E->vs.length=ps.length)
  (ZU:∀ (cdv:mF)(A:mC)(outer:List Env)(s:mn)(H:Hp)(vs:List V)(Q:VK)(E:XK),RoomS k (A.deeper (envOfC qual (nJ st) s.heap.objs.size f cdv))->sp vs H Q E ->
   ∃ t,PSs (zI EF P w K mg base N qual (nJ st) f cdv A outer s H E).nox (oN st) t/\t { nx:=λ_ H'=>Q .non H',rt:=Q } (start N vs) H):FnOk P w K mg base EF (k+1) f fd ps sp:=by
 obtain⟨oc,od,kV,doc,pm,an,cdv,ct,osl,rfl,lk,hcd⟩:=F.ex
 refine Mu lk hcd S len λA outer s H vs Q E hr hsp=>?_
 obtain⟨t,h,q⟩:=ZU cdv A outer s H vs Q E hr hsp
 exact⟨t,h.nox,q⟩
theorem Fun.binds {x qual:Str}{st:mP}{f:mS}{fd:l0}{ps:List Str}(F:Fun K x qual st f fd)
  (h:∀ (kV doc pm:mF)(an:Option mS)(cdv ct:mF)(us:List mF),us.length=ps.length->bindArgs (kc x qual (rC st) (oN st) (nJ st) .none kV doc pm an cdv ct) ⟨us,[]⟩=pure (ps.zip us)):Binds K fd ps []:=by
 obtain⟨oc,od,kV,doc,pm,an,cdv,ct,osl,rfl,lk,hcd⟩:=F.ex
 exact .all (h kV doc pm an cdv ct)
theorem Jk {x qual:Str}{st:mP}{f:mS}{oc:mF}{od an:Option mS}{osl:Array (Option mF)}{kV doc pm cdv ct:mF}(l:K.lookup f=some ⟨oc,od,.func (kc x qual (rC st) (oN st) (nJ st) .none kV doc pm an cdv ct),osl⟩)
  (c:i8 K cdv qual=true)(k:i6 K (.ref f)=true):Fun K x qual st f (kc x qual (rC st) (oN st) (nJ st) .none kV doc pm an cdv ct):=⟨⟨oc,od,kV,doc,pm,an,cdv,ct,osl,rfl,l,c⟩,k⟩
end
def Same (H H':Hp):Prop:=∀ b o,H b=some o->H' b=some o
theorem Same.refl (H:Hp):Same H H:=λ_ _ h=>h
theorem Same.trans {H H1 H2:Hp}(a:Same H H1)(b:Same H1 H2):Same H H2:=λc o h=>b c o (a c o h)
end L2
namespace L2
open PySem PySem.Spec PyProof.Rows
section
variable {κ:Type}[DecidableEq κ]
def rD (Z6:List (κ×V))(k:κ):Option V:=(Z6.find? λkv=>decide (kv.1=k)).map (·.2)
def qG (Z6:List (κ×V))(k:κ)(v:V):List (κ×V) :=
 if (Z6.any λkv=>decide (kv.1=k))=true then Z6.map (λkv=>if kv.1=k then (kv.1,v) else kv) else Z6++[(k,v)]
theorem qJ {p:κ×V}{r:List (κ×V)}{k:κ}(e:p.1=k):rD (p :: r) k=some p.2:=by simp[rD,iy,e]
theorem qK {p:κ×V}{r:List (κ×V)}{k:κ}(e:¬ p.1=k):rD (p :: r) k=rD r k:=by simp[rD,iy,e]
theorem rY (k:κ):∀ Z6:List (κ×V),(Z6.any λkv=>decide (kv.1=k))=(rD Z6 k).isSome
 | []=>rfl
 | p :: r=>by
  rw[jS]
  by_cases e:p.1=k
  ·simp only[qJ e,decide_eq_true e,Bool.true_or,dE]
  ·rw[qK e,decide_eq_false e,Bool.false_or];exact rY k r
theorem qT (Z6:List (κ×V))(k:κ)(v:V):(qG Z6 k v).length<=Z6.length+1:=by
 unfold qG
 split
 ·rw[iq];lia
 ·rw[dS,gm,ip];lia
theorem RelO.isSome_eq {o:Option V}{u:Option mF}(r:RelO o u):o.isSome=u.isSome:=by
 cases o with
 | none=>cases u with
  | none=>rfl
  | some _=>exact (show False from r).elim
 | some _=>cases u with
  | none=>exact (show False from r).elim
  | some _=>rfl
theorem KV.val {Z6:List (κ×V)}{vs:List (κ×mF)}(r:KV Z6 vs)(k:κ):RelO (rD Z6 k) (valueAt vs k):=by
 unfold KV at r
 induction r with
 | nil=>exact True.intro
 | @cons p q ps qs h t ih =>
  obtain⟨h1,h2⟩:=h
  by_cases e:p.1=k
  ·have e':q.1=k:=h1.symm.trans e
   have b:valueAt (q :: qs) k=some q.2:=by simp[valueAt,iy,e']
   rw[qJ e,b];exact h2
  ·have e':¬ q.1=k:=λz=>e (h1.trans z)
   have b:valueAt (q :: qs) k=valueAt qs k:=by simp[valueAt,iy,e']
   rw[qK e,b];exact ih
theorem KV.any {Z6:List (κ×V)}{vs:List (κ×mF)}(r:KV Z6 vs)(k:κ):(Z6.any λkv=>decide (kv.1=k))=vs.any λkv=>decide (kv.1=k):=by
 unfold KV at r
 induction r with
 | nil=>rfl
 | cons h t ih=>rw[jS,jS,ih,h.1]
theorem KV.repl {Z6:List (κ×V)}{vs:List (κ×mF)}(r:KV Z6 vs)(k:κ){y:V}{u:mF}(ry:RelV y u) :
  KV (Z6.map λkv=>if kv.1=k then (kv.1,y) else kv) (vs.map λkv=>if kv.1=k then (kv.1,u) else kv):=by
 unfold KV at r ⊢
 induction r with
 | nil=>exact .nil
 | @cons p q ps qs h t ih =>
  rw[jQ,jQ]
  refine .cons ?_ ih
  obtain⟨h1,h2⟩:=h
  by_cases e:p.1=k
  ·rw[if_pos e,if_pos (h1.symm.trans e)];exact⟨h1,ry⟩
  ·rw[if_neg e,if_neg (λz=>e (h1.trans z))];exact⟨h1,h2⟩
theorem KV.put {Z6:List (κ×V)}{vs:List (κ×mF)}(r:KV Z6 vs)(k:κ){y:V}{u:mF}(ry:RelV y u):KV (qG Z6 k y) (stored vs k u):=by
 unfold qG stored
 rw[r.any k]
 by_cases e:(vs.any λkv=>decide (kv.1=k))=true
 ·rw[if_pos e,if_pos e];exact r.repl k ry
 ·rw[if_neg e,if_neg e];exact Paired.snoc r ⟨rfl,ry⟩
theorem KV.length {Z6:List (κ×V)}{vs:List (κ×mF)}(r:KV Z6 vs):Z6.length=vs.length:=jH r
end
theorem AF {P:l8}{w:mD}{k:pJ}{u:mF}(r:RelV (kV k) u):(og P w).is k u=true:=by
 rcases k with i|x|x
 ·obtain⟨t,e⟩:=(show ∃ t,u=Value.int i t from r);subst e;exact xY P w i t
 ·cases (show u=Value.none from r);exact wG P w
 ·obtain⟨t,e⟩:=(show ∃ t,u=Value.str x t from r);subst e;exact xX P w x t
theorem vC {P:l8}{w:mD}:∀ {ks:List pJ}{us:List mF},Vals (ks.map kV) us->ItemsAre (og P w) ks us
 | [],_,r=>by rw[kF] at r;cases r;exact .nil
 | k :: ks,_,r=>by
  rw[jQ] at r
  cases r with
  | cons h t=>exact .cons (AF h) (vC t)
abbrev KT (H:Hp):List (List pJ×V)->List (List pJ×mS×mF)->Prop:=mr λp q=>p.1=q.1/\H q.2.1=some (.tup (p.1.map kV))/\RelV p.2 q.2.2
theorem KT.val {H:Hp}{Z6:List (List pJ×V)}{xs:List (List pJ×mS×mF)}(r:KT H Z6 xs)(k:List pJ):RelO (rD Z6 k) ((atKey xs k).map (·.2)):=by
 induction r with
 | nil=>exact True.intro
 | @cons p q ps qs h t ih =>
  obtain⟨h1,_,h2⟩:=h
  by_cases e:p.1=k
  ·have e':q.1=k:=h1.symm.trans e
   have b:atKey (q :: qs) k=some q.2:=by simp[atKey,iy,e']
   rw[qJ e,b];exact h2
  ·have e':¬ q.1=k:=λz=>e (h1.trans z)
   have b:atKey (q :: qs) k=atKey qs k:=by simp[atKey,iy,e']
   rw[qK e,b];exact ih
theorem KT.repl {H:Hp}{Z6:List (List pJ×V)}{xs:List (List pJ×mS×mF)}(r:KT H Z6 xs)(k:List pJ){y:V}{u:mF}(ry:RelV y u) :
  KT H (Z6.map λkv=>if kv.1=k then (kv.1,y) else kv) (xs.map (putAt k u)):=by
 induction r with
 | nil=>exact .nil
 | @cons p q ps qs h t ih =>
  rw[jQ,jQ]
  refine .cons ?_ ih
  obtain⟨h1,h2,h3⟩:=h
  unfold putAt
  by_cases e:p.1=k
  ·rw[if_pos e,if_pos (h1.symm.trans e)];exact⟨h1,h2,ry⟩
  ·rw[if_neg e,if_neg (λz=>e (h1.trans z))];exact⟨h1,h2,h3⟩
theorem KT.put {H:Hp}{Z6:List (List pJ×V)}{xs:List (List pJ×mS×mF)}(r:KT H Z6 xs)(k:List pJ){b:mS}{y:V}{u:mF}(hb:H b=some (.tup (k.map kV)))(ry:RelV y u) :
  KT H (qG Z6 k y) (storedH xs k b u):=by
 have e:(Z6.any λkv=>decide (kv.1=k))=(atKey xs k).isSome:=by
  rw[rY,(r.val k).isSome_eq,ff]
 unfold qG storedH
 rw[e]
 by_cases q:(atKey xs k).isSome=true
 ·rw[if_pos q,if_pos q];exact r.repl k ry
 ·rw[if_neg q,if_neg q];exact Paired.snoc r ⟨rfl,hb,ry⟩
theorem KT.keeps {H H':Hp}{Z6:List (List pJ×V)}{xs:List (List pJ×mS×mF)}(r:KT H Z6 xs)(ht:∀ b ys,H b=some (.tup ys)->H' b=some (.tup ys)):KT H' Z6 xs :=
 Paired.mapP r λ_ _ z=>⟨z.1,ht _ _ z.2.1,z.2.2⟩
section
variable {P:l8}{w:mD}{H:Hp}{h:mQ}{a:mS}
theorem Hf {u:HO}(ok:HOk P w H h)(e:Rd H a u):ObjOk P w H h a u:=e.ok ok
theorem AY {Z6:List (pJ×V)}(ok:HOk P w H h)(e:Rd H a (.dK Z6)):Z6.length<=sizeLine/\(a == sysModules)=false/\∃ vs,KV Z6 vs/\h.DictOf (og P w) a vs :=
 show ObjOk P w H h a (.dK Z6) from Hf ok e
theorem MK {Z6:List (pJ×V)}(ok:HOk P w H h)(e:H a=some (.dK Z6)):Z6.length<=sizeLine/\(a == sysModules)=false/\∃ vs,KV Z6 vs/\h.DictOf (og P w) a vs:=AY ok (.inl e)
theorem um {ks:List pJ}(ok:HOk P w H h)(e:H a=some (.tup (ks.map kV))):(tupleKind (og P w)).is h ks a:=by
 obtain⟨_,Z7,r,o,h1,h2,n,h3⟩:=(show ObjOk P w H h a (.tup (ks.map kV)) from ok a _ e)
 exact⟨o,Z7.toArray,n,h1,h2,h3,by simpa using vC r⟩
theorem AU {Z6:List (List pJ×V)}(ok:HOk P w H h)(e:Rd H a (.dT Z6)):Z6.length<=sizeLine/\(a == sysModules)=false /\
  ∃ xs,KT H Z6 xs/\h.DictOfH (tupleKind (og P w)) a xs:=by
 obtain⟨z,y,xs,r,o,es,ep,h1,h2,h3,h4,h5⟩:=(show ObjOk P w H h a (.dT Z6) from Hf ok e)
 refine⟨z,y,xs,r,o,es,ep,h1,h2,h3,h4,λx hx=>?_,h5⟩
 have all:∀ {l:List (List pJ×V)}{m:List (List pJ×mS×mF)},KT H l m->∀ x∈m,(tupleKind (og P w)).is h x.1 x.2.1:=by
  intro l m q
  induction q with
  | nil=>intro x hx;exact nomatch hx
  | @cons p q ps qs hq t ih =>
   intro x hx
   rcases jN.mp hx with e|hx
   ·subst e
    exact um ok (by rw[<- hq.1];exact hq.2.1)
   ·exact ih x hx
 exact all r x hx
theorem Hx {Z6:List (List pJ×V)}(ok:HOk P w H h)(e:H a=some (.dT Z6)):Z6.length<=sizeLine/\(a == sysModules)=false /\
  ∃ xs,KT H Z6 xs/\h.DictOfH (tupleKind (og P w)) a xs:=AU ok (.inl e)
end
def DGet (H:Hp)(a:mS)(y:V)(r:Option V):Prop :=
 (∃ Z6 k,Rd H a (.dK Z6)/\y=kV k/\r=rD Z6 k) ∨ ∃ Z6 k b,Rd H a (.dT Z6)/\y=.ref b/\H b=some (.tup (k.map kV))/\r=rD Z6 k
def DPut (H:Hp)(a:mS)(y v:V)(H':Hp):Prop :=
 (∃ Z6 k,H a=some (.dK Z6)/\y=kV k/\Z6.length<sizeLine/\H'=n5 H a (.dK (qG Z6 k v))) ∨
 ∃ Z6 k b,H a=some (.dT Z6)/\y=.ref b/\H b=some (.tup (k.map kV))/\Z6.length<sizeLine/\H'=n5 H a (.dT (qG Z6 k v))
theorem DGet.k {H:Hp}{a:mS}{Z6:List (pJ×V)}{k:pJ}(e:H a=some (.dK Z6)):DGet H a (kV k) (rD Z6 k):=.inl ⟨Z6,k,.inl e,rfl,rfl⟩
theorem DGet.t {H:Hp}{a b:mS}{Z6:List (List pJ×V)}{k:List pJ}(e:H a=some (.dT Z6))(eb:H b=some (.tup (k.map kV))):DGet H a (.ref b) (rD Z6 k):=.inr ⟨Z6,k,b,.inl e,rfl,eb,rfl⟩
theorem DPut.k {H:Hp}{a:mS}{Z6:List (pJ×V)}{k:pJ}{v:V}(e:H a=some (.dK Z6))(hl:Z6.length<sizeLine):DPut H a (kV k) v (n5 H a (.dK (qG Z6 k v))):=.inl ⟨Z6,k,e,rfl,hl,rfl⟩
theorem DPut.t {H:Hp}{a b:mS}{Z6:List (List pJ×V)}{k:List pJ}{v:V}(e:H a=some (.dT Z6))(eb:H b=some (.tup (k.map kV)))(hl:Z6.length<sizeLine) :
  DPut H a (.ref b) v (n5 H a (.dT (qG Z6 k v))):=.inr ⟨Z6,k,b,e,rfl,eb,hl,rfl⟩
section
variable {X:Cx}{Z9:List (mS×Obj)}{σ:St}{H:Hp}{s:mn}{a:mS}{y v:V}{u r:mF}{o:Option V}{A:mC}{E:mF->mn->Prop}
theorem Inv.big (I:Inv X Z9 σ H s):sysModules<s.heap.objs.size:=by
 have h:mainGlobals<s.heap.objs.size:=(I.mod.glob.keeps I.bk).lt
 exact km (by decide) h
theorem Cc {Q:mF->mn->Prop}(hu:A.units+1<cLine)(I:Inv X Z9 σ H s)(g:DGet H a y (some v))(ry:RelV y u)(h:∀ w' s',Inv X Z9 σ H s'->RelV v w'->Q w' s') :
  wpAny (model X.prog X.w) A (getItem (.ref a) u) Q E s:=by
 rcases g with⟨Z6,k,e,ey,l⟩|⟨Z6,k,b,e,ey,eb,l⟩
 ·subst ey
  obtain⟨z,hd,vs,rel,dd⟩:=AY I.hok e
  obtain⟨w',hw,rw'⟩:=RelO.some_of (v:=v) (o:=valueAt vs k) (by rw[l];exact rel.val k)
  exact wpAny_getItem_of (AF ry) dd.mapOf hw (h w' _ (I.tok _) rw')
 ·subst ey
  cases (show u=Value.ref b from ry)
  obtain⟨z,hd,xs,rel,dd⟩:=AU I.hok e
  obtain⟨w',hw,rw'⟩:=RelO.some_of (v:=v) (o:=(atKey xs k).map (·.2)) (by rw[l];exact rel.val k)
  obtain⟨p,hp,hp2⟩:=bI.mp hw
  refine wpAny_getItem_heap (dv hu) (um I.hok eb) dd hp ?_
  rw[hp2]
  exact h w' _ (I.tok _) rw'
theorem MM {Q:mF->mn->Prop}(hu:A.units+1<cLine)(I:Inv X Z9 σ H s)(g:DGet H a y o)(ry:RelV y u)(h:∀ s',Inv X Z9 σ H s'->Q (.bool o.isSome) s') :
  wpAny (model X.prog X.w) A (compareOp .In u (.ref a)) Q E s:=by
 rcases g with⟨Z6,k,e,ey,l⟩|⟨Z6,k,b,e,ey,eb,l⟩
 ·subst ey
  obtain⟨z,hd,vs,rel,dd⟩:=AY I.hok e
  refine wpAny_in_of (AF ry) hd dd.mapOf ?_
  rw[<- (rel.val k).isSome_eq,<- l]
  exact h _ (I.tok _)
 ·subst ey
  cases (show u=Value.ref b from ry)
  obtain⟨z,hd,xs,rel,dd⟩:=AU I.hok e
  refine wpAny_in_heap (dv hu) (um I.hok eb) hd dd ?_
  have q:=(rel.val k).isSome_eq
  rw[ff] at q
  rw[<- q,<- l]
  exact h _ (I.tok _)
theorem wX {h':mQ}{t':Nat}{ob:HO}(I:Inv X Z9 σ H s)(mu:M9 (H a))(hs:kJ a s.heap h')(he:∃ q,h'.get? a=some q)(new:ObjOk X.prog X.w (n5 H a ob) h' a ob) :
  Inv X Z9 σ (n5 H a ob) { s with heap:=h',toks:=t' } :=
 I.write (x:=a) (e:=a) mu (.inl rfl) (λb q hb z=>(hs.2 b hb).trans z) he new
theorem J3 {P:l8}{w:mD}{H':Hp}{h':mQ}{Z6:List (pJ×V)}{vs:List (pJ×mF)}(z:Z6.length<=sizeLine)(hd:(a == sysModules)=false)(rel:KV Z6 vs)(dd:h'.DictOf (og P w) a vs) :
  ObjOk P w H' h' a (.dK Z6):=⟨z,hd,vs,rel,dd⟩
theorem Cb {H':Hp}{Q:Unit->mn->Prop}(hu:A.units+1<cLine)(I:Inv X Z9 σ H s)(g:DPut H a y v H')(ry:RelV y u)(rv:RelV v r)(h:∀ s',Inv X Z9 σ H' s'->Q () s') :
  wpAny (model X.prog X.w) A (setItem (.ref a) u r) Q E s:=by
 rcases g with⟨Z6,k,e,ey,l,eH⟩|⟨Z6,k,b,e,ey,eb,l,eH⟩
 ·subst ey eH
  obtain⟨z,hd,vs,rel,dd⟩:=MK I.hok e
  have hz:vs.length<=sizeLine:=by rw[<- rel.length];exact z
  have hl:(qG Z6 k v).length<=sizeLine:=by have:=qT Z6 k v;lia
  refine wpAny_setItem_pairs (hsz:=hz) (AF ry) dd λh' dd' hs=>h _ ?_
  have he:∃ q,h'.get? a=some q:=let ⟨q,_,_,hq,_⟩:=dd';⟨q,hq⟩
  exact wX I (by rw[e];exact True.intro) hs he (J3 hl hd (rel.put k rv) dd')
 ·subst ey eH
  cases (show u=Value.ref b from ry)
  obtain⟨z,hd,xs,rel,dd⟩:=Hx I.hok e
  have hz:xs.length<=sizeLine:=by rw[<- jH rel];exact z
  have hl:(qG Z6 k v).length<=sizeLine:=by have:=qT Z6 k v;lia
  refine wpAny_setItem_heap (hsz:=hz) (dv hu) (um I.hok eb) dd λh' dd' hs=>h _ ?_
  obtain⟨q,es,ep,hq,h2,h3,h4,_,h5⟩:=dd'
  refine wX I (by rw[e];exact True.intro) hs ⟨q,hq⟩ ⟨hl,hd,_,(rel.put k eb rv).keeps λc ys ec=>?_,q,es,ep,hq,h2,h3,h4,h5⟩
  rw[m9 (Hq ec e (λz=>nomatch z))]
  exact ec
end
def M8 (i:Expr):Prop:=∀ ov iv,subscripted i false ov iv=operate [ov,iv] (getItem ov iv)
theorem EZ {prog:l8}{w:mD}{A:mC}{E:mF->mn->Prop}{s:mn}{env:Env}{value slice:Expr}{pos:Pos}{T id:String}{Q:mF->mn->Prop}
  (hl:typeLookup (.type T) "__getitem__" = pure (some (.builtin id)))(hs:M8 slice)
  (h:wpAny (model prog w) A (eval value env) (λo s₁=>wpAny (model prog w) A (eval slice env) (λi s₂=>s₂.TypeIs o T/\wpAny (model prog w) A (getItem o i) Q E s₂) E s₁) E s) :
  wpAny (model prog w) A (eval (.Subscript value slice pos) env) Q E s:=by
 refine lD (lh h (λo s₁ h₁=>lh h₁ (λi s₂ h₂=>?_) λ_ _ x=>x) λ_ _ x=>x)
 obtain⟨hT,h₂⟩:=h₂
 unfold subscriptTail
 refine lq ?_
 rw[getitemInPython_of_ne hT.not_modules]
 refine lq (gH hT hl ?_)
 have fin:wpAny (model prog w) A (subscripted slice false o i) (λr s₃=>wpAny (model prog w) A (letTemporaryGo value o r >>= λ_=>pure r) Q E s₃) E s₂:=by
  rw[hs o i]
  exact wpAny_operating (lh h₂ (λr s₃ h₃=>lq (wpAny_letTemporaryGo (lg h₃))) λ_ _ x=>x)
 first
  | exact lg (lq fin)
  | exact lq (lg (lq fin))
  | exact lq fin
theorem yA {X:Cx}{Z9:List (mS×Obj)}{σ:St}{H:Hp}{s:mn}{a:mS}{y:V}{o:Option V}(I:Inv X Z9 σ H s)(g:DGet H a y o):s.TypeIs (.ref a) "dict":=by
 rcases g with⟨Z6,k,e,_,_⟩|⟨Z6,k,b,e,_,_,_⟩
 ·obtain⟨_,_,vs,_,dd⟩:=AY I.hok e
  exact dd.typeIs
 ·obtain⟨_,_,xs,_,dd⟩:=AU I.hok e
  exact dd.typeIs
def Lm (td ty:TE):TE:=λσ H Q=>td σ H λx H1=>ty σ H1 λy H2=>∃ a v,x=.ref a/\DGet H2 a y (some v)/\Q v H2
def Lx (td ty tv:TE):TS:=λD σ H=>tv σ H λv H1=>td σ H1 λx H2=>ty σ H2 λy H3=>∃ a H4,x=.ref a/\DPut H3 a y v H4/\D.nx σ H4
section
variable {X:Cx}{o i value:Expr}{pos pos':Pos}{td ty tv:TE}
theorem As (hu:X.A.units+1<cLine)(ho:PE X o td)(hi:PE X i ty)(hs:M8 i):PE X (.Subscript o i pos) (Lm td ty):=by
 intro Z9 s σ H Q I h
 refine EZ PySem.F.slot_dict_getitem.lookup hs (nV (ho Z9 s σ H _ I h) λu s1 ⟨x,H1,I1,rx,q1⟩=>nV (hi Z9 s1 σ H1 _ I1 q1) λiv s2 ⟨y,H2,I2,ry,a,v,ex,g,q2⟩=>?_)
 subst ex
 obtain rfl:u=Value.ref a:=rx
 exact⟨yA I2 g,Cc hu I2 g ry λw' s3 I3 rw'=>⟨v,H2,I3,rw',q2⟩⟩
theorem Fh (hu:X.A.units+1<cLine)(ho:PE X o td)(hi:PE X i ty)(hv:PE X value tv)(hs:swapsWith value (some (.Subscript o i pos')) pos.line X.env=pure false) :
  PS X (.Assign [.Subscript o i pos'] value pos) (Lx td ty tv):=by
 intro Z9 s σ H D I h
 refine wpAny_Assign_Subscript (nV (hv Z9 s σ H _ I h) λr s1 ⟨v,H1,I1,rv,q1⟩=>nV (ho Z9 s1 σ H1 _ I1 q1) λu s2 ⟨x,H2,I2,rx,q2⟩=>nV (hi Z9 s2 σ H2 _ I2 q2) λiv s3 ⟨y,H3,I3,ry,a,H4,ex,g,q3⟩=>?_) hs
 subst ex
 obtain rfl:u=Value.ref a:=rx
 exact Cb hu I3 g ry rv λs4 I4=>⟨σ,H4,I4,q3⟩
end
theorem yx {P:l8}{w:mD}{H:Hp}(h:mQ)(hb:sysModules<h.objs.size):ObjOk P w H (h.push { cls:=.type "dict",data:=.dict #[] }) h.objs.size (.dT []) :=
 ⟨kT _,beq_eq_false_iff_ne.mpr (ma (kj hb)),[],.nil,_,#[],0,da _ rfl,⟨rfl,rfl,rfl⟩,rfl,rfl,jd⟩
def HK:TE:=λ_ H Q=>∀ p,H p=none->Q (.ref p) (n5 H p (.dT []))
section
variable {X:Cx}{pos:Pos}
theorem Dk:PE X (.Dict [] [] pos) HK:=λZ9 s σ H Q I h =>
 wpAny_Dict_empty ⟨.ref s.heap.objs.size,_,I.laid (a:=s.heap.objs.size) (o:=.dT []) (t':=s.toks) (λ_ _ q=>bQ _ q) (kW _) (yx s.heap I.big),rfl,h _ (I.hok.fresh (kW _))⟩
end
end L2
namespace HT
open PySem PyProof.Rows
def lexLe:List Int->List Int->Bool
 | [],[]=>true
 | [],_ :: _=>true
 | _ :: _,[]=>false
 | x :: xs,y :: ys=>if x=y then lexLe xs ys else decide (x<=y)
theorem zr (x y:Int)(xs ys:List Int):lexLe (x :: xs) (y :: ys)=if x=y then lexLe xs ys else decide (x<=y):=rfl
theorem u4:lexLe [] []=true:=rfl
theorem ud (y:Int)(ys:List Int):lexLe [] (y :: ys)=true:=rfl
theorem ue (x:Int)(xs:List Int):lexLe (x :: xs) []=false:=rfl
theorem B7 (A:mC)(s:mn) (a:Int)(t:Tok) (c:Int)(u:Tok):∃ e,lE A s (.int a t) (.int c u) e/\(e=true↔a=c) :=
 ⟨(a == c),dA a t c u,by simp⟩
theorem C0 (A:mC)(s:mn) (a:Int)(t:Tok) (c:Int)(u:Tok)(prog:l8)(w:mD)(E:mF->mn->Prop)(Q:mF->mn->Prop)(h:Q (.bool (decide (a<=c))) s) :
  wpAny (model prog w) A (richCompare .LtE (.int a t) (.int c u)) Q E s :=
 (PyProof.Rows.le_int h:wpAny (model prog w) A (compareOp .LtE (.int a t) (.int c u)) Q E s)
section
open PySem.SeqAt
open PySem.AutoSeq1 (wpAny_loadPart')
open PySem.MeetsSeq PySem.MeetsSeq2 PySem.MeetsSeq3
theorem uT (l b:mS)(items ZX:Array mF) (n n2:Nat)(dd dd2:Option mS)(sl sl2:Array (Option mF))(ns ms:List Int)(hi:me items.toList ns)(hj:me ZX.toList ms) :
  mJ (mh.«tuple.__le__» ⟨[.ref l,.ref b],[]⟩)
   (λ_ R s=>s.heap.get? l=some { cls:=.type "tuple",dict:=dd,data:=.seq items n,slots:=sl }/\s.heap.get? b=some { cls:=.type "tuple",dict:=dd2,data:=.seq ZX n2,slots:=sl2 } /\
    R (.ok (.ret (.bool (lexLe ns ms)))) s) :=
 .of_wp λprog w A R s h=>by
  obtain⟨hp,g,d,tk,os⟩:=s;obtain⟨hl,hb,h⟩:=h
  have f2:=bd
  have z1:items.size=ns.length:=by rw[<- hi.length];simp
  have z2:ZX.size=ms.length:=by rw[<- hj.length];simp
  wp_walk using gJ hl,gJ hb,fN _ (λrest b s'=>b.1=none/\s'=⟨hp,g,d,tk,os⟩/\∃ (vs ws:List mF)(ns' ms':List Int),rest=vs.zip ws /\
   me vs ns'/\me ws ms'/\ns'.length+ZX.size=ms'.length+items.size/\R (.ok (.ret (.bool (lexLe ns' ms')))) ⟨hp,g,d,tk,os⟩) _
  case turn =>
   rintro⟨y,x⟩ rest b s' ⟨hb',rfl,vs,ws,ns',ms',hz,hvi,hwi,hlen,hR⟩
   cases hvi with
   | nil=>rw[fj] at hz;cases hz
   | cons a t hvi' =>
    cases hwi with
    | nil=>rw[dJ] at hz;cases hz
    | cons c u hwi' =>
     rw[dL] at hz
     injection hz with hyx hrest
     injection hyx with hy hx
     subst hy hx
     rw[zr] at hR
     simp only[gm] at hlen
     obtain⟨e,he,hiff⟩:=B7 A.in1 ⟨hp,g,d,tk,os⟩ a t c u
     refine lq (he prog w _ _ ?_)
     cases e with
     | true =>
      rw[if_pos (hiff.mp rfl)] at hR
      wp_walk
      exact⟨rfl,rfl,_,_,_,_,hrest,hvi',hwi',by lia,hR⟩
     | false =>
      rw[if_neg (λq=>absurd (hiff.mpr q) eB)] at hR
      have hri:=C0 A.in1 ⟨hp,g,d,tk,os⟩ a t c u prog w
      wp_walk using hri
      exact⟨_,rfl,by simpa using hR⟩
  case fin =>
   rintro⟨b1,b2⟩ s' ⟨hb',rfl,vs,ws,ns',ms',hz,hvi,hwi,hlen,hR⟩
   simp only at hb'
   subst hb'
   have hv:lexLe ns' ms'=decide (items.size<=ZX.size):=by
    cases hvi with
    | nil =>
     cases hwi with
     | nil =>
      simp only[ip] at hlen
      rw[u4]
      exact (decide_eq_true ⋯).symm
     | cons c u hw =>
      simp only[ip,gm] at hlen
      rw[ud]
      exact (decide_eq_true ⋯).symm
    | cons a t hv =>
     cases hwi with
     | nil =>
      simp only[ip,gm] at hlen
      rw[ue]
      exact (decide_eq_false ⋯).symm
     | cons c u hw =>
      rw[dL] at hz
      cases hz
   rw[hv] at hR
   wp_walk
   exact⟨_,rfl,by simpa[ag] using hR⟩
  case h =>
   exact⟨rfl,rfl,items.toList,ZX.toList,ns,ms,rfl,hi,hj,by lia,h⟩
end
section
variable {prog:l8}{w:mD}{A:mC}{E:mF->mn->Prop}{s:mn}
theorem le_tupInts {l b:mS}{items ZX:Array mF}{ns ms:List Int}{Q:mF->mn->Prop}(hl:mL s.heap l items)(hb:mL s.heap b ZX)(hi:me items.toList ns)(hj:me ZX.toList ms)
  (hu:A.units<cLine)(h:Q (.bool (lexLe ns ms)) s):wpAny (model prog w) A (compareOp .LtE (.ref l) (.ref b)) Q E s:=by
 obtain⟨⟨cls,dd,data,sl⟩,ho,hc,n,hd⟩:=id hl
 obtain⟨⟨cls2,dd2,data2,sl2⟩,ho2,hc2,n2,hd2⟩:=id hb
 simp only at hc hd hc2 hd2
 subst hc hd hc2 hd2
 exact bD (op:=.LtE) ⟨_,ho,rfl⟩ ⟨_,ho2,rfl⟩ PySem.F.slot_tuple_le PySem.F.entry_tuple_le (PySem.F.args_tuple_le_2 _ _) (uT l b items ZX n n2 dd dd2 sl sl2 ns ms hi hj)
  ⟨ho,ho2,show Value.bool (lexLe ns ms)≠Value.notImplemented/\Q (.bool (lexLe ns ms)) s from ⟨(λx=>nomatch x),h⟩⟩ hu
end
end HT
namespace L2
open PySem PySem.Spec PyProof.Rows
section
variable {X:Cx}
inductive rLeT (K:ke)(x:V)(y:V)(H:Hp)(Q:VK):Prop
 | mk (a:_)(b:_)(ns:_)(ms:_)(_:x=.ref a)(_:y=.ref b)(_:SqT K H a (ns.map V.int))(_:SqT K H b (ms.map V.int))(_:Q (.bl (HT.lexLe ns ms)) H):rLeT K x y H Q
theorem IV (hu:X.A.units<cLine):pD X (compareOp .LtE) (rLeT X.K):=by
 intro Z9 s σ H x y v u Q I rx ry h
 obtain⟨a,b,ns,ms,rfl,rfl,ha,hb,q⟩:=h
 cases rx
 cases ry
 obtain⟨Z7,r1,p1,_⟩:=I.tuple ha
 obtain⟨its2,r2,p2,_⟩:=I.tuple hb
 have i1:me Z7.toArray.toList ns:=intsAre_of r1
 have i2:me its2.toArray.toList ms:=intsAre_of r2
 exact HT.le_tupInts p1 p2 i1 i2 hu ⟨.bl (HT.lexLe ns ms),H,I,rfl,q⟩
end
end L2
set_option maxHeartbeats 4000000
namespace L2
open PySem PySem.Spec PyProof.Rows
open AutoSeq1 (wpAny_loadPart')
theorem zm (l b:mS)(xs ys:Array mF) (n n2:Nat)(dd:Option mS)(sl:Array (Option mF))(h0:¬(!xs.isEmpty && aZ (xs.size+ys.size))=true)(h1:xs.size<=sizeLine)(h2:xs.size+ys.size<=sizeLine+1) :
  mJ (mh.«list.extend» ⟨[.ref l,.ref b],[]⟩) (λ_ R s=>s.heap.get? l=some { cls:=.type "list",dict:=none,data:=.seq xs n,slots:=#[] }/\s.heap.get? b=some { cls:=.type "tuple",dict:=dd,data:=.seq ys n2,slots:=sl }/\R (.ok (.ret Value.none)) { s with heap:=s.heap.update l (lH λx=>x++ys),toks:=s.toks }) :=
 .of_wp λprog w A R s h=>by
  obtain⟨hp,g,d,tk,os⟩:=s;obtain⟨hl,hb,h⟩:=h
  have f2:=bd;have f3:=AutoSeq1.sub_list_list;have f4:=AutoSeq1.sub_tuple_list;have f5:=AutoSeq1.sub_list_tuple
  have hz':(xs++ys).size<=sizeLine+1:=by rw[fK];exact h2
  wp_walk using (gG hl rfl (hz:=h1) (_hz':=hz')),gJ hl,gJ hb
  exact⟨_,rfl,h⟩
section
variable {X:Cx}
inductive rExtT (K:ke)(x:V)(vs:List V)(H:Hp)(Q:VK):Prop
 | mk (l:_)(b:_)(xs:_)(zs:_)(_:x=.ref l)(_:vs=[.ref b])(_:H l=some (.lst xs))(_:SqT K H b zs)(_:xs.length+zs.length<=sizeLine)(_:Q .non (n5 H l (.lst (xs++zs)))):rExtT K x vs H Q
theorem FK:Sj X "list.extend" (rExtT X.K):=by
 intro Z9 s σ H x vs v us Q I rx rv h
 obtain⟨l,b,xs,zs,rfl,rfl,hH,hB,hz,q⟩:=h
 cases rx
 obtain⟨u,rfl,ru⟩:=rv.one
 cases ru
 obtain⟨z,Z7,n,r,hl,e⟩:=I.lstM hH
 obtain⟨its2,r2,⟨⟨oc,od,odt,os⟩,e2,ec,n2,ed⟩,z2⟩:=I.tuple hB
 have hl2:=r2.length
 simp only at ec ed
 subst ec ed
 have hsz:Z7.toArray.size+its2.toArray.size<=sizeLine:=by rw[fo,fo];lia
 have hlong:¬ (!Z7.toArray.isEmpty && aZ (Z7.toArray.size+its2.toArray.size))=true:=by
  rw[tZ hsz,jn];exact eB
 refine lA eg ⟨_,e,rfl⟩ dh (cO _ _) (zm l b Z7.toArray its2.toArray n n2 _ _ hlong (by rw[fo];lia) ⋯) ⟨e,e2,?_⟩
 refine⟨.non,_,I.lset (its':=Z7++its2) hH e (by simp) (r.append r2) ?_,rfl,q⟩
 rw[dS];lia
theorem Do:pD X (binaryOp .Add) (λx y H Q=>∃ a b ys,x=.ref a/\y=.ref b/\SqT X.K H a []/\SqT X.K H b ys/\Q (.ref b) H):=by
 intro Z9 s σ H x y v u Q I rx ry h
 obtain⟨a,b,ys,rfl,rfl,ha,hb,q⟩:=h
 cases rx;cases ry
 obtain⟨Z7,r1,⟨⟨oc,od,odt,os⟩,e1,ec,n,ed⟩,_⟩:=I.tuple ha
 obtain⟨its2,r2,⟨⟨oc2,od2,odt2,os2⟩,e2,ec2,n2,ed2⟩,_⟩:=I.tuple hb
 simp only at ec ed ec2 ed2
 subst ec ed ec2 ed2
 cases r1
 exact j7 ⟨_,e1,rfl⟩ ⟨_,e2,rfl⟩ fR jv F.slot_tuple_add F.entry_tuple_add (F.args_tuple_add_2 _ _) (tuple_addW0 a b #[] its2.toArray n n2 od od2 os os2 rfl) ⟨e1,e2,.ref b,H,I,rfl,q⟩
theorem CM:KN X (λx lo hi H Q=>∃ a xs,x=.ref a/\SqT X.K H a xs/\HT.sIx xs.length 0 lo=0/\HT.sIx xs.length xs.length hi=xs.length/\Q (.ref a) H):=by
 intro Z9 s σ H x v vl vu lo hi sl Q I rx hs pl pu h
 obtain⟨t,xs,rfl,hx,h1,h2,q⟩:=h
 cases rx
 obtain⟨Z7,r,ht,hz⟩:=I.tuple hx
 have hlen:Z7.toArray.size=xs.length:=by rw[fo];exact r.length.symm
 refine⟨"tuple",_,af.lookup,ht.typeIs,?_⟩
 obtain⟨os,eo,co,do'⟩:=id hs
 have ty:s.TypeIs (.ref sl) "slice":=⟨os,eo,co⟩
 rw[<- hlen] at h1 h2
 unfold getItem
 try with_reducible refine jq ?_
 first|refine lq (lg ?_)|skip
 refine lq (eK ht.typeIs (by decide) (lq (bh (name:=j9 "__getitem__") ht.typeIs af (fP af ht.typeIs cV ?_ (dz _ _)))))
 show wpAny _ _ (aD (.ref t) >>= _) _ _ s;refine lq (ju ht (lq (j0 ty ?_)))
 rw[if_pos (by decide)];refine lq (HT.sliceApplied_gen hs pl pu ?_)
 show wpAny _ _ (if (((HT.sIx Z7.toArray.size 0 lo:Nat):Int) == 0 && (1:Int) == 1 && (HT.sIx Z7.toArray.size Z7.toArray.size hi-HT.sIx Z7.toArray.size 0 lo) == Z7.toArray.size)=true then _ else _) _ _ s
 rw[if_pos (by rw[h1,h2];simp)]
 refine lq (m:=aE (.ref t)) ?_
 unfold aE
 refine lq (j0 ht.typeIs (lg ?_))
 rw[if_pos (by decide)]
 exact lq (k9 (lg ⟨_,rfl,lg ⟨.ref t,H,I,rfl,q⟩⟩))
end
def Kept (h0 h:mQ) (N:Nat):Prop:=∀ b o,b<N->h0.get? b=some o->h.get? b=some o
def EE (P:l8)(w:mD)(A:mC)(I:Nat->mF->Prop)(bt:Nat->Nat->Bool)(h0:mQ) (N:Nat):Prop :=
 ∀ i j u v (s:mn)(Q:mF->mn->Prop)(E:mF->mn->Prop),Kept h0 s.heap N->I i u->I j v->Q (.bool (bt i j)) s->wpAny (model P w) A (richCompare .Lt u v) Q E s
section
variable {P:l8}{w:mD}{A:mC}{R:mq->mn->Prop}{it S N:mS}{fp wr:List mS}{n:Nat}{V:Nat->mF->Prop}{St:Nat->mQ->Prop}{bt:Nat->Nat->Bool}{h0:mQ}
theorem zt (W:mE P w A.in1 it fp wr n V St)(C:EE P w A.in1 V bt h0 N)(sf:S ∉ fp)(nw:∀ b∈wr,N<=b)(nS:N<=S) :
  ∀ (k j:Nat)(s:mn)(best:mF) (c:Nat),n-(j+1)=k->j+1<=n->St (j+1) s.heap->V (argBest bt j) best->Kept h0 s.heap N->s.heap.get? S=some { cls:=.type "list",dict:=none,data:=.seq #[best,best] c,slots:=#[] } ->
  (∀ v h' tk,V (argBest bt (n-1)) v->(∀ b o,b ∉ wr->b≠S->s.heap.get? b=some o->h'.get? b=some o)->R (.ok (.ret v)) { s with heap:=h',toks:=tk })->codeAny (model P w) A (.builtin "min.loop" ⟨[.ref it,.none,.ref S],[]⟩) R s:=by
 have sw:S ∉ wr:=λh=>sf (W.sub _ h)
 have nm:(toString "min"++toString ".loop":String) = "min.loop":=by decide
 have low:∀ {b:mS},b<N->b ∉ wr/\b≠S:=λ{b} hb=>⟨λz=>absurd (nw b z) (lJ.mpr hb),λz=>absurd nS (by rw[<- z];exact lJ.mpr hb)⟩
 intro k
 induction k with
 | zero =>
  intro j s best c hk hj hst hV kp hS hR
  have en:j+1=n:=by lia
  refine gP gC ?_;rw[cS gy _]
  show wpAny _ A.in1 (seqItems? (.ref S) >>= _) _ _ s;refine lq (iM hS rfl ?_)
  show wpAny _ A.in1 (tryCatch (pyNext (.ref it)) _ >>= _) _ _ s;refine lq (iK (W.done s _ _ (en ▸ hst) λg tk kk=>?_))
  have S1:=kk S _ sw hS
  show wpAny _ A.in1 (updateSeq S (λ_=>#[]) >>= _) _ _ _;refine lq (gG S1 rfl (lq (kN (lg ?_))))
  exact hR best _ tk (by rw[<- en];exact hV) λb o c1 c2 e=>(bP _ _ (ma c2)).trans (kk b o c1 e)
 | succ k ih =>
  intro j s best c hk hj hst hV kp hS hR
  have lt:j+1<n:=by lia
  refine gP gC ?_;rw[cS gy _]
  show wpAny _ A.in1 (seqItems? (.ref S) >>= _) _ _ s;refine lq (iM hS rfl ?_)
  show wpAny _ A.in1 (tryCatch (pyNext (.ref it)) _ >>= _) _ _ s;refine lq (iK (W.item (j+1) s _ _ lt hst λv g tk vP st1 kk=>?_))
  have S1:=kk S _ sw hS
  have kp1:Kept h0 g N:=λb o hb e=>kk b o (low hb).1 (kp b o hb e)
  show wpAny _ A.in1 (tryCatch (holding [v,v] (richCompare .Lt v best >>= _)) _ >>= _) _ _ _
  refine lq (iK (jq (lq (C (j+1) (argBest bt j) v best _ _ _ kp1 vP hV (lq (jq (eG (lq (kN (lg ?_))))))))))
  cases hb:bt (j+1) (argBest bt j) with
  | true =>
   simp only[if_true];refine lq (gG S1 rfl (lq (kN ?_)));rw[nm]
   refine lg ⟨jx gy _,ih (j+1) _ v _ ⋯ lt (W.frame _ _ _ st1 λb bf o e=>(bP _ _ (λh:S=b=>sf (by rw[h];exact bf))).trans e) (by simp only[argBest,hb,if_true];exact vP)
    (λb o l e=>(bP _ _ (ma (low l).2)).trans (kp1 b o l e)) (ck _ S1 rfl) λv' g' tk' p' k'=>?_⟩
   exact hR v' g' tk' p' λb o c1 c2 e=>k' b o c1 c2 ((bP _ _ (ma c2)).trans (kk b o c1 e))
  | false =>
   simp only[eD,if_false];refine lq (kN ?_);rw[nm]
   refine lg ⟨jx gy _,ih (j+1) _ best c ⋯ lt st1 (by simp only[argBest,hb,eD,if_false];exact hV) kp1 S1 λv' g' tk' p' k'=>?_⟩
   exact hR v' g' tk' p' λb o c1 c2 e=>k' b o c1 c2 (kk b o c1 e)
theorem yg (W:mE P w A.in1 it fp wr n V St)(C:EE P w A.in1 V bt h0 N)(sf:S ∉ fp)(nw:∀ b∈wr,N<=b)(nS:N<=S)(hn:0<n){s:mn}{c:Nat}(hst:St 0 s.heap)(kp:Kept h0 s.heap N)
  (hS:s.heap.get? S=some { cls:=.type "list",dict:=none,data:=.seq #[] c,slots:=#[] })
  (hR:∀ v h' tk,V (argBest bt (n-1)) v->(∀ b o,b ∉ wr->b≠S->s.heap.get? b=some o->h'.get? b=some o)->R (.ok (.ret v)) { s with heap:=h',toks:=tk }):codeAny (model P w) A (.builtin "min.loop" ⟨[.ref it,.none,.ref S],[]⟩) R s:=by
 have sw:S ∉ wr:=λh=>sf (W.sub _ h)
 have nm:(toString "min"++toString ".loop":String) = "min.loop":=by decide
 have low:∀ {b:mS},b<N->b ∉ wr/\b≠S:=λ{b} hb=>⟨λz=>absurd (nw b z) (lJ.mpr hb),λz=>absurd nS (by rw[<- z];exact lJ.mpr hb)⟩
 refine gP gC ?_;rw[cS gy _]
 show wpAny _ A.in1 (seqItems? (.ref S) >>= _) _ _ s;refine lq (iM hS rfl ?_)
 show wpAny _ A.in1 (tryCatch (pyNext (.ref it)) _ >>= _) _ _ s;refine lq (iK (W.item 0 s _ _ hn hst λv g tk vP st1 kk=>?_))
 have S1:=kk S _ sw hS
 show wpAny _ A.in1 (updateSeq S (λ_=>#[v,v]) >>= _) _ _ _;refine lq (gG S1 rfl ?_);rw[nm]
 refine lg ⟨jx gy _,zt W C sf nw nS _ 0 _ v _ rfl hn (W.frame _ _ _ st1 λb bf o e=>(bP _ _ (λh:S=b=>sf (by rw[h];exact bf))).trans e) vP
  (λb o l e=>(bP _ _ (ma (low l).2)).trans (kk b o (low l).1 (kp b o l e))) (ck _ S1 rfl) λv' g' tk' p' k'=>?_⟩
 exact hR v' g' tk' p' λb o c1 c2 e=>k' b o c1 c2 ((bP _ _ (ma c2)).trans (kk b o c1 e))
end
section
variable {P:l8}{w:mD}{A:mC}{E:mF->mn->Prop}{s:mn}
theorem uK {l:mS}{xs:Array mF}{bt:Nat->Nat->Bool}{Q:mF->mn->Prop}(hh:A.in1.handled=none)(hl:s.heap.IsList l xs)(hn:0<xs.size)(C:EE P w A.in1 (λi v=>xs[i]?=some v) bt s.heap s.heap.objs.size)
  (K:∀ v h' tk,xs[argBest bt (xs.size-1)]?=some v->(∀ b o,s.heap.get? b=some o->h'.get? b=some o)->Q v { s with heap:=h',toks:=tk }):wpAny (model P w) A (call (.builtin "min") [.ref l]) Q E s:=by
 have nm:(toString "min"++toString ".loop":String) = "min.loop":=by decide
 have ll:l<s.heap.objs.size:=by obtain⟨_,e,_⟩:=hl;exact kI e
 refine call_function_tree F.kind_min F.plain_min F.entry_min (F.args_min1 _) ?_
 show wpAny _ A.in1 (au "min" ["key","default"] 0 ⟨[],[]⟩ >>= _) _ _ s
 refine lq (kM (show au "min" ["key","default"] 0 ⟨[],[]⟩=pure [none,none] from rfl) (lq (lg (lq (eM hl ?_)))))
 have W:=lC (prog:=P) (w:=w) hh s.heap.objs.size l (kj ll) xs
 refine lq (eO ?_)
 rw[nm]
 have z1:(s.heap.push { cls:=.type "list_iterator",data:=.fields #[.ref l,.int 0 0] }).objs.size=s.heap.objs.size+1:=jl ..
 refine lg ⟨jx gy _,yg (S:=(s.heap.push { cls:=.type "list_iterator",data:=.fields #[.ref l,.int 0 0] }).objs.size) W C ?_ ?_ ?_ hn ⟨⟨_,bQ _ (da _ rfl),rfl,rfl⟩,(hl.push _).push _⟩
  (λb o hb e=>bQ _ (bQ _ e)) (da _ rfl) λv h' tk hv hk=>?_⟩
 ·rw[z1];intro z;simp only[jN,gc,or_false] at z;rcases z with z|z
  ·exact absurd z (kl (f7 _))
  ·exact absurd z (kl (fh ll))
 ·intro b hb;simp at hb;rw[hb];exact kW _
 ·rw[z1];exact kU _
 ·refine K v h' tk hv λb o e=>hk b o (by simp;exact kj (kI e)) ?_ (bQ _ (bQ _ e))
  rw[z1];exact kj (fh (kI e))
end
end L2
namespace L2
open PySem PySem.Spec PyProof.Rows
theorem D2 {α β:Type}{f g:α->Option β}{l:List α}(h:∀ x∈l,f x=g x):l.filterMap f=l.filterMap g:=by
 induction l with
 | nil=>rfl
 | cons a l ih =>
  rw[c8,c8,h a (dQ ..),ih λx hx=>h x (cI _ hx)]
theorem xr {α:Type}(m:List α):(lL m.length).filterMap (λk=>m.reverse[m.length-1-k]?)=m:=by
 induction m with
 | nil=>rfl
 | cons a m ih =>
  rw[gm,List.range_succ_eq_map,c8,dW]
  have e0:(a :: m).reverse[m.length+1-1-0]?=some a:=by
   rw[fq,az (by simp)];simp
  rw[e0]
  refine congrArg (a :: ·) ?_
  refine Eq.trans ?_ ih
  refine D2 λk hk=>?_
  have hk:k<m.length:=by simpa using hk
  show (a :: m).reverse[m.length+1-1-(k+1)]?=_
  rw[fq,aK (by simp;lia)]
  congr 1
  lia
section
variable {X:Cx}{a:Expr}{ta:TE}
theorem RelV.bool_iff {x:V}{v:mF}{b:Bool}(r:RelV x v):(v == Value.bool b)=decide (x=.bl b):=by
 cases x with
 | non=>cases r;rfl
 | bl c=>cases r;cases c<;>cases b<;>rfl
 | int _=>obtain⟨t,rfl⟩:=r;rfl
 | str _=>obtain⟨t,rfl⟩:=r;rfl
 | byt _=>obtain⟨t,rfl⟩:=r;rfl
 | flt _=>obtain⟨t,rfl⟩:=r;rfl
 | ref _=>cases r;rfl
 | ty _=>cases r;rfl
theorem uo {M:mI}{A:mC}{E:mF->mn->Prop}{s:mn}{Q:mF->mn->Prop}{x:V}{v:mF}{b:Bool}(r:RelV x v)(h:Q (.bool (!decide (x=.bl b))) s):wpAny M A (compareOp .IsNot v (.bool b)) Q E s:=by
 rw[<- r.bool_iff] at h
 cases x with
 | bl c=>cases r;exact lg h
 | non=>cases r;exact lg h
 | ref _=>cases r;exact lg h
 | ty _=>cases r;exact lg h
 | _=>obtain⟨t,rfl⟩:=r;exact lg h
theorem Fs {b:Bool} {j pos'}(ha:PE X a ta):PC X .IsNot a (.Constant (.bool b) j pos') (λσ H Q=>ta σ H λx H1=>Q (.bl (!decide (x=.bl b))) H1):=by
 intro Z9 s σ H Q I h
 refine nV (ha Z9 s σ H _ I h) λv s1 q1=>?_;obtain⟨x,H1,I1,r1,q1⟩:=q1
 exact jW (uo r1 ⟨.bl _,H1,I1,rfl,q1⟩)
end
end L2
namespace L2
open PySem PySem.Spec PyProof.Rows
def rG (cells:List (Str×mS)):List (Str×lX)->List (Str×mS)->List (Str×mS)
 | [],Z8=>Z8
 | (n,k) :: r,Z8=>if (k == NameKind.free)=true then rG cells r ((n,(cells.lookup n).getD 0) :: Z8) else rG cells r Z8
theorem yI {env:Env}:∀ (names:List (Str×lX))(Z8:List (Str×mS)),(∀ p∈names,p.2=.free->∃ c,env.cells.lookup p.1=some c) ->
  (forIn names Z8 λ(x:Str×lX)(cs:List (Str×mS))=>if (x.2 == NameKind.free)=true then cellOf env x.1 >>= λc=>pure (ForInStep.yield ((x.1,c) :: cs)) else pure (ForInStep.yield cs):Sem (List (Str×mS)))=pure (rG env.cells names Z8)
 | [],Z8,_=>rfl
 | (n,k) :: r,Z8,h=>by
  have ih:=yI (env:=env) r
  rw[ir]
  unfold rG
  by_cases hk:(k == NameKind.free)=true
  ·obtain⟨c,hc⟩:=h (n,k) dQ (by simpa using hk)
   have hcell:cellOf env n=pure c:=by
    have hc':env.cells.lookup n=some c:=hc
    unfold cellOf;rw[hc']
   have hc':env.cells.lookup n=some c:=hc
   simp only[hk,if_true,hcell,hc',fW,pure_bind]
   exact ih _ λp hp=>h p (cI _ hp)
  ·simp only[hk,if_false,pure_bind,eD]
   exact ih _ λp hp=>h p (cI _ hp)
theorem uE {scope:mG}{env:Env}(h:∀ p∈scope.names,p.2=.free->∃ c,env.cells.lookup p.1=some c):closureFor scope env=pure (rG env.cells scope.names []):=by
 have q:=yI (env:=env) scope.names [] h
 unfold closureFor
 first
  | exact (by rw[q];rfl)
  | (simp only[bind_pure];exact q)
theorem re {cells:List (Str×mS)}{x:Str}{c:mS}:∀ (names:List (Str×lX))(Z8:List (Str×mS)),(∀ p∈names,p.2=.free->∃ c,cells.lookup p.1=some c)->(∀ y d,Z8.lookup y=some d->cells.lookup y=some d) ->
  (rG cells names Z8).lookup x=some c->cells.lookup x=some c
 | [],Z8,_,ha,h=>ha x c h
 | (n,k) :: r,Z8,hn,ha,h=>by
  unfold rG at h
  split at h
  ·rename_i hk
   refine re r _ (λp hp=>hn p (cI _ hp)) (λy d hy=>?_) h
   rw[gh] at hy
   obtain⟨c',hc'⟩:=hn (n,k) dQ (by simpa using hk)
   have hc'':cells.lookup n=some c':=hc'
   split at hy
   ·rename_i hyn
    have e:y=n:=by simpa using hyn
    subst e
    rw[hc''] at hy ⊢
    exact hy
   ·exact ha y d hy
  ·exact re r _ (λp hp=>hn p (cI _ hp)) ha h
theorem uF {cells:List (Str×mS)}{x:Str}:∀ (names:List (Str×lX))(Z8:List (Str×mS)),((x,NameKind.free)∈names ∨ ∃ c,Z8.lookup x=some c)->∃ c,(rG cells names Z8).lookup x=some c
 | [],Z8,h=>by
  rcases h with h|h
  ·simp at h
  ·exact h
 | (n,k) :: r,Z8,h=>by
  unfold rG
  split
  ·refine uF r _ ?_
   by_cases hx:x=n
   ·subst hx
    exact .inr ⟨(cells.lookup x).getD 0,by rw[gh];simp⟩
   ·rcases h with h|⟨c,h⟩
    ·rcases jN.mp h with h|h
     ·cases h;exact absurd rfl hx
     ·exact .inl h
    ·refine .inr ⟨c,?_⟩
     rw[gh]
     have:(x == n)=false:=by simpa using hx
     rw[this]
     exact h
  ·rename_i hk
   refine uF r _ ?_
   rcases h with h|h
   ·rcases jN.mp h with h|h
    ·cases h;simp at hk
    ·exact .inl h
   ·exact .inr h
theorem qo {env : Env} {x : Str} : ∀ {names : List (Str × lX)},
    ((names.map λ(n,k)=>if (k == NameKind.free && env.scope.kind == .function && env.kindOf n == some .cell) then (n,NameKind.cell) else (n,k)).lookup x=some .cell ∨
     (names.map λ(n,k)=>if (k == NameKind.free && env.scope.kind == .function && env.kindOf n == some .cell) then (n,NameKind.cell) else (n,k)).lookup x=some .free)->names.lookup x=some .cell ∨ names.lookup x=some .free
  | [],h=>by rcases h with h|h<;>simp at h
  | (n,k) :: r,h=>by
    have ih:=@qo env x r
    rw[jQ] at h
    rw[gh]
    by_cases hk:(k == NameKind.free && env.scope.kind == .function && env.kindOf n == some .cell)=true
    · simp only[hk,if_true] at h
      cases hx:x == n with
      | true =>
        have : k = .free := by simp only [gF] at hk; simpa using hk.1.1
        exact .inr (by rw [this])
      | false =>
        simp only [gh, hx] at h
        exact ih h
    · simp only[hk,if_false,eD] at h
      cases hx:x == n with
      | true=>simpa only[gh,hx] using h
      | false =>
        simp only [gh, hx] at h
        exact ih h
theorem n8:∀ (names:List (Str×lX)) (b:Nat)(Z8:List (Str×mS)),cellsFrom b names Z8=cellsFrom b names []++Z8
 | [],_,_=>rfl
 | (n,k) :: r,b,Z8=>by
  unfold cellsFrom
  split
  ·rw[n8 r _ ((n,b) :: Z8),n8 r _ [(n,b)],fB];rfl
  ·exact n8 r b Z8
theorem qx:∀ (names:List (Str×lX)) (b:Nat){x:Str}{c:mS},(x,c)∈cellsFrom b names []->(x,NameKind.cell)∈names
 | [],_,_,_,h=>by simp[cellsFrom] at h
 | (n,k) :: r,b,x,c,h=>by
  unfold cellsFrom at h
  split at h
  ·rename_i hk
   rw[n8] at h
   rcases ik.mp h with h|h
   ·exact cI _ (qx r _ h)
   ·simp at h
    have:k=.cell:=by simpa using hk
    rw[h.1,this];exact dQ
  ·exact cI _ (qx r _ h)
theorem t9 {x:Str}{c:mS}:∀ {l l':List (Str×mS)},(l++l').lookup x=some c->l.lookup x=some c ∨ (l.lookup x=none/\l'.lookup x=some c)
 | [],_,h=>.inr ⟨rfl,h⟩
 | (n,d) :: r,l',h=>by
  rw[gu,gh] at h
  rw[gh]
  cases hx:x == n with
  | true=>rw[hx] at h;exact .inl h
  | false=>rw[hx] at h;exact t9 h
theorem AD {x:Str}:∀ {l l':List (Str×mS)},((∃ c,l.lookup x=some c) ∨ ∃ c,l'.lookup x=some c)->∃ c,(l++l').lookup x=some c
 | [],_,h=>by
  rcases h with⟨c,h⟩|h
  ·cases h
  ·exact h
 | (n,d) :: r,l',h=>by
  rw[gu,gh]
  cases hx:x == n with
  | true=>exact⟨d,rfl⟩
  | false =>
   refine AD ?_
   rcases h with⟨c,h⟩|h
   ·rw[gh,hx] at h;exact .inl ⟨c,h⟩
   ·exact .inr h
theorem wF {M:mI}{A:mC}{E:mF->mn->Prop}{s:mn}{scope:mG}{globals:mS}{cl:List (Str×mS)}{qual:Str}{env:Env}{Q:Env->mn->Prop}
  (hQ:∀ h4:mQ,h4.Ns s.heap.objs.size (λ_=>none)->(∀ b o,s.heap.get? b=some o->h4.get? b=some o)->CellsOk h4 (s.heap.objs.size+1) (cellsFrom (s.heap.objs.size+1) scope.names []) ->
   Q (newEnv scope s.heap.objs.size globals (cellsFrom (s.heap.objs.size+1) scope.names cl) qual none .none (some env) builtinsNs) { s with heap:=h4,toks:=s.toks+([]:List (Str×mF)).length }) :
  wpAny M A (newFunctionEnv scope globals cl [] qual none .none (some env)) Q E s:=by
 simp only[newFunctionEnv,dE,if_true]
 refine lq (wpAny_alloc ?_)
 refine lq (wpAny_layCells _ (λname kind cells=>by cases hkc:kind == NameKind.cell<;>simp[hkc]) _ _ _ _ ?_)
 have ok:=cellsFrom_ok scope.names (s.heap.push { cls:=.type "dict",data:=.dict #[] }) (s.heap.objs.size+1) [] ⟨λ_ _ hm=>(nomatch hm),List.Pairwise.nil⟩ (by rw[jl];exact kW _)
 rw[jl] at ok
 rw[show ({ s with heap:=s.heap.push { cls:=.type "dict",data:=.dict #[] } }:mn).heap.objs.size=s.heap.objs.size+1 from jl ..]
 simp only[jf]
 exact lq (lg (lg (hQ _ ((Heap.Ns.new s.heap (.type "dict")).keeps (gN _ _)) (λb o e=>gN _ _ b o (bQ _ e)) ok)))
def Ge (x:Str):Str:=j9 "#"++x
def se (own:List Str)(x:Str):Str:=if own.contains x then Ge x else x
def rT (X:Cx)(scope:mG)(own:List Str)(fp:List mS)(C:mS)(s:mn)(H:Hp):Cx :=
 { X with N:=X.N.map (se own)++own,s₀:=s,H₀:=H,env:=compEnvC scope (cellsFrom (C+1) scope.names (rG X.env.cells scope.names [])) C X.env,outer:=X.stack,stack:=X.stack,ex:=fp,fn:=λx=>scope.names.lookup x == some .cell,pn:=[],xe:=λ_ _=>False }
structure CScope (X:Cx)(scope:mG)(own:List Str):Prop where
 kind:scope.kind=.function
 nocell:∀ p∈scope.names,p.2=.cell->scope.names.lookup p.1=some .cell
 names:∀ p∈scope.names,p.2=.local->scope.names.lookup p.1=some .local
 free:∀ p∈scope.names,p.2=.free->X.env.kindOf p.1=some .cell ∨ X.env.kindOf p.1=some .free
 apart:∀ x∈X.N,own.contains x=false->scope.names.lookup x≠some .local/\scope.names.lookup x≠some .cell
 hid:∀ x∈X.N,own.contains x=true->scope.names.lookup (Ge x)=none
section
variable {X:Cx}
theorem t7 {names:List (Str×lX)}{x:Str}{k:lX}(h:names.lookup x=some k):(x,k)∈names:=cW h
theorem rH {env:Env}{x:Str}:∀ {names:List (Str×lX)},
  (names.map λ(n,k)=>if (k == NameKind.free && env.scope.kind == .function && env.kindOf n == some .cell) then (n,NameKind.cell) else (n,k)).lookup x=some .local->names.lookup x=some .local
 | [],h=>by simp at h
 | (n,k) :: r,h=>by
  have ih:=@rH env x r
  rw[jQ] at h
  rw[gh]
  by_cases hk:(k == NameKind.free && env.scope.kind == .function && env.kindOf n == some .cell)=true
  ·simp only[hk,if_true] at h
   cases hx:x == n with
   | true=>simp[gh,hx] at h
   | false =>
    simp only[gh,hx] at h
    exact ih h
  ·simp only[hk,if_false,eD] at h
   cases hx:x == n with
   | true=>simpa[gh,hx] using h
   | false =>
    simp only[gh,hx] at h
    exact ih h
theorem wx {env:Env}{scope:mG}{x:Str}(h:scope.names.lookup x=none):(relabel scope env).names.lookup x=none:=by
 unfold relabel
 simp only
 generalize scope.names=l at h
 induction l with
 | nil=>rfl
 | cons p r ih =>
  obtain⟨n,k⟩:=p
  rw[gh] at h
  cases e:(x == n) with
  | true=>rw[e] at h;cases h
  | false =>
   rw[e] at h
   rw[jQ]
   split
   ·rw[gh,e];exact ih h
   ·rw[gh,e];exact ih h
theorem DU {scope:mG}{own:List Str}{fp:List mS}{Z9:List (mS×Obj)}{σ:St}{H:Hp}{s:mn}{h4:mQ}{t4:Nat}(I:Inv X Z9 σ H s)(SC:CScope X scope own)(hc:X.calm=true)
  (hf:∀ b∈fp,tm X Z9 H b)(hfo:∀ b∈fp,∃ o,s.heap.get? b=some o)
  (hns:h4.Ns s.heap.objs.size (λ_=>none))(hk:∀ b o,s.heap.get? b=some o->h4.get? b=some o)(ok:CellsOk h4 (s.heap.objs.size+1) (cellsFrom (s.heap.objs.size+1) scope.names [])) :
  Inv (rT X scope own fp s.heap.objs.size s H) [] (σ++jc own.length none) H { s with heap:=h4,toks:=t4 }:=by
 have fr:∀ p∈scope.names,p.2=.free->∃ c,X.env.cells.lookup p.1=some c:=λp hp hq=>I.ok.has p.1 (SC.free p hp hq)
 have cl0:∀ {x:Str}{c:mS},(rG X.env.cells scope.names []).lookup x=some c->X.env.cells.lookup x=some c:=λh=>re scope.names [] fr (λy d hy=>by simp at hy) h
 have cl:∀ {x:Str}{c:mS},(cellsFrom (s.heap.objs.size+1) scope.names (rG X.env.cells scope.names [])).lookup x=some c->((x,c)∈cellsFrom (s.heap.objs.size+1) scope.names []/\s.heap.objs.size+1<=c) ∨ X.env.cells.lookup x=some c:=λh=>by
  rw[n8] at h
  rcases t9 h with z|z
  ·exact .inl ⟨cW z,(ok.empty _ _ (cW z)).2⟩
  ·exact .inr (cl0 z.2)
 have hasC:∀ {x:Str},(scope.names.lookup x=some .cell ∨ scope.names.lookup x=some .free)->∃ c,(cellsFrom (s.heap.objs.size+1) scope.names (rG X.env.cells scope.names [])).lookup x=some c:=λ{x} h=>by
  rw[n8]
  refine AD ?_
  rcases h with h|h
  ·exact .inl (aU.mp (bF _ _ _ (.inl h)))
  ·exact .inr (uF scope.names [] (.inl (t7 h)))
 have clt:∀ {x:Str}{c:mS},X.env.cells.lookup x=some c->c<s.heap.objs.size:=λh=>by obtain⟨v,q⟩:=I.cell _ _ h;exact q.lt
 refine⟨⟨I.ok.mod,SC.kind,I.ok.glob,I.ok.blt,kW _,λx y c h1 h2=>?_,λx hx=>?_,λx c hf' h=>?_,λ_=>I.ok.hd hc,I.ok.frames,.inl rfl,λb hb=>?_,
   λb o e=>I.bs b o e,kq I.ok.bsz I.sz,λb o e hb=>?_,λb hb hz=>?_,I.stack,I.stkFree⟩,
  rfl,I.bare,Un.kept hk,⟨_,hns,λi x v e1 e2 e3=>?_⟩,λx c h=>?_,I.fresh,λx c h=>(cl h).elim (λz=>I.hok.fresh ⋯) (I.freeC x c),λp hp=>absurd (show p∈([]:List (mS×Obj)) from hp) (by simp),I.hok.kept hk,?_⟩
 ·rcases cl h1 with z1|z1<;>rcases cl h2 with z2|z2
  ·exact name_of_addr ok.apart z1.1 z2.1
  ·exact absurd (clt z2) (lI.mpr (fi z1.2))
  ·exact absurd (clt z1) (lI.mpr (fi z2.2))
  ·exact I.ok.inj x y c z1 z2
 ·have hx:(relabel scope X.env).names.lookup x=some .cell ∨ (relabel scope X.env).names.lookup x=some .free:=hx
  exact hasC (qo hx)
 ·have hf':(scope.names.lookup x == some .cell)=true:=hf'
  have h:(cellsFrom (s.heap.objs.size+1) scope.names (rG X.env.cells scope.names [])).lookup x=some c:=h
  obtain⟨c',hc'⟩:=aU.mp (bF scope.names (s.heap.objs.size+1) [] (.inl (by simpa using hf')))
  rw[n8] at h
  rcases t9 h with z|z
  ·have:=(ok.empty _ _ (cW z)).2
   show s.heap.objs.size<=c
   lia
  ·rw[hc'] at z;cases z.1
 ·have hb:b∈fp:=hb
  obtain⟨o,ho⟩:=hfo b hb
  exact⟨kj (kI ho),λx c h=>(cl h).elim (λz e=>absurd (e ▸ kI ho:c<s.heap.objs.size) (lI.mpr (fi z.2))) ((hf b hb).2.2.2.2.1 x c)⟩
 ·have hb:b∈fp:=hb
  have e:X.base.get? b=some o:=e
  rcases (hf b hb).2.2.2.1 with z|z
  ·exact I.ok.noex b o e z
  ·exact absurd (dH (kI e) (kq I.ok.bsz z)) (jJ _)
 ·have hb:b∈fp:=hb
  have hz:b∈zA X.stack:=hz
  rcases jN.mp (I.stkSub b hz) with z|z
  ·exact (hf b hb).2.1 z
  ·exact (hf b hb).2.2.1 z
 ·have e1:(X.N.map (se own)++own)[i]?=some x:=e1
  have e3:K8 (relabel scope X.env) x:=e3
  have hi:i<σ.length:=by
   by_cases hi:i<σ.length
   ·exact hi
   ·rw[az ⋯,bp] at e2
    split at e2<;>cases e2
  rw[aK hi] at e2
  rw[aK (by rw[iq,<- I.len];exact hi),fx] at e1
  obtain⟨y,e1,ey⟩:=bI.mp e1
  have hny:own.contains y=false:=by
   cases hy:own.contains y with
   | false=>rfl
   | true =>
    exfalso
    have hh:=SC.hid y (cG e1) hy
    have ex:x=Ge y:=by rw[<- ey];unfold se;rw[if_pos hy]
    rw[<- ex] at hh
    have e4:(relabel scope X.env).names.lookup x=none:=wx hh
    rcases e3 with z|z|z<;>(rw[e4] at z;cases z)
  have ex:x=y:=by rw[<- ey];unfold se;rw[if_neg (by rw[hny];exact eB)]
  rw[<- ex] at e1 hny
  have hnl:(relabel scope X.env).names.lookup x≠some .local:=λz=>(SC.apart x (cG e1) hny).1 (rH z)
  have hv:(relabel scope X.env).names.lookup x=some .cell ∨ (relabel scope X.env).names.lookup x=some .free:=by
   rcases e3 with z|z|z
   ·exact absurd z hnl
   ·exact .inl z
   ·exact .inr z
  have hfr:scope.names.lookup x=some .free:=(qo hv).resolve_left (SC.apart x (cG e1) hny).2
  have hm:=t7 hfr
  have hkx:=SC.free (x,.free) hm rfl
  obtain⟨m,hn,hl⟩:=I.loc
  have hkx':X.env.scope.names.lookup x=some .cell ∨ X.env.scope.names.lookup x=some .free:=hkx
  obtain⟨u,r,l⟩:=hl i x v e1 e2 (hkx'.elim (λz=>.inr (.inl z)) λz=>.inr (.inr z))
  refine⟨u,r,.inr ⟨hv,?_⟩⟩
  obtain⟨c,hcl⟩:=hasC (.inr hfr)
  refine⟨c,hcl,?_⟩
  rcases l with⟨z,_⟩|⟨z,c',hc',q⟩
  ·rcases hkx with y|y<;>(rw[z] at y;cases y)
  ·rcases cl hcl with y|y
   ·have:=SC.nocell _ (qx _ _ y.1) rfl
    rw[hfr] at this;cases this
   ·rw[hc'] at y;cases y
    obtain⟨o,ho,hd⟩:=q
    exact⟨o,hk _ _ ho,hd⟩
 ·rcases cl h with z|z
  ·exact⟨_,(ok.empty _ _ z.1).1⟩
  obtain⟨v,o,ho,hd⟩:=I.cell x c z
  exact⟨v,o,hk _ _ ho,hd⟩
 ·show (σ++jc own.length none).length=(X.N.map (se own)++own).length
  rw[dS,dS,iq,cf,I.len]
end
def we (Z4:List Expr)(env:Env):Sem Bool :=
 forIn Z4 true λc r=>if r=true then do let ok <- isTrue c env (eval c env);pure (ForInStep.yield ok) else pure (ForInStep.yield r)
def PTs (X:Cx)(Z4:List Expr)(t:TT):Prop :=
 ∀ (Z9:List (mS×Obj))(s:mn)(σ:St)(H:Hp)(Q:Bool->Hp->Prop),Inv X Z9 σ H s->t σ H Q->wpAny (model X.prog X.w) X.A (we Z4 X.env) (TP X Z9 σ Q) X.xe s
theorem sR {M:mI}{A:mC}{E:mF->mn->Prop}{env:Env}{Q:Bool->mn->Prop}{s:mn}(h:Q false s):∀ Z4:List Expr,
  wpAny M A (forIn Z4 false λc r=>if r=true then do let ok <- isTrue c env (eval c env);pure (ForInStep.yield ok) else pure (ForInStep.yield r)) Q E s
 | []=>lg h
 | c :: r=>by
  rw[ir]
  simp only[eD,if_false]
  exact lq (lg (sR h r))
section
variable {X:Cx}
def Ld:TT:=λ_ H Q=>Q true H
theorem An:PTs X [] Ld:=λ_ _ _ H _ I h=>lg ⟨H,I,h⟩
theorem C4 {c:Expr}{r:List Expr}{t u:TT}(h1:PT X c t)(h2:PTs X r u):PTs X (c :: r) (λσ H Q=>t σ H λb H1=>if b=true then u σ H1 Q else Q false H1):=by
 intro Z9 s σ H Q I h
 unfold we
 rw[ir]
 simp only[if_true]
 refine lq (lq (nV (h1 Z9 s σ H _ I h) λb s1 ⟨H1,I1,q1⟩=>lg ?_))
 cases b with
 | true =>
  rw[if_pos rfl] at q1
  exact h2 Z9 s1 σ H1 Q I1 q1
 | false =>
  rw[if_neg eB] at q1
  exact sR ⟨H1,I1,q1⟩ r
end
section
variable {prog:l8}{w:mD}{A:mC}{R:mq->mn->Prop}{s:mn}
def yS (Z1 Z5:Expr)(Z4:List Expr)(it:mF)(env:Env)(fin:Sem Fin)(c:Code):Sem Fin:=do
 standAt Z5.pos
 match <- pyNext it with
 | none=>pure (.done .next)
 | some v =>
  letOwnedTupleGo Z1 it v
  assign Z1 env v
  let mut ok:=true
  for c in Z4 do
   if ok then ok <- isTrue c env (eval c env)
  if ok then fin else again c
def zG (Z3:Expr)(Z8:mF)(env:Env)(c:Code):Sem Fin:=do
 (do let _ <- call (.builtin "list.append") [Z8,<- eval Z3 env])
 again c
theorem B4 {ce:Expr}{dp:Nat}{Z1 Z5:Expr}{Z4:List Expr}{it Z8:mF}{env:Env}{fin:Sem Fin}(ht:compTurn ce dp it Z8 env=yS Z1 Z5 Z4 it env fin (.compLoop ce dp it Z8 env))(I:Nat->mn->Prop)
  (turn:∀ n s,I n s->wpAny (model prog w) A (pyNext it) (λr s1=>match r with
   | none=>R (.ok .next) s1
   | some v=>wpAny (model prog w) A (letOwnedTupleGo Z1 it v) (λ_ s2=>wpAny (model prog w) A (assign Z1 env v) (λ_ s3=>wpAny (model prog w) A (we Z4 env) (λok s4 =>
     if ok=true then wpAny (model prog w) A fin (λf s6=>f=.again (.compLoop ce dp it Z8 env)/\∃ m,m<n/\I m s6) (λ_ _=>False) s4
     else ∃ m,m<n/\I m s4) (λ_ _=>False) s3) (λ_ _=>False) s2) (λ_ _=>False) s1) (λ_ _=>False) s)
  (n:Nat)(h:I n s)(hA:A.under (.compLoop ce dp it Z8 env)=A:=by rfl)(hd:(model prog w).den (.compLoop ce dp it Z8 env)=(compTurn ce dp it Z8 env).onRaise (λx=>do noteFrame x env;theTreesLotGoes x):=by rfl):codeAny (model prog w) A (.compLoop ce dp it Z8 env) R s:=by
 refine codeAny_loop rfl I (λn s hI=>?_) n h
 rw[hA,hd]
 refine wpAny_noted ?_
 rw[ht]
 unfold yS
 have no:∀ (e:mF)(s':mn),(λ(_:mF)(_:mn)=>False) e s'->notedBy (model prog w) A env (λe s'=>R (.error e) s') e s':=λ_ _ z=>z.elim
 refine lq (jo (lq (lh (turn n s hI) (λr s1 h1=>?_) no)))
 cases r with
 | none=>exact lg h1
 | some v =>
  refine lq (lh h1 (λ_ s2 h2=>lq (lh h2 (λ_ s3 h3=>lq (lh h3 (λok s4 h4=>?_) no)) no)) no)
  cases ok with
  | true =>
   rw[if_pos rfl] at h4
   simp only[if_true]
   exact lh h4 (λf s6 q1=>by obtain⟨e6,h6⟩:=q1;rw[e6];exact⟨rfl,h6⟩) no
  | false =>
   rw[if_neg eB] at h4
   simp only[eD,if_false]
   first
    | exact lg ⟨rfl,h4⟩
    | exact lq (lg (lg ⟨rfl,h4⟩))
end
def Wk (σ σ2:St):Prop:=σ2.length=σ.length/\∀ (j:Nat)(v:V),σ[j]?=some (some v)->σ2[j]?=some (some v)
structure CKind (X:Cx)(ce tg Z5:Expr)(Z4:List Expr)(scope:mG)(mk:Sem mF)(ob:Obj)(o0:mS->HO)(fin:mF->Env->Code->Sem Fin):Prop where
 tn:∀ it Z8 env,compTurn ce 0 it (.ref Z8) env=yS tg Z5 Z4 it env (fin (.ref Z8) env (.compLoop ce 0 it (.ref Z8) env)) (.compLoop ce 0 it (.ref Z8) env)
 un:∀ (A:mC) it Z8 env,A.under (.compLoop ce 0 it (.ref Z8) env)=A
 dn:∀ it Z8 env,(model X.prog X.w).den (.compLoop ce 0 it (.ref Z8) env)=(compTurn ce 0 it (.ref Z8) env).onRaise (λx=>do noteFrame x env;theTreesLotGoes x)
 us:∀ env use,evalThenUse ce env use=(do let _ <- comprehension ce scope env Z5.pos mk false (eval Z5 env) (some use))
 st:∀ {A R s it Z8 env},codeAny (model X.prog X.w) A (.compLoop ce 0 it Z8 env) R s->wpAny (model X.prog X.w) A (pyIter it) (λit' s'=>codeAny (model X.prog X.w) A (.compLoop ce 0 it' Z8 env) R s') (notedBy (model X.prog X.w) A env λx s'=>R (.error x) s') s->codeAny (model X.prog X.w) A (.compStart ce 0 it Z8 env) R s
 nw:∀ {A s}{Q E:mF->mn->Prop},Q (.ref s.heap.objs.size) { s with heap:=s.heap.push ob }->wpAny (model X.prog X.w) A mk Q E s
 ok:∀ {Z9 σ H s},Inv X Z9 σ H s->Inv X Z9 σ (n5 H s.heap.objs.size (o0 s.heap.objs.size)) { s with heap:=s.heap.push ob,toks:=s.toks }
 ev:∀ env,eval ce env=comprehension ce scope env Z5.pos mk false (eval Z5 env)
 cl:clausesOf ce=[⟨tg,Z5,Z4,0⟩]
def M7 (Y:Cx)(fin:mF->Env->Code->Sem Fin)(em:mS->St->Hp->(Hp->Prop)->Prop):Prop:=∀ Z9 s σ H Z8 c K,Inv Y Z9 σ H s->em Z8 σ H K->wpAny (model Y.prog Y.w) Y.A (fin (.ref Z8) Y.env c) (λf s'=>f=.again c/\∃ H',Inv Y Z9 σ H' s'/\K H') Y.xe s
def wg (wi:TI)(g:TG)(tt:TT)(em:mS->St->Hp->(Hp->Prop)->Prop)(o0:mS->HO) (own:Nat):TE:=λσ H Q=>wi σ H λJ H1=>∀ Z8,H1 Z8=none->∃ W:Nat->Nat->Hp->Prop,(∃ m,W 0 m (n5 H1 Z8 (o0 Z8)))/\∀ i m H,W i m H ->
 (J.stop i H/\Q (.ref Z8) H) ∨ (J.go i H/\∀ x H',J.yld i H x H'->g x (σ++jc own none) H' λσ2 H2=>Wk (σ++jc own none) σ2/\tt σ2 H2 λb H3 =>
  if b=true then em Z8 σ2 H3 λH4=>∃ m',m'<m/\W (i+1) m' H4 else ∃ m',m'<m/\W (i+1) m' H3)
section
variable {X:Cx}{ce Z3 tg Z5:Expr}{Z4:List Expr}{scope:mG}{own:List Str}{pos:Pos}{wi:TI}{g:TG}{tt:TT}{te:TE}{mk:Sem mF}{ob:Obj}{o0:mS->HO}{fin:mF->Env->Code->Sem Fin}{em:mS->St->Hp->(Hp->Prop)->Prop}
theorem vN {Z9:List (mS×Obj)}{σ:St}{H2:Hp}{s2:mn}{Q:VK}{it:mS}{fp:List mS}{tn:Nat->mQ->Prop}{J:It}{RR:mF->mS->mq->mn->Prop}
  (hc:X.calm=true)(SC:CScope X scope own)(CK:CKind X ce tg Z5 Z4 scope mk ob o0 fin)
  (Z2:∀ C s H,PG (rT X scope own fp C s H) tg g/\PTs (rT X scope own fp C s H) Z4 tt/\M7 (rT X scope own fp C s H) fin em)
  (I2:Inv X Z9 σ H2 s2)(T:Turn X.prog X.w X.K tg J fp it tn)(st2:tn 0 s2.heap)(f2:∀ b∈fp,tm X Z9 H2 b)
  (h:∀ Z8,H2 Z8=none->∃ W:Nat->Nat->Hp->Prop,(∃ m,W 0 m (n5 H2 Z8 (o0 Z8)))/\∀ i m H,W i m H ->
   (J.stop i H/\Q (.ref Z8) H) ∨ (J.go i H/\∀ x H',J.yld i H x H'->g x (σ++jc own.length none) H' λσ2 H2=>Wk (σ++jc own.length none) σ2/\tt σ2 H2 λb H3 =>
    if b=true then em Z8 σ2 H3 λH4=>∃ m',m'<m/\W (i+1) m' H4 else ∃ m',m'<m/\W (i+1) m' H3))
  (hRR:∀ Z8 C H' m s',Inv X Z9 σ H' s'->s'.heap.Ns C m->C≠X.env.locals->(∀ x c,X.env.cells.lookup x=some c->c≠C)->s2.heap.objs.size<=C->H' C=none->Q (.ref Z8) H'->RR (.ref Z8) C (.ok .next) s'){E:mF->mn->Prop} :
  wpAny (model X.prog X.w) X.A mk (λZ8 s3=>wpAny (model X.prog X.w) X.A (newFunctionEnv scope X.env.globals (rG X.env.cells scope.names []) [] X.env.qual none .none (some X.env)) (λcenv s4 =>
   codeAny (model X.prog X.w) X.A (.compStart ce 0 (.ref it) Z8 { cenv with scope:=relabel scope X.env }) (RR Z8 cenv.locals) s4) E s3) E s2:=by
 have hacc:=I2.fresh
 have I3:Inv X Z9 σ (n5 H2 s2.heap.objs.size (o0 s2.heap.objs.size)) { s2 with heap:=s2.heap.push ob,toks:=s2.toks }:=CK.ok I2
 refine CK.nw ?_
 obtain⟨W,⟨m0,w0⟩,turn⟩:=h _ hacc
 generalize hs3:({ s2 with heap:=s2.heap.push ob,toks:=s2.toks }:mn)=s3 at I3
 have keep23:∀ b o,s2.heap.get? b=some o->s3.heap.get? b=some o:=λb o e=>by rw[<- hs3];exact bQ _ e
 have hf3:∀ b∈fp,tm X Z9 (n5 H2 s2.heap.objs.size (o0 s2.heap.objs.size)) b:=λb hb=>by
  obtain⟨o,ho,_⟩:=T.obj _ _ st2 b hb
  exact⟨by rw[m9 (kj (kI ho))];exact (f2 b hb).1,(f2 b hb).2⟩
 have st3:tn 0 s3.heap:=T.keep _ _ _ st2 λb hb o e=>keep23 b o e
 refine wF λh4 hns' keep34 ok34=>?_
 have I4:=DU (t4:=s3.toks+([]:List (Str×mF)).length) I3 SC hc hf3 (λb hb=>by obtain⟨o,ho,_⟩:=T.obj _ _ st3 b hb;exact⟨o,ho⟩) hns' keep34 ok34
 have st4:tn 0 h4:=T.keep _ _ _ st3 λb hb o e=>keep34 b o e
 obtain⟨hg,ht,he⟩:=Z2 s3.heap.objs.size s3 (n5 H2 s2.heap.objs.size (o0 s2.heap.objs.size))
 have e5:(rT X scope own fp s3.heap.objs.size s3 (n5 H2 s2.heap.objs.size (o0 s2.heap.objs.size))).env=compEnvC scope (cellsFrom (s3.heap.objs.size+1) scope.names (rG X.env.cells scope.names [])) s3.heap.objs.size X.env:=rfl
 generalize hY:rT X scope own fp s3.heap.objs.size s3 (n5 H2 s2.heap.objs.size (o0 s2.heap.objs.size))=Y at hg ht he I4 e5
 have fpY:∀ {H':Hp},(∀ b∈fp,H' b=none)->∀ b∈fp,tm Y [] H' b:=λhn b hb=>by
  obtain⟨o,ho,_⟩:=T.obj _ _ st3 b hb
  refine⟨hn b hb,?_,?_,?_,?_,?_⟩
  ·rw[<- hY];exact kj (kI ho)
  ·have:=I4.ok.exfs b (by rw[<- hY];exact hb)
   exact this
  ·exact .inl (by rw[<- hY];exact hb)
  ·exact λx c h=>(I4.ok.exf b (by rw[<- hY];exact hb)).2 x c h
  ·intro p hp;rw[<- hY] at hp;exact absurd (show p∈([]:List (mS×Obj)) from hp) (by simp)
 have hYp:Y.prog=X.prog/\Y.w=X.w/\Y.K=X.K/\Y.calm=true/\Y.A=X.A/\Y.xe=(λ_ _=>False)/\Y.s₀=s3/\Y.H₀=n5 H2 s2.heap.objs.size (o0 s2.heap.objs.size)/\Y.outer=X.stack/\Y.ex=fp:=by rw[<- hY];exact⟨rfl,rfl,rfl,hc,rfl,rfl,rfl,rfl,rfl,rfl⟩
 obtain⟨y1,y2,y3,y4,y5,y6,y7,y8,y9,y10⟩:=hYp
 have loop:∀ s5:mn,s5 = { s3 with heap:=h4,toks:=s3.toks+([]:List (Str×mF)).length } ->
   codeAny (model X.prog X.w) X.A (.compLoop ce 0 (.ref it) (.ref s2.heap.objs.size) Y.env) (RR (.ref s2.heap.objs.size) s3.heap.objs.size) s5:=by
  rintro s5 rfl
  refine B4 (hA:=CK.un ..) (hd:=CK.dn ..) (CK.tn _ _ _) (λn s'=>∃ i H',Inv Y [] (σ++jc own.length none) H' s'/\tn i s'.heap/\(∀ b∈fp,H' b=none)/\W i n H') ?_ m0 ⟨0,_,I4,st4,λb hb=>(hf3 b hb).1,w0⟩
  rintro n s6 ⟨i,H6,I6,st6,fr6,w6⟩
  rcases turn i n H6 w6 with⟨stop,q⟩|⟨go,step⟩
  ·have d:=T.done Y y1 y2 y3 y4 i [] s6 _ H6 (λ_ _=>False) I6 (fpY fr6) st6 stop
   rw[y5] at d
   refine nV d λr s7 q1=>?_;obtain⟨hr,I7⟩:=q1
   subst hr
   obtain⟨m,hn,_⟩:=I7.loc
   have hL:Y.env.locals=s3.heap.objs.size:=by rw[e5];rfl
   rw[hL] at hn
   have b7:=I7.base
   rw[y7,y8,y10] at b7
   have b7':Un (zA X.stack) fp (n5 H2 s2.heap.objs.size (o0 s2.heap.objs.size)) H6 s3.heap s7.heap:=by
    have z:Y.fs=zA X.stack:=by show zA Y.outer=_;rw[y9]
    rw[z] at b7
    exact b7
   have hok7:=I7.hok
   rw[y1,y2] at hok7
   have os7:=I7.os
   rw[y7] at os7
   have I8:Inv X Z9 σ H6 s7:=I3.call' os7 b7' hok7 I7.bare λb hb=>⟨(hf3 b hb).2.2.2.1,(hf3 b hb).2.1,(hf3 b hb).2.2.2.2.1,(hf3 b hb).2.2.2.2.2⟩
   have hfree:=I7.free
   rw[hL] at hfree
   refine hRR _ _ H6 m s7 I8 hn (kl I3.lt) (λx c h z=>?_) ?_ hfree q
   ·obtain⟨v,y⟩:=I3.cell x c h
    exact absurd y.lt (by rw[z];exact jJ _)
   ·rw[<- hs3,jl];exact kU _
  ·have d:=T.item Y y1 y2 y3 y4 i [] s6 _ H6 (λ_ _=>False) I6 (fpY fr6) st6 go
   rw[y5] at d
   refine nV d λr s7 q2=>?_;obtain⟨u,hr,h7⟩:=q2
   subst hr
   refine nV h7 λ_ s8 q3=>?_;obtain⟨x,H8,I8,r8,y8',st8,fr8⟩:=q3
   have I8':=I8.pinned (fpY fr8) (T.obj _ _ st8)
   have pinK:∀ {σ':St}{H':Hp}{s':mn},Inv Y ([]++tV fp s8.heap) σ' H' s'->tn (i+1) s'.heap/\∀ b∈fp,H' b=none:=λ{σ' H' s'} I' =>
    ⟨T.keep _ _ _ st8 λb hb o e=>(I'.pin (b,o) (ca _ (ca _ (qq hb e)))).1,λb hb=>by
     obtain⟨o,e,_⟩:=T.obj _ _ st8 b hb
     exact (I'.pin (b,o) (ca _ (ca _ (qq hb e)))).2.1⟩
   have dg:=hg _ s8 _ H8 x u _ I8' r8 (step x H8 y8')
   rw[y1,y2,y5,y6] at dg
   refine nV dg λ_ s9 q4=>?_;obtain⟨σ9,H9,I9,wk,q9⟩:=q4
   have dt:=ht _ s9 σ9 H9 _ I9 q9
   rw[y1,y2,y5,y6] at dt
   refine nV dt λok s10 q5=>?_;obtain⟨H10,I10,q10⟩:=q5
   cases ok with
   | true =>
    rw[if_pos rfl] at q10 ⊢
    have de:=he _ s10 σ9 H10 s2.heap.objs.size (.compLoop ce 0 (.ref it) (.ref s2.heap.objs.size) Y.env) _ I10 q10
    rw[y1,y2,y5,y6] at de
    refine nV de λf s12 ⟨e12,H12,I12,m',hm,w12⟩=>⟨e12,?_⟩
    obtain⟨t12,f12⟩:=pinK I12
    exact⟨m',hm,i+1,_,(I12.unpinned).weak wk.1.symm wk.2,t12,f12,w12⟩
   | false =>
    rw[if_neg eB] at q10 ⊢
    obtain⟨m',hm,w10⟩:=q10
    obtain⟨t10,f10⟩:=pinK I10
    exact⟨m',hm,i+1,_,(I10.unpinned).weak wk.1.symm wk.2,t10,f10,w10⟩
 rw[e5] at loop
 exact CK.st (loop _ rfl) (T.self _ 0 _ _ _ st4 (loop _ rfl))
theorem xQ (hc:X.calm=true)(SC:CScope X scope own)(CK:CKind X.nox ce tg Z5 Z4 scope mk ob o0 fin)(hi:PI X.nox tg Z5 wi)
  (Z2:∀ fp C s H,PG (rT X scope own fp C s H) tg g/\PTs (rT X scope own fp C s H) Z4 tt/\M7 (rT X scope own fp C s H) fin em)
  (hs:∀ x,foldedSetIterable Z5 X.env x=pure x:=by intro _;rfl) :
  PE X.nox ce (wg wi g tt em o0 own.length):=by
 intro Z9 s σ H Q I h
 have fr:∀ p∈scope.names,p.2=.free->∃ c,X.env.cells.lookup p.1=some c:=λp hp hq=>I.ok.has p.1 (SC.free p hp hq)
 rw[CK.ev]
 refine aR (use:=none) CK.cl hs (uE fr) SC.kind SC.names (nV (hi Z9 s σ H _ I h) λv s1 h1=>nV h1 λitv s2 h2=>?_)
 obtain⟨it,fp,tn,J,H2,e,I2,T,st2,f2,h2⟩:=h2
 subst e
 refine vN (X:=X.nox) (own:=own) (RR:=λZ8 C=>compPost (model X.prog X.w) X.A (λ_ _=>False) none (EP X.nox Z9 σ Q) Z8 C) hc ⟨SC.kind,SC.nocell,SC.names,SC.free,SC.apart,SC.hid⟩ CK (λC s H=>Z2 fp C s H) I2 T st2 f2 h2 ?_
 intro Z8 C H' m s' I' hn hL hcl hC hH q
 obtain⟨f0,f1,f2',f3,f4,f5⟩:=I2.fpOk hC hH
 refine⟨m,hn,λh' hsb=>⟨.ref Z8,H',?_,rfl,q⟩⟩
 exact I'.turned (t':=s'.toks) (λb o hb e=>(hsb.2 b hb).trans e) f0 f1 f3 f4 f5
theorem xM {i:Nat}{x:Str}{px:Pos}{spos:Pos}(hc:X.calm=true)(SC:CScope X scope own)(CK:CKind X.nox ce tg Z5 Z4 scope mk ob o0 fin)(hN:X.N.Nodup)(hx:X.N[i]?=some x)(hl:X.env.scope.names.lookup x=some .local)(hi:PI X.nox tg Z5 wi)
  (Z2:∀ fp C s H,PG (rT X scope own fp C s H) tg g/\PTs (rT X scope own fp C s H) Z4 tt/\M7 (rT X scope own fp C s H) fin em)
  (hsw:swapsWith ce (some (.Name x px)) spos.line X.env=pure true)
  (hs:∀ x,foldedSetIterable Z5 X.env x=pure x:=by intro _;rfl) :
  PS X.nox (.Assign [.Name x px] ce spos) (wj (wg wi g tt em o0 own.length) (qE i)):=by
 intro Z9 s σ H D I h
 have fr:∀ p∈scope.names,p.2=.free->∃ c,X.env.cells.lookup p.1=some c:=λp hp hq=>I.ok.has p.1 (SC.free p hp hq)
 show wpAny (model X.prog X.w) X.A (exec _ X.env) _ _ s
 rw[exec_Assign_Name_used _ _ _ _ hsw]
 refine lq (jo (lq ?_))
 rw[CK.us]
 refine lq (lh (aR (use:=some (assign (.Name x px) X.env)) (Q:=λ_ s'=>SP X.nox Z9 D .next s') CK.cl hs (uE fr) SC.kind SC.names
  (nV (hi Z9 s σ H _ I h) λv s1 h1=>nV h1 λitv s2 h2=>?_)) (λ_ s' hq=>lg (lg hq)) λ_ _ e=>e)
 obtain⟨it,fp,tn,J,H2,e,I2,T,st2,f2,h2⟩:=h2
 subst e
 refine vN (X:=X.nox) (own:=own) (Q:=λv H1=>qE i v σ H1 D.nx) (RR:=λZ8 C=>compPost (model X.prog X.w) X.A (λ_ _=>False) (some (assign (.Name x px) X.env)) (λ_ s'=>SP X.nox Z9 D .next s') Z8 C) hc ⟨SC.kind,SC.nocell,SC.names,SC.free,SC.apart,SC.hid⟩ CK (λC s H=>Z2 fp C s H) I2 T st2 f2 h2 ?_
 intro Z8 C H' m s' I' hn hL hcl hC hH q
 obtain⟨f0,f1,f2',f3,f4,f5⟩:=I2.fpOk hC hH
 show wpAny (model X.prog X.w) X.A (assign (.Name x px) X.env (.ref Z8)) _ _ s'
 refine eP (u9 (X:=X.nox) I' hN hx (.inl hl) (v:=.ref Z8) rfl (λs'' I'' hch=>?_) (.inr hl))
 obtain⟨a,hsa,ha⟩:=hch
 have hCa:C≠a:=by
  rcases ha with z|z
  ·rw[z];exact hL
  ·exact λy=>hcl x a z y.symm
 refine⟨m,hn.sameBut hsa hCa,λh' hsb=>?_⟩
 exact⟨_,H',I''.turned (t':=s''.toks) (λb o hb e=>(hsb.2 b hb).trans e) f0 f1 f3 f4 f5,q⟩
def Qe (te:TE):mS->St->Hp->(Hp->Prop)->Prop:=λZ8 σ H K=>te σ H λv H4=>∃ ys,H4 Z8=some (.lst ys)/\ys.length<sizeLine/\K (n5 H4 Z8 (.lst (ys++[v])))
def CA (wi:TI)(g:TG)(tt:TT)(te:TE) (own:Nat):TE:=wg wi g tt (Qe te) (λ_=>.lst []) own
theorem A5:CKind X (.ListComp Z3 [⟨tg,Z5,Z4,0⟩] scope pos) tg Z5 Z4 scope (newList []) { cls:=.type "list",data:=.seq ([]:List mF).toArray } (λ_=>.lst []) (zG Z3) :=
 ⟨λ_ _ _=>rfl,λ_ _ _ _=>rfl,λ_ _ _=>rfl,λ_ _=>rfl,codeAny_compStart_list,λq=>eO q,λI=>I.lnew .nil (kT _),λ_=>by rw[eval_ListComp];rfl,rfl⟩
theorem xP {Y:Cx}(he:PE Y Z3 te):M7 Y (zG Z3) (Qe te):=by
 intro Z9 s σ H Z8 c K I q
 unfold zG
 refine lq (lq (nV (he _ s σ H _ I q) λy s11 ⟨v11,H11,I11,r11,ys,hys,hz,k⟩=>lq ?_))
 refine nV (vj (X:=Y) _ s11 σ H11 (.ref Z8) [v11] (.ref Z8) [y] (λ_ H'=>H'=n5 H11 Z8 (.lst (ys++[v11]))) I11 rfl (.cons r11 .nil) ⟨_,ys,v11,rfl,rfl,hys,hz,rfl⟩) λ_ s12 q2=>?_;obtain⟨v12,H12,I12,r12,e12⟩:=q2
 subst e12
 exact lg (lg ⟨rfl,_,I12,k⟩)
theorem At (hc:X.calm=true)(SC:CScope X scope own)(hi:PI X.nox tg Z5 wi)
  (Z2:∀ fp C s H,PG (rT X scope own fp C s H) tg g/\PTs (rT X scope own fp C s H) Z4 tt/\PE (rT X scope own fp C s H) Z3 te)
  (hs:∀ x,foldedSetIterable Z5 X.env x=pure x:=by intro _;rfl) :
  PE X.nox (.ListComp Z3 [⟨tg,Z5,Z4,0⟩] scope pos) (CA wi g tt te own.length) :=
 xQ hc SC A5 hi (λfp C s H=>let ⟨a,b,c⟩:=Z2 fp C s H;⟨a,b,xP c⟩) hs
theorem za {i:Nat}{x:Str}{px:Pos}{spos:Pos}(hc:X.calm=true)(SC:CScope X scope own)(hN:X.N.Nodup)(hx:X.N[i]?=some x)(hl:X.env.scope.names.lookup x=some .local)(hi:PI X.nox tg Z5 wi)
  (Z2:∀ fp C s H,PG (rT X scope own fp C s H) tg g/\PTs (rT X scope own fp C s H) Z4 tt/\PE (rT X scope own fp C s H) Z3 te)
  (hsw:swapsWith (.ListComp Z3 [⟨tg,Z5,Z4,0⟩] scope pos) (some (.Name x px)) spos.line X.env=pure true)
  (hs:∀ x,foldedSetIterable Z5 X.env x=pure x:=by intro _;rfl) :
  PS X.nox (.Assign [.Name x px] (.ListComp Z3 [⟨tg,Z5,Z4,0⟩] scope pos) spos) (wj (CA wi g tt te own.length) (qE i)) :=
 xM hc SC A5 hN hx hl hi (λfp C s H=>let ⟨a,b,c⟩:=Z2 fp C s H;⟨a,b,xP c⟩) hsw hs
end
end L2
namespace L2
open PySem PySem.Spec PyProof.Rows
section
variable {X:Cx}{Z9:List (mS×Obj)}{σ:St}{H:Hp}{s:mn}{h':mQ}
theorem Inv.turnedNew {t':Nat}{ch:List mS}{p:mS}{o:HO}(I:Inv X Z9 σ H s)(hp:s.heap.objs.size<=p)(k:∀ b ob,b ∉ ch->s.heap.get? b=some ob->h'.get? b=some ob)(hf:∀ b∈ch,tm X Z9 H b)
  (new:ObjOk X.prog X.w (n5 H p o) h' p o):Inv X Z9 σ (n5 H p o) { s with heap:=h',toks:=t' }:=by
 have hn:H p=none:=I.hok.fresh hp
 have nit:∀ b u,H b=some u->b ∉ ch:=λb u e z=>by rw[(hf b z).1] at e;cases e
 have nep:∀ {b ob},s.heap.get? b=some ob->b≠p:=λe=>kj (dH (kI e) hp)
 refine I.step (g':=s.gens) (d':=s.drawn) (ch:=ch) (λb hb=>⟨(hf b hb).2.2.2.1,(hf b hb).2.1,(hf b hb).2.2.2.2.1,(hf b hb).2.2.2.2.2⟩) (λb ob _ _ hc e _=>k b ob hc e) (λb ob _ _ hc e _=>⟨ob.slots,k b ob hc e⟩)
  (λb ob hc e n=>by rw[m9 (nep e)];exact n) (λb ob hc e=>⟨ob,k b ob hc e⟩) (λb xs e=>by rw[m9 (nQ e hn)];exact e) (λb u xs e=>by rw[m9 (nQ e hn)];exact e)
  (λb ps e=>⟨#[],by rw[m9 (nQ e hn),e];simp⟩) (λm hm=>?_) (λb u e=>?_) I.bare
 ·obtain⟨ob,es,ep,ho,r⟩:=hm
  exact⟨ob,es,ep,k _ ob (λz=>(hf _ z).2.1 rfl) ho,r⟩
 ·by_cases hb:b=p
  ·subst hb;rw[nz] at e;cases e;exact new
  ·rw[m9 hb] at e
   refine (I.hok b u e).stay (λc v hc q=>k c v ?_ q) (λc q=>by rw[m9 (nQ q hn)];exact q) λc xs q=>by rw[m9 (nQ q hn)];exact q
   rcases hc with z|z
   ·rw[z];exact nit b u e
   ·exact nit c _ z
theorem Inv.turnedL {t':Nat}{ch:List mS}(I:Inv X Z9 σ H s)(k:∀ b ob,b ∉ ch->s.heap.get? b=some ob->h'.get? b=some ob)(hf:∀ b∈ch,tm X Z9 H b):Inv X Z9 σ H { s with heap:=h',toks:=t' }:=by
 have nit:∀ b u,H b=some u->b ∉ ch:=λb u e z=>by rw[(hf b z).1] at e;cases e
 refine I.step (g':=s.gens) (d':=s.drawn) (ch:=ch) (λb hb=>⟨(hf b hb).2.2.2.1,(hf b hb).2.1,(hf b hb).2.2.2.2.1,(hf b hb).2.2.2.2.2⟩) (λb ob _ _ hc e _=>k b ob hc e) (λb ob _ _ hc e _=>⟨ob.slots,k b ob hc e⟩)
  (λ_ _ _ _ n=>n) (λb ob hc e=>⟨ob,k b ob hc e⟩) (λ_ _ e=>e) (λ_ _ _ e=>e) (λb ps e=>⟨#[],by rw[e];simp⟩) (λm hm=>?_) (λb u e=>?_) I.bare
 ·obtain⟨ob,es,ep,ho,r⟩:=hm
  exact⟨ob,es,ep,k _ ob (λz=>(hf _ z).2.1 rfl) ho,r⟩
 ·refine (I.hok b u e).stay (λc v hc q=>k c v ?_ q) (λ_ q=>q) λ_ _ q=>q
  rcases hc with z|z
  ·rw[z];exact nit b u e
  ·exact nit c _ z
end
end L2
namespace L2
open PySem PySem.Spec PyProof.Rows
def SeqB (b:Bool)(h:mQ)(l:mS)(xs:Array mF):Prop:=match b with|true=>h.IsList l xs|false=>h.IsTuple l xs
def IterB (b:Bool)(h:mQ)(it l:mS) (i:Nat):Prop:=match b with|true=>h.IsListIter it l i|false=>h.IsTupleIter it l i
def tG (b:Bool):String:=match b with|true=>"list_iterator" | false=>"tuple_iterator"
section
variable {b:Bool}{h h':mQ}{it l c:mS}{i:Nat}{xs:Array mF}
theorem SeqB.move (x:SeqB b h l xs)(e:k8 c h h')(n:l≠c):SeqB b h' l xs:=by
 cases b
 ·exact Heap.IsTuple.extBut x e n
 ·exact Heap.IsList.extBut x e n
theorem SeqB.push {o:Obj}(x:SeqB b h l xs):SeqB b (h.push o) l xs:=by
 cases b
 ·exact Heap.IsTuple.push x o
 ·exact Heap.IsList.push x o
theorem SeqB.lt (x:SeqB b h l xs):l<h.objs.size:=by
 cases b<;>(obtain⟨_,e,_⟩:=x;exact kI e)
theorem IterB.move (x:IterB b h it l i)(e:k8 c h h')(n:it≠c):IterB b h' it l i:=by
 cases b
 ·exact Heap.IsTupleIter.extBut x e n
 ·exact Heap.IsListIter.extBut x e n
theorem IterB.to (x:IterB b h it l i)(k:∀ o,h.get? it=some o->h'.get? it=some o):IterB b h' it l i:=by
 cases b<;>(obtain⟨o,e,r⟩:=x;exact⟨o,k o e,r⟩)
theorem IterB.obj (x:IterB b h it l i):∃ o,h.get? it=some o/\∀ v,o.data≠.cell v:=by
 cases b<;>(obtain⟨o,e,_,d⟩:=x;exact⟨o,e,λv z=>by rw[d] at z;cases z⟩)
theorem IterB.lt (x:IterB b h it l i):it<h.objs.size:=let ⟨_,e,_⟩:=x.obj;kI e
end
section
variable {P:l8}{w:mD}{A:mC}{E:mF->mn->Prop}{s:mn}{b:Bool}{it l:mS}{i:Nat}{xs:Array mF}{Q:mF->mn->Prop}
theorem AH (x:SeqB b s.heap l xs)(q:Q (.ref s.heap.objs.size) { s with heap:=s.heap.push { cls:=.type (tG b),data:=.fields #[.ref l,.int 0 0] } }):wpAny (model P w) A (pyIter (.ref l)) Q E s:=by
 cases b
 ·exact dm x q
 ·exact eM x q
theorem nextT {x:mF}(hi:s.heap.IsTupleIter it l i)(hl:s.heap.IsTuple l xs)(hx:xs[i]?=some x)(q:∀ h',h'.IsTupleIter it l (i+1)->kJ it s.heap h'->Q x { s with heap:=h' }):wpAny (model P w) A (aM (.ref it)) Q E s:=by
 obtain⟨oi,ei,ci,di⟩:=id hi
 obtain⟨os,es,_,ns,ds⟩:=hl
 unfold aM
 refine lq (bh (name:=j9 "__next__") hi.typeIs aB (fP aB hi.typeIs ak ?_ (ai _)))
 show wpAny _ _ (field (.ref it) 0 >>= _) _ _ s;refine lq (kO ei di (x:=.ref l) rfl ?_)
 show wpAny _ _ (if (Value.ref l == Value.none)=true then _ else _) _ _ s;rw[if_neg (show ¬ ((Value.ref l == Value.none)=true) from eB)]
 show wpAny _ _ (field (.ref it) 1 >>= _) _ _ s;refine lq (kO ei di (x:=.int i 0) rfl ?_)
 show wpAny _ _ (seqItems? (.ref l) >>= _) _ _ s;refine lq (iM es ds ?_)
 simp only[fC,hx]
 refine lq (iL ei di (by simp) (lg ⟨x,rfl,lg (q _ ⟨_,ck _ ei (bY (dG di _)),(fg ..).trans ci,?_⟩ (db ..))⟩))
 rw[dG di];simp[rawInt]
theorem Ls (hh:A.handled=none)(hi:s.heap.IsTupleIter it l i)(hl:s.heap.IsTuple l xs)(hx:xs[i]?=none)
  (q:∀ h' e,k8 it s.heap h'->(∃ o,h'.get? e=some o/\o.cls=.type "StopIteration")->E (.ref e) { s with heap:=h' }):wpAny (model P w) A (aM (.ref it)) Q E s:=by
 obtain⟨oi,ei,ci,di⟩:=id hi
 obtain⟨os,es,_,ns,ds⟩:=hl
 unfold aM
 refine lq (bh (name:=j9 "__next__") hi.typeIs aB (fP aB hi.typeIs ak ?_ (ai _)))
 show wpAny _ _ (field (.ref it) 0 >>= _) _ _ s;refine lq (kO ei di (x:=.ref l) rfl ?_)
 show wpAny _ _ (if (Value.ref l == Value.none)=true then _ else _) _ _ s;rw[if_neg (show ¬ ((Value.ref l == Value.none)=true) from eB)]
 show wpAny _ _ (field (.ref it) 1 >>= _) _ _ s;refine lq (kO ei di (x:=.int i 0) rfl ?_)
 show wpAny _ _ (seqItems? (.ref l) >>= _) _ _ s;refine lq (iM es ds ?_)
 simp only[fC,hx]
 refine lq (k9 (lq (iL ei di (by simp) ?_)));show wpAny _ _ (newExc (.type "StopIteration") [] >>= _) _ _ _
 refine lq ?_;simp only[newExc,newTuple]
 refine lq (eO ?_ (by size_fits));refine lq (m:=firstArgMember _ _) (kM (a:=Value.none) (by first|rfl|(simp only[firstArgMember];rfl)) ?_)
 refine eO ?_ (by size_fits);simp -iota only[raiseNew];refine lq (jr ?_)
 first|rw[show A.in1.handled=none from hh]|rw[hh]
 exact lq (lg (wpAny_throw (q _ _ (((db ..).extBut.push _).push _) ⟨_,da _ rfl,rfl⟩)))
theorem rL {x:mF}(hi:IterB b s.heap it l i)(hl:SeqB b s.heap l xs)(hx:xs[i]?=some x)(q:∀ h',IterB b h' it l (i+1)->kJ it s.heap h'->Q x { s with heap:=h' }):wpAny (model P w) A (aM (.ref it)) Q E s:=by
 cases b
 ·exact nextT hi hl hx q
 ·exact wpAny_nextOf_list_item hi hl hx q
theorem tN (hh:A.handled=none)(hi:IterB b s.heap it l i)(hl:SeqB b s.heap l xs)(hx:xs[i]?=none)
  (q:∀ h' e,k8 it s.heap h'->(∃ o,h'.get? e=some o/\o.cls=.type "StopIteration")->E (.ref e) { s with heap:=h' }):wpAny (model P w) A (aM (.ref it)) Q E s:=by
 cases b
 ·exact Ls hh hi hl hx q
 ·exact wpAny_nextOf_list_end hh hi hl hx q
end
section
variable {P:l8}{w:mD}{A:mC}{E:mF->mn->Prop}{s:mn}{p q:Bool}{z TI TO i1 i2 l1 l2:mS}{k1 k2:Nat}{xs ys:Array mF}{x y a b:mF}
theorem Bl {Q:mF->mn->Prop}(D:lT z TI TO i1 i2 l1 l2)(zz:mK s.heap z TI TO .none)(zi:mx s.heap TI (.ref i1) (.ref i2))(zo:mx s.heap TO a b)
  (t1:IterB p s.heap i1 l1 k1)(t2:IterB q s.heap i2 l2 k2)(m1:SeqB p s.heap l1 xs)(m2:SeqB q s.heap l2 ys)(ex:xs[k1]?=some x)(ey:ys[k2]?=some y)
  (K:∀ h',mK h' z TI TO (rawInt s.heap.objs.size)->mx h' TO x y->IterB p h' i1 l1 (k1+1)->IterB q h' i2 l2 (k2+1)->mx h' s.heap.objs.size x y ->
   (∀ c o,c≠z->c≠TO->c≠i1->c≠i2->s.heap.get? c=some o->h'.get? c=some o)->Q (.ref s.heap.objs.size) { s with heap:=h' }) :
  wpAny (model P w) A (mh.«zip.__next__» ⟨[.ref z],[]⟩) (λfin s'=>∃ v,fin=.done (.ret v)/\Q v s') E s:=by
 show wpAny _ _ (field (.ref z) 2 >>= _) _ _ _;refine lq (kO zz rfl (x:=.bool false) rfl ?_)
 show wpAny _ _ (field (.ref z) 3 >>= _) _ _ _;refine lq (kO zz rfl (x:=.ref TI) rfl (lq (iM zi rfl ?_)))
 show wpAny _ _ (ac (.ref z) >>= _) _ _ _;refine lq ?_;unfold ac
 refine lq (kO zz rfl (x:=.none) rfl (lg ?_));simp -iota only[if_true]
 refine lq (k9 (lq (kO zz rfl (x:=.ref TO) rfl (lq (dk zz (by simp) λg1 z1 b1=>?_)))))
 replace z1:mK g1 z TI TO .ellipsis:=z1
 refine lq ?_;simp -iota only[f9,ia,ir,jf]
 refine lq (lq (jp ?_));show wpAny _ _ (aM (.ref i1) >>= _) _ _ _
 refine lq (rL (t1.move b1.extBut D.i1z) (m1.move b1.extBut D.l1z) ex λg2 t12 b2=>lg ?_)
 have o2:mx g2 TO a b:=b2.extBut _ _ D.TOi1 (b1.extBut _ _ D.TOz zo)
 refine lq (iM o2 rfl (lq (cu o2 λg3 o3 b3=>?_)))
 replace o3:mx g3 TO x b:=o3
 refine lq (kN (lg (lq (lq (jp ?_)))));show wpAny _ _ (aM (.ref i2) >>= _) _ _ _
 refine lq (rL (((t2.move b1.extBut D.i2z).move b2.extBut D.i12.symm).move b3.extBut D.TOi2.symm) (((m2.move b1.extBut D.l2z).move b2.extBut D.l2i1).move b3.extBut D.l2TO) ey λg4 t24 b4=>lg ?_)
 have o4:mx g4 TO x b:=b4.extBut _ _ D.TOi2 o3
 refine lq (iM o4 rfl (lq (cu o4 λg5 o5 b5=>?_)))
 replace o5:mx g5 TO x y:=o5
 refine lq (kN (lg (lg (lq (iM o5 rfl (lq (iO ?_)))))))
 have sz:g5.objs.size=s.heap.objs.size:=by rw[b5.1,b4.1,b3.1,b2.1,b1.1]
 have z5:mK g5 z TI TO .ellipsis:=b5.extBut _ _ D.TOz.symm (b4.extBut _ _ D.i2z.symm (b3.extBut _ _ D.TOz.symm (b2.extBut _ _ D.i1z.symm z1)))
 have kk:∀ c o,c≠z->c≠TO->c≠i1->c≠i2->s.heap.get? c=some o->g5.get? c=some o:=λc o c1 c2 c3 c4 e=>b5.extBut _ _ c2 (b4.extBut _ _ c4 (b3.extBut _ _ c2 (b2.extBut _ _ c3 (b1.extBut _ _ c1 e))))
 have t15:IterB p g5 i1 l1 (k1+1):=((t12.move b3.extBut D.TOi1.symm).move b4.extBut D.i12).move b5.extBut D.TOi1.symm
 have t25:IterB q g5 i2 l2 (k2+1):=t24.move b5.extBut D.TOi2.symm
 have zlt:z<g5.objs.size:=kI z5
 show wpAny _ _ (ab (.ref z) (.ref g5.objs.size) >>= _) _ _ _;refine lq ?_;unfold ab
 have z6:mK (g5.push { cls:=.type "tuple",data:=.seq #[x,y] }) z TI TO .ellipsis:=bQ _ z5
 refine lq (dk z6 (by simp) λg7 z7 b7=>?_);replace z7:mK g7 z TI TO (rawInt g5.objs.size):=z7
 refine dk z7 (by simp) λg8 z8 b8=>?_;replace z8:mK g8 z TI TO (rawInt g5.objs.size):=z8
 have up:∀ c o,c≠z->g5.get? c=some o->g8.get? c=some o:=λc o c1 e=>b8.extBut _ _ c1 (b7.extBut _ _ c1 (bQ _ e))
 have tt:mx g8 g5.objs.size x y:=b8.extBut _ _ (kl zlt) (b7.extBut _ _ (kl zlt) (da _ rfl))
 rw[sz] at z8 tt
 refine lg ⟨_,rfl,?_⟩;show Q (.ref g5.objs.size) _;rw[sz]
 exact K g8 z8 (up _ _ D.TOz o5) (t15.to λo e=>up _ o D.i1z e) (t25.to λo e=>up _ o D.i2z e) tt λc o c1 c2 c3 c4 e=>up c o c1 (kk c o c1 c2 c3 c4 e)
theorem Cr {Q:Fin->mn->Prop}(hh:A.handled=none)(D:lT z TI TO i1 i2 l1 l2)(zz:mK s.heap z TI TO .none)(zi:mx s.heap TI (.ref i1) (.ref i2))(zo:mx s.heap TO a b)
  (t1:IterB p s.heap i1 l1 k1)(t2:IterB q s.heap i2 l2 k2)(m1:SeqB p s.heap l1 xs)(m2:SeqB q s.heap l2 ys)(en:xs[k1]?=none ∨ ys[k2]?=none)
  (K:∀ h' e,(∀ c o,c≠z->c≠TO->c≠i1->c≠i2->s.heap.get? c=some o->h'.get? c=some o)->(∃ o,h'.get? e=some o/\o.cls=.type "StopIteration")->E (.ref e) { s with heap:=h' }) :
  wpAny (model P w) A (mh.«zip.__next__» ⟨[.ref z],[]⟩) Q E s:=by
 show wpAny _ _ (field (.ref z) 2 >>= _) _ _ _;refine lq (kO zz rfl (x:=.bool false) rfl ?_)
 show wpAny _ _ (field (.ref z) 3 >>= _) _ _ _;refine lq (kO zz rfl (x:=.ref TI) rfl (lq (iM zi rfl ?_)))
 show wpAny _ _ (ac (.ref z) >>= _) _ _ _;refine lq ?_;unfold ac
 refine lq (kO zz rfl (x:=.none) rfl (lg ?_));simp -iota only[if_true]
 refine lq (k9 (lq (kO zz rfl (x:=.ref TO) rfl (lq (dk zz (by simp) λg1 z1 b1=>?_)))))
 replace z1:mK g1 z TI TO .ellipsis:=z1
 refine lq ?_;simp -iota only[f9,ia,ir,jf]
 refine lq (lq (jp ?_));show wpAny _ _ (aM (.ref i1) >>= _) _ _ _
 have fin:∀ {g:mQ}{e:mS}{o:Obj},mK g z TI TO .ellipsis->g.get? e=some o->o.cls=.type "StopIteration"->e≠z:=λh1 h2 h3 x=>by subst x;rw[h1] at h2;cases h2;simp at h3
 cases hx:xs[k1]? with
 | none =>
  refine lq (tN hh (t1.move b1.extBut D.i1z) (m1.move b1.extBut D.l1z) hx λg2 e b2 he=>?_)
  obtain⟨oe,e1,e2⟩:=he
  have z2:mK g2 z TI TO .ellipsis:=b2 _ _ D.i1z.symm z1
  exact dk z2 (by simp) λg3 _ b3=>K g3 e (λc o c1 _ c3 _ x=>b3.extBut _ _ c1 (b2 _ _ c3 (b1.extBut _ _ c1 x))) ⟨oe,b3.extBut _ _ (fin z2 e1 e2) e1,e2⟩
 | some x =>
  have hy:ys[k2]?=none:=by rcases en with h|h;rw[hx] at h;cases h;exact h
  refine lq (rL (t1.move b1.extBut D.i1z) (m1.move b1.extBut D.l1z) hx λg2 t12 b2=>lg ?_)
  have o2:mx g2 TO a b:=b2.extBut _ _ D.TOi1 (b1.extBut _ _ D.TOz zo)
  refine lq (iM o2 rfl (lq (cu o2 λg3 o3 b3=>lq (kN (lg (lq (lq (jp ?_))))))))
  show wpAny _ _ (aM (.ref i2) >>= _) _ _ _
  refine lq (tN hh (((t2.move b1.extBut D.i2z).move b2.extBut D.i12.symm).move b3.extBut D.TOi2.symm) (((m2.move b1.extBut D.l2z).move b2.extBut D.l2i1).move b3.extBut D.l2TO) hy λg4 e b4 he=>?_)
  obtain⟨oe,e1,e2⟩:=he
  have z4:mK g4 z TI TO .ellipsis:=b4 _ _ D.i2z.symm (b3.extBut _ _ D.TOz.symm (b2.extBut _ _ D.i1z.symm z1))
  exact dk z4 (by simp) λg5 _ b5=>K g5 e (λc o c1 c2 c3 c4 x=>b5.extBut _ _ c1 (b4 _ _ c4 (b3.extBut _ _ c2 (b2.extBut _ _ c3 (b1.extBut _ _ c1 x))))) ⟨oe,b5.extBut _ _ (fin z4 e1 e2) e1,e2⟩
theorem Bk {Q:Option mF->mn->Prop}(D:lT z TI TO i1 i2 l1 l2)(zz:mK s.heap z TI TO .none)(zi:mx s.heap TI (.ref i1) (.ref i2))(zo:mx s.heap TO a b)
  (t1:IterB p s.heap i1 l1 k1)(t2:IterB q s.heap i2 l2 k2)(m1:SeqB p s.heap l1 xs)(m2:SeqB q s.heap l2 ys)(ex:xs[k1]?=some x)(ey:ys[k2]?=some y)
  (K:∀ h',mK h' z TI TO (rawInt s.heap.objs.size)->mx h' TO x y->IterB p h' i1 l1 (k1+1)->IterB q h' i2 l2 (k2+1)->mx h' s.heap.objs.size x y ->
   (∀ c o,c≠z->c≠TO->c≠i1->c≠i2->s.heap.get? c=some o->h'.get? c=some o)->Q (some (.ref s.heap.objs.size)) { s with heap:=h' }):wpAny (model P w) A (pyNext (.ref z)) Q E s:=by
 have ty:s.TypeIs (.ref z) "zip":=⟨_,zz,rfl⟩
 unfold pyNext
 exact lq (jt (bh (name:=j9 "__next__") ty iD (fP iD ty gB (Bl D zz zi zo t1 t2 m1 m2 ex ey λh' a1 a2 a3 a4 a5 a6=>lg (K h' a1 a2 a3 a4 a5 a6)) (fH _))))
theorem Bj {Q:Option mF->mn->Prop}(hh:A.handled=none)(D:lT z TI TO i1 i2 l1 l2)(zz:mK s.heap z TI TO .none)(zi:mx s.heap TI (.ref i1) (.ref i2))(zo:mx s.heap TO a b)
  (t1:IterB p s.heap i1 l1 k1)(t2:IterB q s.heap i2 l2 k2)(m1:SeqB p s.heap l1 xs)(m2:SeqB q s.heap l2 ys)(en:xs[k1]?=none ∨ ys[k2]?=none)
  (K:∀ h',(∀ c o,c≠z->c≠TO->c≠i1->c≠i2->s.heap.get? c=some o->h'.get? c=some o)->Q none { s with heap:=h' }):wpAny (model P w) A (pyNext (.ref z)) Q E s:=by
 have ty:s.TypeIs (.ref z) "zip":=⟨_,zz,rfl⟩
 unfold pyNext
 refine lq (jt (bh (name:=j9 "__next__") ty iD (fP iD ty gB (Cr hh D zz zi zo t1 t2 m1 m2 en λh' e hk he=>?_) (fH _))))
 obtain⟨o,e1,e2⟩:=he
 exact lq (fM (T:="StopIteration") (b:=true) ⟨o,e1,e2⟩ iT (lg (K _ hk)))
end
abbrev EL (p:Bool)(h:mQ)(l1:mS):mQ:=h.push { cls:=.type (tG p),data:=.fields #[.ref l1,.int 0 0] }
abbrev Nf (p q:Bool)(h:mQ)(l1 l2:mS):mQ:=(EL p h l1).push { cls:=.type (tG q),data:=.fields #[.ref l2,.int 0 0] }
abbrev Nd (p q:Bool)(h:mQ)(l1 l2:mS):mQ:=(Nf p q h l1 l2).push { cls:=.type "tuple",data:=.seq #[.ref h.objs.size,.ref (EL p h l1).objs.size] }
abbrev Nc (p q:Bool)(h:mQ)(l1 l2:mS):mQ:=(Nd p q h l1 l2).push { cls:=.type "tuple",data:=.seq #[.none,.none] }
abbrev KR (p q:Bool)(h:mQ)(l1 l2:mS):mQ:=(Nc p q h l1 l2).push { cls:=.type "zip",data:=.fields #[.none,.bool false,.bool false,.ref (Nf p q h l1 l2).objs.size,.ref (Nd p q h l1 l2).objs.size] }
theorem zl (p q:Bool)(l1 l2:mS)(xs ys:Array mF) :
  mJ (mh.«zip.__new__» ⟨[.type "zip",.ref l1,.ref l2],[]⟩) (λ_ R s=>SeqB p s.heap l1 xs/\SeqB q s.heap l2 ys/\R (.ok (.ret (.ref (Nc p q s.heap l1 l2).objs.size))) { s with heap:=KR p q s.heap l1 l2 }) :=
 .of_wp λprog w A R s h=>by
  obtain⟨hp,g,d,tk,os⟩:=s;obtain⟨m1,m2,h⟩:=h
  have hsub:=sub_zip
  have M1:SeqB p (kS ⟨hp,g,d,tk,os⟩) l1 xs:=m1
  have M2:SeqB q (kS ⟨hp.push { cls:=.type (tG p),data:=.fields #[.ref l1,.int 0 0] },g,d,tk,os⟩) l2 ys:=SeqB.push m2
  wp_walk using AH M1,AH M2
  exact⟨_,rfl,h⟩
section
variable {P:l8}{w:mD}{A:mC}{E:mF->mn->Prop}{s:mn}
theorem vQ {p q:Bool}{l1 l2:mS}{xs ys:Array mF}{Q:mF->mn->Prop}(m1:SeqB p s.heap l1 xs)(m2:SeqB q s.heap l2 ys)
  (K:∀ h',mK h' (s.heap.objs.size+4) (s.heap.objs.size+2) (s.heap.objs.size+3) .none->mx h' (s.heap.objs.size+2) (.ref s.heap.objs.size) (.ref (s.heap.objs.size+1)) ->
   mx h' (s.heap.objs.size+3) .none .none->IterB p h' s.heap.objs.size l1 0->IterB q h' (s.heap.objs.size+1) l2 0->(∀ c o,s.heap.get? c=some o->h'.get? c=some o)->Q (.ref (s.heap.objs.size+4)) { s with heap:=h' }) :
  wpAny (model P w) A (call (.type "zip") [.ref l1,.ref l2]) Q E s:=by
 refine callType_new F.called_zip (by decide) (F.typeCall_zip_2 _ _) (F.newCall_zip_2 _ _) (λobj=>F.args_object_init_3 obj _ _) F.entry_zip_new (zl p q l1 l2 xs ys) ⟨m1,m2,?_⟩
 have z1:(EL p s.heap l1).objs.size=s.heap.objs.size+1:=jl ..
 have z2:(Nf p q s.heap l1 l2).objs.size=s.heap.objs.size+2:=by rw[jl,z1]
 have z3:(Nd p q s.heap l1 l2).objs.size=s.heap.objs.size+3:=by rw[jl,z2]
 have z4:(Nc p q s.heap l1 l2).objs.size=s.heap.objs.size+4:=by rw[jl,z3]
 have f5:(KR p q s.heap l1 l2).get? (Nc p q s.heap l1 l2).objs.size=some _:=da _ rfl
 have f4:(KR p q s.heap l1 l2).get? (Nd p q s.heap l1 l2).objs.size=some _:=bQ _ (da _ rfl)
 have f3:(KR p q s.heap l1 l2).get? (Nf p q s.heap l1 l2).objs.size=some _:=bQ _ (bQ _ (da _ rfl))
 have f2:(KR p q s.heap l1 l2).get? (EL p s.heap l1).objs.size=some _:=bQ _ (bQ _ (bQ _ (da _ rfl)))
 have f1:(KR p q s.heap l1 l2).get? s.heap.objs.size=some _:=bQ _ (bQ _ (bQ _ (bQ _ (da _ rfl))))
 show _/\_
 rw[z2,z3,z4] at f5;rw[z1,z2] at f3;rw[z3] at f4;rw[z1] at f2;rw[z4]
 refine⟨⟨_,f5,rfl⟩,K _ f5 f3 f4 ?_ ?_ λc o x=>bQ _ (bQ _ (bQ _ (bQ _ (bQ _ x))))⟩
 ·cases p<;>exact⟨_,f1,rfl,rfl⟩
 ·cases q<;>exact⟨_,f2,rfl,rfl⟩
end
end L2
namespace L2
open PySem PySem.Spec PyProof.Rows
open AutoSeq1 (wpAny_loadPart')
section
variable {P:l8}{w:mD}{A:mC}{E:mF->mn->Prop}{s:mn}{p:Bool}{e it l:mS}{i:Nat}{xs:Array mF}{x old:mF}
theorem zF {Q:mF->mn->Prop}(ee:mz s.heap e it i old)(t1:IterB p s.heap it l i)(m1:SeqB p s.heap l xs)(ex:xs[i]?=some x)(ne:e≠it)
  (K:∀ h',lR h' e it ((i:Int)+1) x s.heap.objs.size->IterB p h' it l (i+1)->h'.get? s.heap.objs.size=some { cls:=.type "tuple",data:=.seq #[.int i s.toks,x] } ->
   (∀ b o,b≠e->b≠it->s.heap.get? b=some o->h'.get? b=some o)->Q (.ref s.heap.objs.size) { s with heap:=h',toks:=s.toks+1 }) :
  wpAny (model P w) A (mh.«enumerate.__next__» ⟨[.ref e],[]⟩) (λfin s'=>∃ v,fin=.done (.ret v)/\Q v s') E s:=by
 obtain⟨hp,g,d,tk,os⟩:=s
 show wpAny _ _ (field (.ref e) 2 >>= _) _ _ _;refine lq (kO ee rfl (x:=.ref it) rfl (lq (rL t1 m1 ex λg1 t11 b1=>?_)))
 replace b1:kJ it hp g1:=b1
 have e1:mz g1 e it i old:=(b1.2 e ne).trans ee
 show wpAny _ _ (field (.ref e) 3 >>= _) _ _ ⟨g1,g,d,tk,os⟩;refine lq (kO e1 rfl (x:=rawInt i) rfl ?_)
 show wpAny _ _ (field (.ref e) 4 >>= _) _ _ ⟨g1,g,d,tk,os⟩;refine lq (kO e1 rfl (x:=.none) rfl ?_)
 show wpAny _ _ (mkInt i >>= _) _ _ ⟨g1,g,d,tk,os⟩;refine lq (wpAny_mkInt ?_)
 show wpAny _ _ (setField (.ref e) 3 (rawInt ((i:Int)+1)) >>= _) _ _ ⟨g1,g,d,tk+1,os⟩;refine lq (dk e1 (by simp) λg2 e2 b2=>?_)
 replace b2:kJ e g1 g2:=b2
 replace e2:mz g2 e it ((i:Int)+1) old:=e2
 show wpAny _ _ (setField (.ref e) 4 .none >>= _) _ _ ⟨g2,g,d,tk+1,os⟩;refine lq (dk e2 (by simp) λg3 e3 b3=>?_)
 replace b3:kJ e g2 g3:=b3
 replace e3:mz g3 e it ((i:Int)+1) old:=e3
 show wpAny _ _ (newTuple [.int i tk,x] >>= _) _ _ ⟨g3,g,d,tk+1,os⟩;refine lq (iO ?_)
 have e4:mz (g3.push { cls:=.type "tuple",data:=.seq #[.int i tk,x] }) e it ((i:Int)+1) old:=bQ _ e3
 generalize hg4:g3.push { cls:=.type "tuple",data:=.seq #[.int i tk,x] } = g4 at e4
 have sz:g3.objs.size=hp.objs.size:=by rw[b3.1,b2.1,b1.1]
 have el:e<hp.objs.size:=kI ee
 have t4:g4.get? hp.objs.size=some { cls:=.type "tuple",data:=.seq #[.int i tk,x] }:=by rw[<- hg4,<- sz];exact da _ rfl
 have k4:∀ b o,b≠e->b≠it->hp.get? b=some o->g4.get? b=some o:=λb o c1 c2 h=>by rw[<- hg4];exact bQ _ (b3.extBut b o c1 (b2.extBut b o c1 (b1.extBut b o c2 h)))
 have i4:IterB p g4 it l (i+1):=by
  rw[<- hg4];exact ((t11.move b2.extBut (ma ne)).move b3.extBut (ma ne)).to λo h=>bQ _ h
 show wpAny _ _ (ac (.ref e) >>= _) _ _ ⟨g4,g,d,tk+1,os⟩
 rw[sz]
 clear hg4 e3 b3 e2 b2 e1 b1 t11 sz g3 g2 g1
 refine lq ?_;unfold ac
 refine lq (kO e4 rfl (x:=.none) rfl (lg ?_));simp only[if_true]
 refine lq (k9 (lq (kO e4 rfl (x:=old) rfl (lq (dk e4 (by simp) λg5 e5 b5=>?_)))))
 replace b5:kJ e g4 g5:=b5
 replace e5:mz g5 e it ((i:Int)+1) x:=e5
 show wpAny _ _ (ab (.ref e) (.ref hp.objs.size) >>= _) _ _ ⟨g5,g,d,tk+1,os⟩;refine lq ?_;unfold ab
 refine lq (dk e5 (by simp) λg6 e6 b6=>?_)
 replace b6:kJ e g5 g6:=b6
 replace e6:lR g6 e it ((i:Int)+1) x hp.objs.size:=e6
 refine dk e6 (by simp) λg7 e7 b7=>?_
 replace b7:kJ e g6 g7:=b7
 replace e7:lR g7 e it ((i:Int)+1) x hp.objs.size:=e7
 refine lq (kN (lg ⟨_,rfl,K g7 e7 (((i4.move b5.extBut (ma ne)).move b6.extBut (ma ne)).move b7.extBut (ma ne)) ?_ λb o c1 c2 h=>b7.extBut b o c1 (b6.extBut b o c1 (b5.extBut b o c1 (k4 b o c1 c2 h)))⟩))
 exact b7.extBut _ _ (kl el) (b6.extBut _ _ (kl el) (b5.extBut _ _ (kl el) t4))
theorem zE {Q:Option mF->mn->Prop}(ee:mz s.heap e it i old)(t1:IterB p s.heap it l i)(m1:SeqB p s.heap l xs)(ex:xs[i]?=some x)(ne:e≠it)
  (K:∀ h',lR h' e it ((i:Int)+1) x s.heap.objs.size->IterB p h' it l (i+1)->h'.get? s.heap.objs.size=some { cls:=.type "tuple",data:=.seq #[.int i s.toks,x] } ->
   (∀ b o,b≠e->b≠it->s.heap.get? b=some o->h'.get? b=some o)->Q (some (.ref s.heap.objs.size)) { s with heap:=h',toks:=s.toks+1 }):wpAny (model P w) A (pyNext (.ref e)) Q E s:=by
 have ty:s.TypeIs (.ref e) "enumerate":=⟨_,ee,rfl⟩
 unfold pyNext
 exact lq (jt (bh (name:=j9 "__next__") ty cp (fP cp ty bR (zF ee t1 m1 ex ne λh' a b c d=>lg (K h' a b c d)) (bw _))))
theorem zD {Q:Option mF->mn->Prop}(hh:A.handled=none)(ee:mz s.heap e it i old)(t1:IterB p s.heap it l i)(m1:SeqB p s.heap l xs)(ex:xs[i]?=none)(K:∀ h',k8 it s.heap h'->Q none { s with heap:=h' }):wpAny (model P w) A (pyNext (.ref e)) Q E s:=by
 have ty:s.TypeIs (.ref e) "enumerate":=⟨_,ee,rfl⟩
 unfold pyNext
 refine lq (jt (bh (name:=j9 "__next__") ty cp (fP cp ty bR ?_ (bw _))))
 show wpAny _ _ (field (.ref e) 2 >>= _) _ _ _;refine lq (kO ee rfl (x:=.ref it) rfl (lq (tN hh t1 m1 ex λh' v k hv=>?_)))
 obtain⟨o,e1,e2⟩:=hv
 exact lq (fM (T:="StopIteration") (b:=true) ⟨o,e1,e2⟩ iT (lg (K _ k)))
end
theorem EN {P:l8}{w:mD}{A:mC}{E:mF->mn->Prop}{s:mn}{Q:Bool->mn->Prop}(h:∀ c,Q c s)(c:Bool):wpAny (model P w) A (pure c) Q E s:=lg (h c)
theorem x0 (p:Bool)(l:mS)(xs:Array mF) :
  mJ (mh.«enumerate.__new__» ⟨[.type "enumerate",.ref l],[]⟩) (λ_ R s=>SeqB p s.heap l xs /\
   R (.ok (.ret (.ref (EL p s.heap l).objs.size))) { s with heap:=(EL p s.heap l).push { cls:=.type "enumerate",data:=.fields #[.none,.bool false,.ref s.heap.objs.size,rawInt 0,.none,.none] } }) :=
 .of_wp λprog w A R s h=>by
  obtain⟨hp,g,d,tk,os⟩:=s;obtain⟨m1,h⟩:=h
  have hsub:=sub_enumerate
  have M1:SeqB p (kS ⟨hp,g,d,tk,os⟩) l xs:=m1
  have hob:∃ o,hp.get? l=some o:=by cases p<;>(obtain⟨o,e,_⟩:=m1;exact⟨o,e⟩)
  obtain⟨ob,hl⟩:=hob
  wp_walk using gJ hl
  refine wpAny_stack_any λst=>EN (λc=>?_) _
  cases c
  ·wp_walk using gJ hl,AH M1
   exact⟨_,rfl,h⟩
  ·wp_walk using gJ hl,AH M1
   exact⟨_,rfl,h⟩
section
variable {P:l8}{w:mD}{A:mC}{E:mF->mn->Prop}{s:mn}
theorem zO {p:Bool}{l:mS}{xs:Array mF}{Q:mF->mn->Prop}(m1:SeqB p s.heap l xs)
  (K:∀ h',mz h' (s.heap.objs.size+1) s.heap.objs.size 0 .none->IterB p h' s.heap.objs.size l 0->(∀ b o,s.heap.get? b=some o->h'.get? b=some o)->Q (.ref (s.heap.objs.size+1)) { s with heap:=h' }) :
  wpAny (model P w) A (call (.type "enumerate") [.ref l]) Q E s:=by
 refine callType_new F.called_enumerate (by decide) (F.typeCall_enumerate_1 _) (F.newCall_enumerate_1 _) (λobj=>cN obj _) F.entry_enumerate_new (x0 p l xs) ⟨m1,?_⟩
 have z1:(EL p s.heap l).objs.size=s.heap.objs.size+1:=jl ..
 show _/\_
 rw[z1]
 have f2:mz ((EL p s.heap l).push { cls:=.type "enumerate",data:=.fields #[.none,.bool false,.ref s.heap.objs.size,rawInt 0,.none,.none] }) (s.heap.objs.size+1) s.heap.objs.size 0 .none:=by
  have:=da (EL p s.heap l) (o:={ cls:=.type "enumerate",data:=.fields #[.none,.bool false,.ref s.heap.objs.size,rawInt 0,.none,.none] }) rfl
  rw[z1] at this;exact this
 refine⟨⟨_,f2,rfl⟩,K _ f2 ?_ λb o x=>bQ _ (bQ _ x)⟩
 cases p<;>exact⟨_,bQ _ (da _ rfl),rfl,rfl⟩
end
def uQ (b:Bool)(K:ke)(H:Hp)(a:mS)(xs:List V):Prop:=match b with|true=>SqL K H a xs|false=>SqT K H a xs
section
variable {X:Cx}{Z9:List (mS×Obj)}{σ:St}{H:Hp}{s:mn}{a:mS}{xs ys:List V}{b:Bool}
theorem Inv.seqB (I:Inv X Z9 σ H s)(h:uQ b X.K H a xs):∃ Z7:List mF,Vals xs Z7/\SeqB b s.heap a Z7.toArray/\xs.length=Z7.length:=by
 cases b
 ·obtain⟨Z7,r,q,_⟩:=I.tuple h
  exact⟨Z7,r,q,r.length⟩
 ·obtain⟨Z7,r,q,_⟩:=I.list h
  exact⟨Z7,r,q.isList,r.length⟩
theorem Inv.seqB_inj (I:Inv X Z9 σ H s)(h:uQ b X.K H a xs)(h':uQ b X.K H a ys):xs=ys:=by
 cases b
 ·exact I.tuple_inj h h'
 ·exact I.list_inj h h'
end
def K9 (K:ke) (p q:Bool) (a b:mS):It :=
  ⟨λi H=>∃ xs ys x y,uQ p K H a xs/\uQ q K H b ys/\xs[i]?=some x/\ys[i]?=some y,
   λi H v H'=>∃ c,H c=none/\v=.ref c/\∀ xs ys x y,uQ p K H a xs->uQ q K H b ys->xs[i]?=some x->ys[i]?=some y->H'=n5 H c (.tup [x,y]),
   λi H=>∃ xs ys,uQ p K H a xs/\uQ q K H b ys/\(xs.length<=i ∨ ys.length<=i)⟩
def OB (K:ke) (p:Bool) (a:mS):It :=
  ⟨λi H=>∃ xs x,uQ p K H a xs/\xs[i]?=some x,
   λi H v H'=>∃ c,H c=none/\v=.ref c/\∀ xs x,uQ p K H a xs->xs[i]?=some x->H'=n5 H c (.tup [.int i,x]),
   λi H=>∃ xs,uQ p K H a xs/\xs.length<=i⟩
theorem ER {P:l8}{w:mD}{K:ke}{p q:Bool}{elts:List Expr}{k:Nat}{pos:Pos}{a b z TI TO i1 i2:mS}(D:lT z TI TO i1 i2 a b) :
  Turn P w K (.Tuple elts k pos) (K9 K p q a b) [z,TO,i1,i2,TI] z (λi h=>mK h z TI TO .none/\mx h TI (.ref i1) (.ref i2)/\(∃ c d,mx h TO c d)/\IterB p h i1 a i/\IterB q h i2 b i) where
 mem:=by simp
 obj:=λi h st c hc=>by
  obtain⟨zz,zi,⟨x,y,zo⟩,t1,t2⟩:=st
  simp only[jN,gc,or_false] at hc
  rcases hc with rfl|rfl|rfl|rfl|rfl
  ·exact⟨_,zz,λv z=>by cases z⟩
  ·exact⟨_,zo,λv z=>by cases z⟩
  ·exact t1.obj
  ·exact t2.obj
  ·exact⟨_,zi,λv z=>by cases z⟩
 keep:=λi h h' st kk=>by
  obtain⟨zz,zi,⟨x,y,zo⟩,t1,t2⟩:=st
  exact⟨kk z (by simp) _ zz,kk TI (by simp) _ zi,⟨x,y,kk TO (by simp) _ zo⟩,t1.to λo e=>kk i1 (by simp) o e,t2.to λo e=>kk i2 (by simp) o e⟩
 item:=by
  intro X hP hw hK hc i Z9 s σ H E I hf st hg
  subst hP hw hK
  obtain⟨xs,ys,x,y,q1,q2,hx,hy⟩:=hg
  obtain⟨zz,zi,⟨u0,v0,zo⟩,t1,t2⟩:=st
  obtain⟨Z7,rv,m1,_⟩:=I.seqB q1
  obtain⟨jts,rw',m2,_⟩:=I.seqB q2
  obtain⟨u,hu,ru⟩:=rv.get hx
  obtain⟨u',hu',ru'⟩:=rw'.get hy
  refine Bk D zz zi zo t1 t2 m1 m2 (x:=u) (y:=u') (by simpa using hu) (by simpa using hu') λh' a1 a2 a3 a4 a5 hk=>?_
  refine⟨_,rfl,wpAny_letOwnedTupleGo_zip a1 λh'' z'' hs''=>?_⟩
  have szn:z≠s.heap.objs.size:=kj (kI zz)
  have T'':mx h'' s.heap.objs.size u u':=hs''.extBut _ _ (ma szn) a5
  have I1:Inv X Z9 σ (n5 H s.heap.objs.size (.tup [x,y])) { s with heap:=h'' }:=I.turnedNew (t':=s.toks) (ch:=[z,TO,i1,i2]) (kW _)
   (λc ob hc e=>by simp only[jN,gc,or_false,not_or] at hc;exact hs''.extBut _ _ hc.1 (hk c ob hc.1 hc.2.1 hc.2.2.1 hc.2.2.2 e))
   (λc hc=>hf c (by simp only[jN,gc,or_false] at hc ⊢;rcases hc with z|z|z|z<;>simp[z])) ⟨by show 2<=sizeLine;decide,[u,u'],.cons ru (.cons ru' .nil),⟨_,T'',rfl,_,rfl⟩⟩
  refine⟨.ref s.heap.objs.size,_,I1,rfl,⟨_,I.fresh,rfl,λxs' ys' x' y' r1 r2 hx' hy'=>?_⟩,⟨z'',hs''.extBut _ _ D.TIz (hk _ _ D.TIz D.TITO D.TIi1 D.TIi2 zi),⟨_,_,hs''.extBut _ _ D.TOz a2⟩,a3.move hs''.extBut D.i1z,a4.move hs''.extBut D.i2z⟩,λc hc=>?_⟩
  ·have e1:=I.seqB_inj r1 q1
   have e2:=I.seqB_inj r2 q2
   subst e1 e2
   rw[hx] at hx';rw[hy] at hy';cases hx';cases hy';rfl
  ·have:c≠s.heap.objs.size:=by
    have hlt:c<s.heap.objs.size:=by
     simp only[jN,gc,or_false] at hc
     rcases hc with rfl|rfl|rfl|rfl|rfl
     ·exact kI zz
     ·exact kI zo
     ·exact t1.lt
     ·exact t2.lt
     ·exact kI zi
    exact kj hlt
   rw[m9 this];exact (hf c hc).1
 done:=by
  intro X hP hw hK hc i Z9 s σ H E I hf st hg
  subst hP hw hK
  obtain⟨xs,ys,q1,q2,hx⟩:=hg
  obtain⟨zz,zi,⟨u0,v0,zo⟩,t1,t2⟩:=st
  obtain⟨Z7,rv,m1,l1⟩:=I.seqB q1
  obtain⟨jts,rw',m2,l2⟩:=I.seqB q2
  refine Bj (I.ok.hd hc) D zz zi zo t1 t2 m1 m2 (hx.elim (λz=>.inl (by simp;lia)) λz=>.inr (by simp;lia)) λh' hk=>⟨rfl,?_⟩
  exact I.turnedL (t':=s.toks) (ch:=[z,TO,i1,i2]) (λc ob hc e=>by simp only[jN,gc,or_false,not_or] at hc;exact hk c ob hc.1 hc.2.1 hc.2.2.1 hc.2.2.2 e)
   (λc hc=>hf c (by simp only[jN,gc,or_false] at hc ⊢;rcases hc with z|z|z|z<;>simp[z]))
 self:=λ_ _ _ _ _ st h=>fL st.1 h
theorem ES {P:l8}{w:mD}{K:ke}{p:Bool}{elts:List Expr}{k:Nat}{pos:Pos}{a e it:mS}(ne:e≠it) :
  Turn P w K (.Tuple elts k pos) (OB K p a) [e,it] e (λi h=>(∃ old,mz h e it i old)/\IterB p h it a i) where
 mem:=by simp
 obj:=λi h st c hc=>by
  obtain⟨⟨old,ee⟩,t1⟩:=st
  simp only[jN,gc,or_false] at hc
  rcases hc with rfl|rfl
  ·exact⟨_,ee,λv z=>by cases z⟩
  ·exact t1.obj
 keep:=λi h h' st kk=>by
  obtain⟨⟨old,ee⟩,t1⟩:=st
  exact⟨⟨old,kk e (by simp) _ ee⟩,t1.to λo q=>kk it (by simp) o q⟩
 item:=by
  intro X hP hw hK hc i Z9 s σ H E I hf st hg
  subst hP hw hK
  obtain⟨xs,x,q1,hx⟩:=hg
  obtain⟨⟨old,ee⟩,t1⟩:=st
  obtain⟨Z7,rv,m1,_⟩:=I.seqB q1
  obtain⟨u,hu,ru⟩:=rv.get hx
  refine zE ee t1 m1 (x:=u) (by simpa using hu) ne λh' a1 a2 a3 hk=>?_
  refine⟨_,rfl,wpAny_letOwnedTupleGo_enum a1 λh'' z'' hs''=>?_⟩
  have szn:e≠s.heap.objs.size:=kj (kI ee)
  have T'':=hs''.extBut _ _ (ma szn) a3
  have I1:Inv X Z9 σ (n5 H s.heap.objs.size (.tup [.int i,x])) { s with heap:=h'',toks:=s.toks+1 }:=I.turnedNew (t':=s.toks+1) (ch:=[e,it]) (kW _)
   (λc ob hc q=>by simp only[jN,gc,or_false,not_or] at hc;exact hs''.extBut _ _ hc.1 (hk c ob hc.1 hc.2 q))
   (λc hc=>hf c hc) ⟨by show 2<=sizeLine;decide,[.int i s.toks,u],.cons ⟨_,rfl⟩ (.cons ru .nil),⟨_,T'',rfl,_,rfl⟩⟩
  refine⟨.ref s.heap.objs.size,_,I1,rfl,⟨_,I.fresh,rfl,λxs' x' r1 hx'=>?_⟩,⟨⟨_,z''⟩,a2.move hs''.extBut (ma ne)⟩,λc hc=>?_⟩
  ·have e1:=I.seqB_inj r1 q1
   subst e1
   rw[hx] at hx';cases hx';rfl
  ·have:c≠s.heap.objs.size:=by
    have hlt:c<s.heap.objs.size:=by
     simp only[jN,gc,or_false] at hc
     rcases hc with rfl|rfl
     ·exact kI ee
     ·exact t1.lt
    exact kj hlt
   rw[m9 this];exact (hf c hc).1
 done:=by
  intro X hP hw hK hc i Z9 s σ H E I hf st hg
  subst hP hw hK
  obtain⟨xs,q1,hx⟩:=hg
  obtain⟨⟨old,ee⟩,t1⟩:=st
  obtain⟨Z7,rv,m1,l1⟩:=I.seqB q1
  refine zD (I.ok.hd hc) ee t1 m1 (by simp;lia) λh' hk=>⟨rfl,?_⟩
  exact I.turnedL (t':=s.toks) (ch:=[it]) (λc ob hc q=>hk c ob (by simpa using hc) q) (λc hc=>hf c (by simp at hc;simp[hc]))
 self:=λ_ _ _ _ _ st h=>eN st.1.choose_spec h
section
variable {X:Cx}
def iZ2 (K:ke)(ta:TA):TI:=λσ H R=>ta σ H λvs H1=>∃ p q a b,vs=[.ref a,.ref b]/\(∃ xs,uQ p K H1 a xs)/\(∃ ys,uQ q K H1 b ys)/\R (K9 K p q a b) H1
theorem LR {elts:List Expr}{k:Nat}{tp:Pos}{e1 e2:Expr}{ta:TA}{p pos:Pos}(hg:Gl X "zip")(hm:X.mg "zip" = none)(ha:PA X [e1,e2] ta)
  (hs:starEach [e1,e2] X.env=[(false,eval e1 X.env),(false,eval e2 X.env)])(hs2:starEach [e2] X.env=[(false,eval e2 X.env)]):PI X (.Tuple elts k tp) (.Call (.Name "zip" p) [e1,e2] [] pos) (iZ2 X.K ta):=by
 intro Z9 s σ H R I h
 refine dq (pH I hg hm bX ?_ (by decide) (by decide))
 refine aj (nV (ha pos Z9 s σ H _ I h) λus s1 ⟨vs,H1,I1,r1,q1⟩=>?_) (by rw[hs,hs2]) (by rw[hs2];rfl)
 obtain⟨p,q,a,b,e,⟨xs,hq1⟩,⟨ys,hq2⟩,kk⟩:=q1
 subst e
 obtain⟨u1,u2,rfl,ra,rb⟩:=vals2 r1
 cases ra;cases rb
 obtain⟨Z7,rv,m1,_⟩:=I1.seqB hq1
 obtain⟨jts,rw',m2,_⟩:=I1.seqB hq2
 refine vQ m1 m2 λh' zz zi zo t1 t2 hk=>fL (f0:=.none) zz ?_
 have I2:Inv X Z9 σ H1 { s1 with heap:=h' }:=I1.kept (t':=s1.toks) λc o e=>hk c o e
 refine⟨_,_,_,K9 X.K p q a b,H1,rfl,I2,ER (zipApart_new m1.lt m2.lt),⟨zz,zi,⟨_,_,zo⟩,t1,t2⟩,λc hc=>?_,kk⟩
 have hge:s1.heap.objs.size<=c:=by
  simp only[jN,gc,or_false] at hc
  rcases hc with rfl|rfl|rfl|rfl|rfl<;>first|exact kW _|exact f8 _ _
 exact I1.fpOk hge (I1.hok.fresh hge)
def iEn (K:ke)(ta:TA):TI:=λσ H R=>ta σ H λvs H1=>∃ p a,vs=[.ref a]/\(∃ xs,uQ p K H1 a xs)/\R (OB K p a) H1
theorem LS {elts:List Expr}{k:Nat}{tp:Pos}{e1:Expr}{ta:TA}{p pos:Pos}(hg:Gl X "enumerate")(hm:X.mg "enumerate" = none)(ha:PA X [e1] ta)(hs:starEach [e1] X.env=[(false,eval e1 X.env)]) :
  PI X (.Tuple elts k tp) (.Call (.Name "enumerate" p) [e1] [] pos) (iEn X.K ta):=by
 intro Z9 s σ H R I h
 refine dq (pH I hg hm PyProof.Rows.boot_enumerate ?_ (by decide) (by decide))
 refine aj (nV (ha pos Z9 s σ H _ I h) λus s1 ⟨vs,H1,I1,r1,q1⟩=>?_) (by rw[hs];rfl) rfl
 obtain⟨p,a,e,⟨xs,hq1⟩,kk⟩:=q1
 subst e
 obtain⟨u1,rfl,ra⟩:=vals1 r1
 cases ra
 obtain⟨Z7,rv,m1,_⟩:=I1.seqB hq1
 refine zO m1 λh' ee t1 hk=>eN ee ?_
 have I2:Inv X Z9 σ H1 { s1 with heap:=h' }:=I1.kept (t':=s1.toks) λc o e=>hk c o e
 refine⟨_,_,_,OB X.K p a,H1,rfl,I2,ES (kl (f7 _)),⟨⟨_,ee⟩,t1⟩,λc hc=>?_,kk⟩
 have hge:s1.heap.objs.size<=c:=by
  simp only[jN,gc,or_false] at hc
  rcases hc with rfl|rfl<;>first|exact kW _|exact f8 _ _
 exact I1.fpOk hge (I1.hok.fresh hge)
end
end L2
namespace L2
open PySem PySem.Spec PyProof.Rows
def wV (kx vx:Expr):mF->Env->Code->Sem Fin
 | .ref D,env,c=>do
  (do let kv <- eval kx env;let vv <- holding [kv] (eval vx env);standAt { kx.pos with endLine:=vx.pos.endLine,endCol:=vx.pos.endCol };holding [kv,vv] (dictSet D kv vv))
  again c
 | _,_,c=>again c
def Qf (tk tv:TE):mS->St->Hp->(Hp->Prop)->Prop:=λZ8 σ H K=>tk σ H λy H4=>tv σ H4 λv H5=>∃ Z6 k b,H5 Z8=some (.dT Z6)/\y=.ref b/\H5 b=some (.tup (k.map kV))/\Z6.length<sizeLine/\K (n5 H5 Z8 (.dT (qG Z6 k v)))
def HL (wi:TI)(g:TG)(tt:TT)(tk tv:TE) (own:Nat):TE:=wg wi g tt (Qf tk tv) (λ_=>.dT []) own
section
variable {X:Cx}{kx vx tg Z5:Expr}{Z4:List Expr}{scope:mG}{own:List Str}{pos:Pos}{wi:TI}{g:TG}{tt:TT}{tk tv:TE}
theorem GD:CKind X (.DictComp kx vx [⟨tg,Z5,Z4,0⟩] scope pos) tg Z5 Z4 scope newDict { cls:=.type "dict",data:=.dict #[] } (λ_=>.dT []) (wV kx vx) :=
 ⟨λ_ _ _=>rfl,λ_ _ _ _=>rfl,λ_ _ _=>rfl,λ_ _=>rfl,codeAny_compStart_dict,λq=>eO q,λ{_ _ _ s} I=>I.laid (a:=s.heap.objs.size) (o:=.dT []) (t':=s.toks) (λ_ _ q=>bQ _ q) (kW _) (yx s.heap I.big),λ_=>by rw[arm_eval_DictComp];rfl,rfl⟩
theorem De {Y:Cx}(hu:Y.A.units+1<cLine)(hk:PE Y kx tk)(hv:PE Y vx tv):M7 Y (wV kx vx) (Qf tk tv):=by
 intro Z9 s σ H Z8 c K I q
 unfold wV
 refine lq (lq (nV (hk _ s σ H _ I q) λky s11 ⟨v11,H11,I11,r11,q11⟩=>lq (jq (nV (hv _ s11 σ H11 _ I11 q11) λy s12 ⟨v12,H12,I12,r12,Z6,k,b,hys,hyb,hkb,hz,kk⟩=>lq (jo (jq ?_))))))
 subst hyb
 cases (show ky=Value.ref b from r11)
 obtain⟨z,hd,xs,rel,dd⟩:=Hx I12.hok hys
 have hz':xs.length<=sizeLine:=by rw[<- jH rel];exact z
 have hl:(qG Z6 k v12).length<=sizeLine:=by have:=qT Z6 k v12;lia
 have ko:=um I12.hok hkb
 refine wpAny_dictSet_heap (knd:=tupleKind (og Y.prog Y.w)) (hsz:=hz') (show Y.A.units<cLine by lia) ko dd λh' dd' hs=>?_
 obtain⟨q,es,ep,hq,h2',h3',h4',h5',h6'⟩:=dd'
 refine lg ⟨rfl,_,?_,kk⟩
 refine wX I12 (by rw[hys];exact True.intro) hs ⟨q,hq⟩ ⟨hl,hd,_,(rel.put k hkb r12).keeps λc ys ec=>?_,q,es,ep,hq,h2',h3',h4',h6'⟩
 rw[m9 (Hq ec hys (λz=>nomatch z))]
 exact ec
theorem Dl (hu:X.A.units+1<cLine)(hc:X.calm=true)(SC:CScope X scope own)(hi:PI X.nox tg Z5 wi)
  (Z2:∀ fp C s H,PG (rT X scope own fp C s H) tg g/\PTs (rT X scope own fp C s H) Z4 tt/\PE (rT X scope own fp C s H) kx tk/\PE (rT X scope own fp C s H) vx tv)
  (hs:∀ x,foldedSetIterable Z5 X.env x=pure x:=by intro _;rfl) :
  PE X.nox (.DictComp kx vx [⟨tg,Z5,Z4,0⟩] scope pos) (HL wi g tt tk tv own.length) :=
 xQ hc SC GD hi (λfp C s H=>let ⟨a,b,c,d⟩:=Z2 fp C s H;⟨a,b,De hu c d⟩) hs
end
end L2
namespace Kq
open PySem PySem.Spec PyProof.Rows L2
set_option genInjectivity true in
inductive D where
 | non|bl (b:Bool)|int (i:Int)|str (x:String)|tup (xs:List D)|lst (xs:List D)
mutual
noncomputable def D.eqv:D->D->Bool
 | .non,y=>match y with|.non=>true|_=>false
 | .bl a,y=>match y with|.bl b=>a == b|.int j=>(if a then 1 else 0) == j|_=>false
 | .int i,y=>match y with|.bl b=>i == (if b then 1 else 0)|.int b=>i == b|_=>false
 | .str a,y=>match y with|.str b=>a == b|_=>false
 | .tup a,y=>match y with|.tup b=>D.eqvs a b|_=>false
 | .lst a,y=>match y with|.lst b=>D.eqvs a b|_=>false
noncomputable def D.eqvs:List D->List D->Bool
 | [],y=>match y with|[]=>true|_ :: _=>false
 | a :: r,y=>match y with|b :: q=>D.eqv a b && D.eqvs r q|[]=>false
end
mutual
noncomputable def D.wt:D->Nat
 | .non=>0|.bl _=>0
 | .int i=>if -(2 ^ 40)<i/\i<2 ^ 40 then 41 else 151
 | .str x=>x.length
 | .tup xs=>D.wts xs
 | .lst xs=>D.wts xs
noncomputable def D.wts:List D->Nat
 | []=>0
 | a :: r=>D.wt a+1+D.wts r
end
mutual
noncomputable def D.fit:D->Bool
 | .int i=>decide (-(2 ^ 150)<i/\i<2 ^ 150)
 | .tup xs=>D.fits xs
 | .lst xs=>D.fits xs
 | _=>true
noncomputable def D.fits:List D->Bool
 | []=>true
 | a :: r=>D.fit a && D.fits r
end
set_option genInjectivity true in
inductive FV where
 | non|bl (b:Bool)|int (i:Int)|str (x:String)|tup (xs:List FV)|lst (xs:List FV)
 | scr (ns:List Int)
 | shn (d:D)
 | dct (ks:List (List Int))(vs:List FV)
 | dci (ks:List Int)(vs:List FV)
 | dcz (o:Obj)(ks:List (List Int))(vs:List FV)
 | dcn (z:Option Obj)(ks:List (List (Option Int)))(vs:List FV)
 | obj (C dx:mS)(fs:List (Str×V))(gs:List (mS×List V))
def big:Nat:=100000
inductive Mo where|imm|own|frz|ob|gst (i:Nat)(x:Str)
 deriving DecidableEq
def Mo.w:Mo->Bool|.imm=>false|.frz=>false|_=>true
def Mo.g:Mo->Bool|.gst _ _=>true|_=>false
theorem Mo.w_imm {m:Mo}(h:m.w=true):m≠.imm:=λz=>by rw[z] at h;cases h
theorem Mo.w_frz {m:Mo}(h:m.w=true):m≠.frz:=λz=>by rw[z] at h;cases h
theorem Mo.w_own {m:Mo}(h:m=.own):m.w=true:=by rw[h];rfl
abbrev Md:=List Mo
abbrev mV:=List (Option FV)
def nA:Md->Nat->Mo
 | [],_=>.imm
 | m :: _,0=>m
 | _ :: ms,n+1=>nA ms n
def lk:mV->Nat->Option FV
 | [],_=>none
 | x :: _,0=>x
 | _ :: L,n+1=>lk L n
theorem nrf {α:Sort _}{a b:α}(h:a=b):a=b:=h
theorem pL:∀ (L:mV) (i:Nat)(v:FV),lk L i=some v↔L[i]?=some (some v)
 | [],i,v=>by show (none:Option FV)=some v↔(none:Option (Option FV))=some (some v);simp
 | x :: L,0,v=>by show x=some v↔some x=some (some v);simp
 | x :: L,i+1,v=>by rw[bq];exact pL L i v
def wp {α:Type}(r:Option α)(Q:α->Prop):Prop:=match r with
 | some x=>Q x
 | none=>False
inductive Wpx {α:Type}(r:Option α)(Q:α->Prop):Prop
 | mk (x:α)(_:r=some x)(_:Q x):Wpx r Q
theorem oB {α:Type}{r:Option α}{Q:α->Prop}(h:wp r Q):Wpx r Q:=by
 cases r with
 | none=>exact h.elim
 | some x=>exact⟨x,rfl,h⟩
mutual
noncomputable def qh:D->PyData
 | .non=>.none
 | .bl b=>.bool b
 | .int i=>.int i
 | .str x=>.str (j9 x)
 | .tup xs=>.tuple (dPys xs)
 | .lst xs=>.list (dPys xs)
noncomputable def dPys:List D->List PyData
 | []=>[]
 | a :: r=>qh a :: dPys r
end
def oA (ks:List (List Int)):List (List (Int ⊕ Option Str)):=ks.map λk=>k.map Sum.inl
def pQ (ks:List Int):List (Int ⊕ Option Str):=ks.map Sum.inl
def oK:Option Int->Int ⊕ Option Str
 | some i=>.inl i
 | none=>.inr none
def Hr (ks:List (List (Option Int))):List (List (Int ⊕ Option Str)):=ks.map λk=>k.map oK
def hoN (u:HO):Option Obj->HO
 | none=>u
 | some o=>.frz o u
def ScrAt (K:ke)(S:Hp)(a:mS)(ns:List Int):Prop:=(∃ o,S a=some (.frz o (.lst (ns.map V.int)))) ∨ SqL K (λ_=>none) a (ns.map V.int)
mutual
noncomputable def RV (K:ke)(S:Hp):FV->V->Prop
 | .non,v=>v=.non
 | .bl b,v=>v=.bl b
 | .int i,v=>v=.int i
 | .str x,v=>v=.str (j9 x)
 | .tup ps,v=>∃ a xs,v=.ref a/\S a=some (.tup xs)/\RVs K S ps xs
 | .lst ps,v=>∃ a xs,v=.ref a/\S a=some (.lst xs)/\RVs K S ps xs
 | .scr ns,v=>∃ a,v=.ref a/\ScrAt K S a ns
 | .shn d,v=>v=.str (qh d).shown
 | .dct ks vs,v=>∃ a xs,v=.ref a/\ks.length=vs.length/\S a=some (.dT ((oA ks).zip xs))/\RVs K S vs xs
 | .dci ks vs,v=>∃ a xs,v=.ref a/\ks.length=vs.length/\S a=some (.dK ((pQ ks).zip xs))/\RVs K S vs xs
 | .dcz o ks vs,v=>∃ a xs,v=.ref a/\ks.length=vs.length/\S a=some (.frz o (.dT ((oA ks).zip xs)))/\RVs K S vs xs
 | .dcn z ks vs,v=>∃ a xs,v=.ref a/\ks.length=vs.length/\S a=some (hoN (.dT ((Hr ks).zip xs)) z)/\RVs K S vs xs
 | .obj C dx fs gs,v=>∃ a,v=.ref a/\S a=some (.big C dx fs gs)
noncomputable def RVs (K:ke)(S:Hp):List FV->List V->Prop
 | [],vs=>vs=[]
 | p :: ps,vs=>∃ v r,vs=v :: r/\RV K S p v/\RVs K S ps r
end
mutual
theorem RV.mono {K:ke}{S S':Hp}(x:Same S S'):∀ {p:FV}{v:V},RV K S p v->RV K S' p v
 | .non,v,h=>h
 | .bl b,v,h=>h
 | .int i,v,h=>h
 | .str _,v,h=>h
 | .shn _,v,h=>h
 | .tup ps,v,q1=>by obtain⟨a,xs,e,h1,h2⟩:=q1;exact⟨a,xs,e,x _ _ h1,RVs.mono x h2⟩
 | .lst ps,v,q2=>by obtain⟨a,xs,e,h1,h2⟩:=q2;exact⟨a,xs,e,x _ _ h1,RVs.mono x h2⟩
 | .dct ks vs,v,q3=>by obtain⟨a,xs,e,h0,h1,h2⟩:=q3;exact⟨a,xs,e,h0,x _ _ h1,RVs.mono x h2⟩
 | .dci ks vs,v,q4=>by obtain⟨a,xs,e,h0,h1,h2⟩:=q4;exact⟨a,xs,e,h0,x _ _ h1,RVs.mono x h2⟩
 | .dcz o ks vs,v,q5=>by obtain⟨a,xs,e,h0,h1,h2⟩:=q5;exact⟨a,xs,e,h0,x _ _ h1,RVs.mono x h2⟩
 | .dcn z ks vs,v,q6=>by obtain⟨a,xs,e,h0,h1,h2⟩:=q6;exact⟨a,xs,e,h0,x _ _ h1,RVs.mono x h2⟩
 | .obj _ _ _ _,v,q7=>by obtain⟨a,e,h⟩:=q7;exact⟨a,e,x _ _ h⟩
 | .scr ns,v,q8=>by obtain⟨a,e,h⟩:=q8;exact⟨a,e,h.elim (λq9=>by obtain⟨o,h⟩:=q9;exact .inl ⟨o,x _ _ h⟩) .inr⟩
theorem RVs.mono {K:ke}{S S':Hp}(x:Same S S'):∀ {ps:List FV}{vs:List V},RVs K S ps vs->RVs K S' ps vs
 | [],vs,h=>h
 | p :: ps,vs,q1=>by obtain⟨v,r,e,h1,h2⟩:=q1;exact⟨v,r,e,RV.mono x h1,RVs.mono x h2⟩
end
section
variable {K:ke}{S H:Hp}
theorem RVs.length:∀ {ps:List FV}{vs:List V},RVs K S ps vs->ps.length=vs.length
 | [],vs,h=>by cases (show vs=[] from h);rfl
 | p :: ps,vs,h=>by
  obtain⟨v,r,e,_,h2⟩:=h
  subst e
  rw[gm,gm,RVs.length h2]
theorem RVs.get:∀ {ps:List FV}{vs:List V}{i:Nat}{p:FV},RVs K S ps vs->ps[i]?=some p->∃ v,vs[i]?=some v/\RV K S p v
 | [],vs,i,p,_,e=>by simp at e
 | q :: ps,vs,0,p,q1,e=>by
  obtain⟨v,r,e',h1,_⟩:=q1
  subst e'
  simp at e;subst e
  exact⟨v,rfl,h1⟩
 | q :: ps,vs,i+1,p,q2,e=>by
  obtain⟨v,r,e',_,h2⟩:=q2
  subst e'
  simpa using RVs.get (i:=i) (p:=p) h2 (by simpa using e)
theorem RVs.append:∀ {ps qs:List FV}{vs us:List V},RVs K S ps vs->RVs K S qs us->RVs K S (ps++qs) (vs++us)
 | [],qs,vs,us,h,g=>by cases (show vs=[] from h);exact g
 | p :: ps,qs,vs,us,q1,g=>by
  obtain⟨v,r,e,h1,h2⟩:=q1
  subst e
  exact⟨v,r++us,rfl,h1,RVs.append h2 g⟩
theorem RVs.one {p:FV}{v:V}(h:RV K S p v):RVs K S [p] [v]:=⟨v,[],rfl,h,rfl⟩
theorem RVs.take:∀ {ps:List FV}{vs:List V} (n:Nat),RVs K S ps vs->RVs K S (ps.take n) (vs.take n)
 | [],vs,n,h=>by cases (show vs=[] from h);rw[jL,jL];rfl
 | p :: ps,vs,0,h=>rfl
 | p :: ps,vs,n+1,q1=>by
  obtain⟨v,r,e,h1,h2⟩:=q1
  subst e
  exact⟨v,r.take n,rfl,h1,RVs.take n h2⟩
theorem RVs.drop:∀ {ps:List FV}{vs:List V} (n:Nat),RVs K S ps vs->RVs K S (ps.drop n) (vs.drop n)
 | [],vs,n,h=>by cases (show vs=[] from h);rw[jR,jR];rfl
 | p :: ps,vs,0,h=>h
 | p :: ps,vs,n+1,q1=>by
  obtain⟨v,r,e,h1,h2⟩:=q1
  subst e
  exact RVs.drop n h2
theorem RVs.set:∀ {ps:List FV}{vs:List V} (n:Nat){p:FV}{v:V},RVs K S ps vs->RV K S p v->RVs K S (ps.set n p) (vs.set n v)
 | [],vs,n,p,v,h,_=>by cases (show vs=[] from h);rfl
 | q :: ps,vs,0,p,v,q1,g=>by
  obtain⟨v',r,e,h1,h2⟩:=q1
  subst e
  exact⟨v,r,rfl,g,h2⟩
 | q :: ps,vs,n+1,p,v,q2,g=>by
  obtain⟨v',r,e,h1,h2⟩:=q2
  subst e
  exact⟨v',r.set n v,rfl,h1,RVs.set n h2 g⟩
theorem RVs.rev:∀ {ps:List FV}{vs:List V},RVs K S ps vs->RVs K S ps.reverse vs.reverse
 | [],vs,h=>by cases (show vs=[] from h);exact h
 | p :: ps,vs,q1=>by
  obtain⟨v,r,e,h1,h2⟩:=q1
  subst e
  rw[fq,fq]
  exact (RVs.rev h2).append (RVs.one h1)
theorem RVs.rep {ps:List FV}{vs:List V}(h:RVs K S ps vs):∀ k:Nat,RVs K S (jc k ps).flatten (jc k vs).flatten
 | 0=>rfl
 | k+1=>by
  rw[cZ,cZ,fy,fy]
  exact h.append (h.rep k)
theorem RVs.ns:∀ (ns:List Int),RVs K S (ns.map .int) (ns.map V.int)
 | []=>rfl
 | n :: ns=>⟨_,_,rfl,rfl,RVs.ns ns⟩
theorem RVs.one_of {p:FV}{us:List V}(h:RVs K S [p] us):∃ u,us=[u]/\RV K S p u:=by
 obtain⟨v,r,rfl,h1,h2⟩:=h
 cases (show r=[] from h2)
 exact⟨v,rfl,h1⟩
theorem RVs.two_of {p q:FV}{us:List V}(h:RVs K S [p,q] us):∃ u v,us=[u,v]/\RV K S p u/\RV K S q v:=by
 obtain⟨v,r,rfl,h1,h2⟩:=h
 obtain⟨u,rfl,h3⟩:=h2.one_of
 exact⟨v,u,rfl,h1,h3⟩
def IM:FV->Option (List FV)
 | .lst ps=>some ps
 | .dct ks vs=>if ks.length=vs.length then some vs else none
 | .dci ks vs=>if ks.length=vs.length then some vs else none
 | .dcz _ ks vs=>if ks.length=vs.length then some vs else none
 | .dcn _ ks vs=>if ks.length=vs.length then some vs else none
 | .obj _ _ _ _=>some []
 | _=>none
def Fu:FV->List V->HO
 | .dct ks _,xs=>.dT ((oA ks).zip xs)
 | .dci ks _,xs=>.dK ((pQ ks).zip xs)
 | .dcz o ks _,xs=>.frz o (.dT ((oA ks).zip xs))
 | .dcn z ks _,xs=>hoN (.dT ((Hr ks).zip xs)) z
 | .obj C dx fs gs,_=>.big C dx fs gs
 | _,xs=>.lst xs
inductive OwnAt (K:ke)(S H:Hp)(a:mS)(v:FV):Prop
 | mk (_:S a=none)(ps:_)(xs:_)(_:IM v=some ps)(_:H a=some (Fu v xs))(_:RVs K S ps xs):OwnAt K S H a v
def RH (K:ke)(S H:Hp)(v:FV)(x:V):Prop:=RV K S v x ∨ ∃ a,x=.ref a/\OwnAt K S H a v
theorem RH.lst {ps:List FV}{x:V}(s:Same S H)(h:RH K S H (.lst ps) x):∃ a xs,x=.ref a/\H a=some (.lst xs)/\RVs K S ps xs:=by
 rcases h with⟨a,xs,e,h1,h2⟩|⟨a,e,_,qs,xs,e2,h1,h2⟩
 ·exact⟨a,xs,e,s _ _ h1,h2⟩
 ·cases e2;exact⟨a,xs,e,h1,h2⟩
theorem RH.val {v:FV}{x:V}(h:RH K S H v x)(n:IM v=none):RV K S v x:=by
 rcases h with h|⟨a,_,_,ps,xs,e,_⟩
 ·exact h
 ·rw[n] at e;cases e
theorem RH.tup {ps:List FV}{x:V}(s:Same S H)(h:RH K S H (.tup ps) x):∃ a xs,x=.ref a/\H a=some (.tup xs)/\RVs K S ps xs:=by
 obtain⟨a,xs,e,h1,h2⟩:=h.val rfl
 exact⟨a,xs,e,s _ _ h1,h2⟩
theorem ScrAt.sq {a:mS}{ns:List Int}(s:Same S H)(h:ScrAt K S a ns):SqL K H a (ns.map V.int):=by
 rcases h with⟨o,h⟩|h
 ·exact .inl (.inr ⟨o,s _ _ h⟩)
 ·rcases h with (h|⟨o,h⟩)|h
  ·cases h
  ·cases h
  ·exact .inr h
def oF:FV->Option (List FV)
 | .lst xs=>some xs
 | .scr ns=>some (ns.map .int)
 | _=>none
def oV:FV->Option (List FV)
 | .tup xs=>some xs
 | v=>oF v
theorem RH.list {v:FV}{ps:List FV}{x:V}(s:Same S H)(h:RH K S H v x)(e:oF v=some ps):∃ a xs,x=.ref a/\SqL K H a xs/\RVs K S ps xs:=by
 cases v with
 | lst qs =>
  cases e
  obtain⟨a,xs,rfl,h1,h2⟩:=h.lst s
  exact⟨a,xs,rfl,SqL.of h1,h2⟩
 | scr ns =>
  cases e
  obtain⟨a,rfl,g⟩:=h.val rfl
  exact⟨a,_,rfl,ScrAt.sq s g,RVs.ns ns⟩
 | _=>cases e
def NB:FV->Bool
 | .tup _=>false
 | _=>true
theorem RH.seq {v:FV}{ps:List FV}{x:V}(s:Same S H)(h:RH K S H v x)(e:oV v=some ps):∃ a xs,x=.ref a/\uQ (NB v) K H a xs/\RVs K S ps xs:=by
 cases v with
 | tup qs =>
  cases e
  obtain⟨a,xs,rfl,h1,h2⟩:=h.tup s
  exact⟨a,xs,rfl,SqT.of h1,h2⟩
 | lst qs=>exact h.list s e
 | scr qs=>exact h.list s e
 | _=>cases e
end
def sg:HO->Bool
 | .tup _=>true
 | _=>false
theorem tE (v:FV)(xs:List V):sg (Fu v xs)=false:=by
 cases v with
 | dcn z ks vs=>cases z<;>rfl
 | _=>rfl
structure Cn where
 H0:Hp
 S0:Hp
 P0:Option mS
 fz:List (Nat×mS)
 pr:List (mS×HO)
 P1:List (Nat×mS)
structure Iv (K:ke)(c:Cn)(md:Md)(L:mV)(σ:L2.St)(S H:Hp):Prop where
 len:L.length=σ.length
 imm:∀ i v,nA md i=.imm->L[i]?=some (some v)->∃ x,σ[i]?=some (some x)/\RV K S v x
 own:∀ i v,nA md i≠.imm->L[i]?=some (some v)->∃ a,σ[i]?=some (some (.ref a))/\OwnAt K S H a v/\(c.P0=some a ∨ c.H0 a=none ∨ ∃ j,(j,a)∈c.P1)
 dis:∀ i j v w a,nA md i≠.imm->nA md j≠.imm->L[i]?=some (some v)->L[j]?=some (some w)->σ[i]?=some (some (.ref a))->σ[j]?=some (some (.ref a))->i=j
 sub:Same S H
 frame:∀ a o,c.H0 a=some o->c.P0≠some a->(∀ j,(j,a) ∉ c.P1)->H a=some o
 s0:Same c.S0 S
 grow:∀ a o,S a=some o->c.S0 a=some o ∨ c.H0 a=none ∨ sg o=true
 lent:∀ a,c.P0=some a->nA md 0≠.imm/\σ[0]?=some (some (.ref a))/\∃ v,L[0]?=some (some v)
 fzs:∀ p∈c.fz,nA md p.1=.frz/\σ[p.1]?=some (some (.ref p.2))/\∃ v,L[p.1]?=some (some v)
 fzm:∀ i v,nA md i=.frz->L[i]?=some (some v)->∃ a,(i,a)∈c.fz
 fzp:∀ p∈c.fz,∃ o,(p.2,o)∈c.pr
 prs:∀ p∈c.pr,H p.1=some p.2/\S p.1=none/\∀ i v,(nA md i).w=true->L[i]?=some (some v)->σ[i]?≠some (some (.ref p.1))
 ntp:∀ p∈c.pr,sg p.2=false
 lnt1:∀ q∈c.P1,(nA md q.1).g=true/\σ[q.1]?=some (some (.ref q.2))/\∃ v,L[q.1]?=some (some v)
 tie:∀ j i x C dx fs v,nA md j=.gst i x->nA md i=.ob->L[i]?=some (some (.obj C dx fs []))->L[j]?=some (some v)->∃ u,fs.lookup x=some u/\σ[j]?=some (some u)
section
variable {K:ke}{c:Cn}{md:Md}{L:mV}{σ:L2.St}{S H S' H':Hp}
theorem Iv.h0 (I:Iv K c md L σ S H){p:mS}(h:H p=none):c.H0 p=none:=by
 cases e:c.H0 p with
 | none=>rfl
 | some o =>
  by_cases z:c.P0=some p
  ·obtain⟨m,e1,v,e2⟩:=I.lent p z
   obtain⟨a,e3,⟨_,_,_,_,e4,_⟩,_⟩:=I.own 0 v m e2
   rw[e1] at e3;cases e3
   rw[h] at e4;cases e4
  ·by_cases z1:∃ j,(j,p)∈c.P1
   ·obtain⟨j,hj⟩:=z1
    obtain⟨g,e1,v,e2⟩:=I.lnt1 _ hj
    obtain⟨a,e3,⟨_,_,_,_,e4,_⟩,_⟩:=I.own j v (λz=>by rw[z] at g;cases g) e2
    rw[e1] at e3;cases e3
    rw[h] at e4;cases e4
   ·rw[I.frame p o e z λj hj=>z1 ⟨j,hj⟩] at h;cases h
theorem Iv.sn (I:Iv K c md L σ S H){p:mS}(h:H p=none):S p=none:=by
 cases e:S p with
 | none=>rfl
 | some o=>rw[I.sub p o e] at h;cases h
theorem Iv.go3 (I:Iv K c md L σ S H)(s:Same S S')(sub:Same S' H')(g:∀ a o,S' a=some o->S a=some o ∨ H a=none ∨ sg o=true)(k:∀ a o,H a=some o->H' a=some o):Iv K c md L σ S' H' where
 len:=I.len
 imm:=λi v h e=>let ⟨x,e1,r⟩:=I.imm i v h e;⟨x,e1,r.mono s⟩
 own:=λi v h e=>by
  obtain⟨a,e1,⟨h1,ps,xs,e2,h2,h3⟩,h4⟩:=I.own i v h e
  refine⟨a,e1,⟨?_,ps,xs,e2,k _ _ h2,h3.mono s⟩,h4⟩
  cases q:S' a with
  | none=>rfl
  | some o =>
   rcases g a o q with z|z|z
   ·rw[h1] at z;cases z
   ·rw[h2] at z;cases z
   ·have:=sub a o q
    rw[k _ _ h2] at this
    rw[<- gX this,tE] at z;cases z
 dis:=I.dis
 sub:=sub
 frame:=λa o h n n1=>k _ _ (I.frame a o h n n1)
 s0:=I.s0.trans s
 grow:=λa o h=>(g a o h).elim (I.grow a o) λz=>z.elim (λz=>.inr (.inl (I.h0 z))) λz=>.inr (.inr z)
 lent:=I.lent
 fzs:=I.fzs
 fzm:=I.fzm
 fzp:=I.fzp
 prs:=λp hp=>by
  obtain⟨h1,h2,h3⟩:=I.prs p hp
  refine⟨k _ _ h1,?_,h3⟩
  cases q:S' p.1 with
  | none=>rfl
  | some o =>
   rcases g _ o q with z|z|z
   ·rw[h2] at z;cases z
   ·rw[h1] at z;cases z
   ·have:=sub _ o q
    rw[k _ _ h1] at this
    rw[<- gX this,I.ntp p hp] at z;cases z
 ntp:=I.ntp
 lnt1:=I.lnt1
 tie:=I.tie
theorem Iv.go (I:Iv K c md L σ S H)(s:Same S S')(sub:Same S' H')(g:∀ a o,S' a=some o->S a=some o ∨ H a=none)(k:∀ a o,H a=some o->H' a=some o):Iv K c md L σ S' H':=I.go3 s sub (λa o e=>(g a o e).imp_right .inl) k
theorem nH {p:mS}{o:HO}(h:H p=none):Same H (n5 H p o):=λa u e=>by rw[m9 (nQ e h)];exact e
theorem Iv.new (I:Iv K c md L σ S H){p:mS}(h:H p=none)(o:HO):Iv K c md L σ (n5 S p o) (n5 H p o) :=
 I.go (nH (I.sn h)) (λa u e=>by
  by_cases z:a=p
  ·subst z;rw[nz] at e ⊢;exact e
  ·rw[m9 z] at e ⊢;exact I.sub a u e) (λa u e=>by
  by_cases z:a=p
  ·subst z;exact .inr h
  ·rw[m9 z] at e;exact .inl e) (nH h)
theorem Iv.lay (I:Iv K c md L σ S H){p:mS}(h:H p=none)(o:HO):Iv K c md L σ S (n5 H p o) :=
 I.go (Same.refl S) (I.sub.trans (nH h)) (λa u e=>.inl e) (nH h)
theorem Iv.back4 (I:Iv K c md L σ S H){i:Nat}{v w:FV}{a:mS}(m:(nA md i).w=true)(e:L[i]?=some (some v))(e1:σ[i]?=some (some (.ref a)))(s:Same S S')(sub:Same S' H')(g:∀ a o,S' a=some o->S a=some o ∨ H a=none ∨ sg o=true)
  (k:∀ b o,H b=some o->b≠a->H' b=some o)(new:OwnAt K S' H' a w)(ht:∀ j x C dx fs u,nA md j=.gst i x->nA md i=.ob->w=.obj C dx fs []->L[j]?=some (some u)->∃ u,fs.lookup x=some u/\σ[j]?=some (some u)):Iv K c md (L.set i (some w)) σ S' H':=by
 have mi:=Mo.w_imm m
 have hi:=(aI.mp e).1
 obtain⟨a',e1',⟨h1,qs,ys,_,h2,h3⟩,h4⟩:=I.own i v mi e
 rw[e1] at e1';cases e1'
 have look:∀ j u,(L.set i (some w))[j]?=some (some u)->(j=i/\u=w) ∨ (j≠i/\L[j]?=some (some u)):=λj u z=>by
  by_cases q:j=i
  ·subst q;rw[bN hi] at z;cases z;exact .inl ⟨rfl,rfl⟩
  ·rw[cK (ma q)] at z;exact .inr ⟨q,z⟩
 have lookx:∀ j,(∃ u,L[j]?=some (some u))->∃ u,(L.set i (some w))[j]?=some (some u):=λj h=>by
  obtain⟨u,z⟩:=h
  by_cases q:j=i
  ·subst q;exact⟨_,bN hi⟩
  ·exact⟨u,by rw[cK (ma q)];exact z⟩
 have old:∀ j u,(L.set i (some w))[j]?=some (some u)->∃ u,L[j]?=some (some u):=λj u z=>(look j u z).elim (λq=>⟨v,by rw[q.1];exact e⟩) λq=>⟨u,q.2⟩
 refine⟨by rw[im];exact I.len,λj u hm z=>?_,λj u hm z=>?_,λj k u u2 b m1 m2 z1 z2=>?_,sub,λb o z n n1=>?_,I.s0.trans s,λb o z=>(g b o z).elim (I.grow b o) λz=>z.elim (λz=>.inr (.inl (I.h0 z))) λz=>.inr (.inr z),λb z=>?_,λp hp=>?_,λj u hm z=>?_,I.fzp,λp hp=>?_,I.ntp,λq hq=>?_,λj i' x C dx fs u h1 h2 h3 h4=>?_⟩
 ·rcases look j u z with⟨q,_⟩|⟨_,z⟩
  ·rw[q] at hm;exact absurd hm mi
  ·obtain⟨x,f1,f2⟩:=I.imm j u hm z
   exact⟨x,f1,f2.mono s⟩
 ·rcases look j u z with⟨rfl,rfl⟩|⟨q,z⟩
  ·exact⟨a,e1,new,h4⟩
  ·obtain⟨b,f1,⟨g1,rs,zs,g2,g3,g4⟩,g5⟩:=I.own j u hm z
   have hb:b≠a:=λy=>by subst y;exact q (I.dis j i u v b hm mi z e f1 e1)
   refine⟨b,f1,⟨?_,rs,zs,g2,k b _ g3 hb,g4.mono s⟩,g5⟩
   cases q':S' b with
   | none=>rfl
   | some o =>
    rcases g b o q' with z|z|z
    ·rw[g1] at z;cases z
    ·rw[g3] at z;cases z
    ·have:=sub b o q'
     rw[k b _ g3 hb] at this
     rw[<- gX this,tE] at z;cases z
 ·obtain⟨w',z1⟩:=old j u z1
  obtain⟨u',z2⟩:=old k u2 z2
  exact I.dis j k w' u' b m1 m2 z1 z2
 ·refine k b o (I.frame b o z n n1) λy=>?_
  subst y
  rcases h4 with y|y|⟨j,y⟩
  ·exact n y
  ·rw[z] at y;cases y
  ·exact n1 j y
 ·obtain⟨g1,g2,g3⟩:=I.lent b z
  exact⟨g1,g2,lookx 0 g3⟩
 ·obtain⟨g1,g2,g4⟩:=I.fzs p hp
  exact⟨g1,g2,lookx _ g4⟩
 ·rcases look j u z with⟨q,_⟩|⟨_,z⟩
  ·rw[q] at hm;exact absurd hm (Mo.w_frz m)
  ·exact I.fzm j u hm z
 ·obtain⟨g1,g2,g3⟩:=I.prs p hp
  have kp:=k _ _ g1 λy=>g3 i v m e (by rw[y];exact e1)
  refine⟨kp,?_,λj u hm z=>let ⟨u',z'⟩:=old j u z;g3 j u' hm z'⟩
  cases q':S' p.1 with
  | none=>rfl
  | some o =>
   rcases g _ o q' with z|z|z
   ·rw[g2] at z;cases z
   ·rw[g1] at z;cases z
   ·have:=sub _ o q'
    rw[kp] at this
    rw[<- gX this,I.ntp p hp] at z;cases z
 ·obtain⟨g1,g2,g3⟩:=I.lnt1 q hq
  exact⟨g1,g2,lookx _ g3⟩
 ·obtain⟨u',h4'⟩:=old j u h4
  rcases look i' _ h3 with⟨rfl,e9⟩|⟨_,h3⟩
  ·exact ht j x C dx fs u' h1 h2 e9.symm h4'
  ·exact I.tie j i' x C dx fs u' h1 h2 h3 h4'
theorem Iv.back3 (I:Iv K c md L σ S H){i:Nat}{v w:FV}{a:mS}(m:nA md i=.own)(e:L[i]?=some (some v))(e1:σ[i]?=some (some (.ref a)))(s:Same S S')(sub:Same S' H')(g:∀ a o,S' a=some o->S a=some o ∨ H a=none ∨ sg o=true)
  (k:∀ b o,H b=some o->b≠a->H' b=some o)(new:OwnAt K S' H' a w):Iv K c md (L.set i (some w)) σ S' H':=I.back4 (Mo.w_own m) e e1 s sub g k new λ_ _ _ _ _ _ _ z=>by rw[m] at z;cases z
theorem Iv.back (I:Iv K c md L σ S H){i:Nat}{v w:FV}{a:mS}(m:nA md i=.own)(e:L[i]?=some (some v))(e1:σ[i]?=some (some (.ref a)))(s:Same S S')(sub:Same S' H')(g:∀ a o,S' a=some o->S a=some o ∨ H a=none)
  (k:∀ b o,H b=some o->b≠a->H' b=some o)(new:OwnAt K S' H' a w):Iv K c md (L.set i (some w)) σ S' H':=I.back3 m e e1 s sub (λa o e=>(g a o e).imp_right .inl) k new
theorem Iv.write (I:Iv K c md L σ S H){i:Nat}{v:FV}{a:mS}{ps:List FV}{xs:List V}(m:nA md i=.own)(e:L[i]?=some (some v))(e1:σ[i]?=some (some (.ref a)))(r:RVs K S ps xs) :
  Iv K c md (L.set i (some (.lst ps))) σ S (n5 H a (.lst xs)):=by
 obtain⟨a',e1',⟨h1,_⟩,_⟩:=I.own i v (λz=>by rw[m] at z;cases z) e
 rw[e1] at e1';cases e1'
 exact I.back m e e1 (Same.refl S) (λb o z=>by rw[m9 λy=>by subst y;rw[h1] at z;cases z];exact I.sub b o z) (λb o z=>.inl z) (λb o z n=>by rw[m9 n];exact z) ⟨h1,ps,xs,rfl,nz,r⟩
theorem Iv.set (I:Iv K c md L σ S H){i:Nat}{v:FV}{x:V}(ni:∀ a,c.P0=some a->i≠0)(nf:nA md i≠.frz)(h:(nA md i=.imm/\RV K S v x) ∨ (nA md i=.own/\∃ a,x=.ref a/\OwnAt K S H a v/\c.H0 a=none/\(∀ p∈c.pr,p.1≠a)/\∀ j w,j≠i->nA md j≠.imm->L[j]?=some (some w)->σ[j]?≠some (some (.ref a)))) :
  Iv K c md (L.set i (some v)) (σ.set i (some x)) S H:=by
 have look:∀ j w,(L.set i (some v))[j]?=some (some w)->(j=i/\w=v/\(σ.set i (some x))[j]?=some (some x)) ∨ (j≠i/\L[j]?=some (some w)/\(σ.set i (some x))[j]?=σ[j]?):=λj w z=>by
  by_cases q:j=i
  ·subst q
   have hj:j<L.length:=by have:=(aI.mp z).1;rwa [im] at this
   rw[bN hj] at z;cases z
   exact .inl ⟨rfl,rfl,by rw[bN (by rw[<- I.len];exact hj)]⟩
  ·rw[cK (ma q)] at z
   exact .inr ⟨q,z,cK (ma q)⟩
 have far:∀ j,j≠i->(L.set i (some v))[j]?=L[j]?/\(σ.set i (some x))[j]?=σ[j]?:=λj q=>⟨cK (ma q),cK (ma q)⟩
 refine⟨by rw[im,im];exact I.len,λj w hm z=>?_,λj w hm z=>?_,λj k w u b m1 m2 z1 z2 y1 y2=>?_,I.sub,I.frame,I.s0,I.grow,λb z=>?_,λp hp=>?_,λj w hm z=>?_,I.fzp,λp hp=>?_,I.ntp,λq hq=>?_,λj k y C dx fs u h1 h2 h3 h4=>?_⟩
 ·rcases look j w z with⟨rfl,rfl,y⟩|⟨q,z,y⟩
  ·rcases h with⟨_,r⟩|⟨hm',_⟩
   ·exact⟨x,y,r⟩
   ·rw[hm] at hm';cases hm'
  ·rw[y];exact I.imm j w hm z
 ·rcases look j w z with⟨rfl,rfl,y⟩|⟨q,z,y⟩
  ·rcases h with⟨hm',_⟩|⟨_,a,rfl,o,h0,_,_⟩
   ·exact absurd hm' hm
   ·exact⟨a,y,o,.inr (.inl h0)⟩
  ·rw[y];exact I.own j w hm z
 ·rcases look j w z1 with⟨p1,p2,p3⟩|⟨p1,p2,p3⟩
  ·rcases look k u z2 with⟨q1,q2,q3⟩|⟨q1,q2,q3⟩
   ·rw[p1,q1]
   ·rcases h with⟨hm',_⟩|⟨_,a,rfl,_,_,_,n⟩
    ·rw[p1] at m1;exact absurd hm' m1
    ·rw[p3] at y1;cases y1
     rw[q3] at y2
     exact absurd y2 (n k u q1 m2 q2)
  ·rw[p3] at y1
   rcases look k u z2 with⟨q1,q2,q3⟩|⟨q1,q2,q3⟩
   ·rcases h with⟨hm',_⟩|⟨_,a,rfl,_,_,_,n⟩
    ·rw[q1] at m2;exact absurd hm' m2
    ·rw[q3] at y2;cases y2
     exact absurd y1 (n j w p1 m1 p2)
   ·rw[q3] at y2
    exact I.dis j k w u b m1 m2 p2 q2 y1 y2
 ·obtain⟨g1,g2,g3⟩:=I.lent b z
  obtain⟨f1,f2⟩:=far 0 (ma (ni b z))
  rw[f1,f2];exact⟨g1,g2,g3⟩
 ·obtain⟨g1,g2,g4⟩:=I.fzs p hp
  obtain⟨f1,f2⟩:=far p.1 λy=>nf (by rw[<- y];exact g1)
  rw[f1,f2];exact⟨g1,g2,g4⟩
 ·rcases look j w z with⟨rfl,_,_⟩|⟨_,z,_⟩
  ·exact absurd hm nf
  ·exact I.fzm j w hm z
 ·obtain⟨g1,g2,g3⟩:=I.prs p hp
  refine⟨g1,g2,λj w hm z=>?_⟩
  rcases look j w z with⟨q1,q2,q3⟩|⟨q1,q2,q3⟩
  ·rcases h with⟨hm',_⟩|⟨_,a,rfl,_,_,n,_⟩
   ·rw[q1,hm'] at hm;cases hm
   ·rw[q3];exact λy=>n p hp (by cases y;rfl)
  ·rw[q3];exact g3 j w hm q2
 ·obtain⟨g1,g2,g3⟩:=I.lnt1 q hq
  obtain⟨f1,f2⟩:=far q.1 λy=>by
   rw[y] at g1
   rcases h with⟨hm',_⟩|⟨hm',_⟩<;>rw[hm'] at g1<;>cases g1
  rw[f1,f2];exact⟨g1,g2,g3⟩
 ·have n1:j≠i:=λy=>by
   rw[y] at h1
   rcases h with⟨hm',_⟩|⟨hm',_⟩<;>rw[hm'] at h1<;>cases h1
  have n2:k≠i:=λy=>by
   rw[y] at h2
   rcases h with⟨hm',_⟩|⟨hm',_⟩<;>rw[hm'] at h2<;>cases h2
  rw[(far j n1).1] at h4
  rw[(far k n2).1] at h3
  rw[(far j n1).2]
  exact I.tie j k y C dx fs u h1 h2 h3 h4
end
end Kq
namespace Kq
def pN {α β:Type}(f:α->Option β):List α->Option (List β)
 | []=>some []
 | x :: xs=>(f x).bind λy=>(pN f xs).map (y :: ·)
def fD:Nat->FV->Option D
 | 0,_=>none
 | n+1,v=>match v with
  | .non=>some .non
  | .bl b=>some (.bl b)
  | .int i=>some (.int i)
  | .str x=>some (.str x)
  | .tup xs=>(pN (fD n) xs).map .tup
  | .lst xs=>(pN (fD n) xs).map .lst
  | .scr _=>none
  | .shn _=>none
  | .dct _ _=>none
  | .dci _ _=>none
  | .dcz _ _ _=>none
  | .obj _ _ _ _=>none|.dcn _ _ _=>none
def nB:Nat:=40
def sv:FV->Option Bool
 | .non=>some false
 | .bl b=>some b
 | .int i=>some (i != 0)
 | .str _=>none
 | .tup xs=>some (!xs.isEmpty)
 | .lst xs=>some (!xs.isEmpty)
 | .scr xs=>some (!xs.isEmpty)
 | .shn _=>none
 | .dct _ _=>none
 | .dci _ _=>none
 | .dcz _ _ _=>none
 | .obj _ _ _ _=>none|.dcn _ _ _=>none
def pM:FV->Option Int|.int i=>some i|_=>none
def MV:FV->Option Bool|.bl b=>some b|_=>none
def qL:FV->Option (List FV)|.tup xs=>some xs|_=>none
def t6:FV->Option (List FV)|.lst xs=>some xs|_=>none
def small (i:Int):Bool:=decide (-(2 ^ 64)<i/\i<2 ^ 64)
def oJ (i:Int):Bool:=decide (-(2 ^ 62)<=i/\i<2 ^ 62)
def tu (i:Int):Bool:=decide (-(2 ^ 40)<=i/\i<=2 ^ 40)
def eqD (a b:FV):Option Bool:=(fD nB a).bind λx=>(fD nB b).bind λy=>some (D.eqv x y)
def sU (a b:FV):Option Bool:=match a,b with
 | .shn x,.shn y=>open Classical in if x=y then some true else none
 | a,b=>eqD a b
def inD:D->D->Option Bool
 | x,.lst xs=>some (xs.any λy=>D.eqv y x)
 | x,.tup xs=>some (xs.any λy=>D.eqv y x)
 | _,_=>none
def DW (a b:FV):Option Bool:=(fD nB a).bind λx=>(fD nB b).bind λy=>inD x y
def nR:List FV->Option (List Int)
 | []=>some []
 | .int i :: r=>(nR r).map (i :: ·)
 | _=>none
def rS:List FV->Option (List Bool)
 | []=>some []
 | .bl b :: r=>(rS r).map (b :: ·)
 | _=>none
def lexLt:List Int->List Int->Bool
 | [],[]=>false
 | [],_ :: _=>true
 | _ :: _,[]=>false
 | a :: r,b :: q=>if a=b then lexLt r q else decide (a<b)
def lexLe:List Int->List Int->Bool
 | [],[]=>true
 | [],_ :: _=>true
 | _ :: _,[]=>false
 | a :: r,b :: q=>if a=b then lexLe r q else decide (a<=b)
def pE (f:Int->Int->Option FV)(v w:FV):Option FV:=(pM v).bind λi=>(pM w).bind λj=>f i j
def m8 (v w:FV):Option FV:=match v with
 | .tup xs=>(qL w).bind λys=>if xs.length+ys.length<=big then some (.tup (xs++ys)) else none
 | .lst xs=>(t6 w).bind λys=>if xs.length+ys.length<=big then some (.lst (xs++ys)) else none
 | v=>pE (λi j=>some (.int (i+j))) v w
def uV:FV->FV->Option FV:=pE λi j=>some (.int (i-j))
def pR (v w:FV):Option FV:=match v with
 | .lst xs=>(pM w).bind λk=>if -(2 ^ 63)<=k/\k<2 ^ 63/\xs.length*k.toNat<=big then some (.lst (jc k.toNat xs).flatten) else none
 | v=>pE (λi j=>if (small i || small j)=true then some (.int (i*j)) else none) v w
def vF:FV->FV->Option FV:=pE λi j=>if 0<j/\j<1073741824 then some (.int (i / j)) else none
def t5:FV->FV->Option FV:=pE λi j=>if 0<j then some (.int (i % j)) else none
def ze:FV->FV->Option FV:=pE λi j=>if 0<=j/\j<=1000/\small i=true then some (.int (i ^ j.toNat)) else none
def qI (a b:FV):Option FV:=(sU a b).map .bl
def uY (a b:FV):Option FV:=(sU a b).map λr=>.bl (!r)
def inB (a b:FV):Option FV:=(DW a b).map .bl
def BR (v w:FV):Option FV:=match v with
 | .tup xs=>(qL w).bind λys=>(nR xs).bind λa=>(nR ys).bind λb=>some (.bl (lexLt a b))
 | v=>pE (λi j=>some (.bl (decide (i<j)))) v w
def Ht (v w:FV):Option FV:=match v with
 | .tup xs=>(qL w).bind λys=>(nR xs).bind λa=>(nR ys).bind λb=>some (.bl (lexLe a b))
 | v=>pE (λi j=>some (.bl (decide (i<=j)))) v w
def EI:FV->FV->Option FV:=pE λi j=>some (.bl (decide (j<i)))
def D0:FV->FV->Option FV:=pE λi j=>some (.bl (decide (j<=i)))
def ixN (n:Nat) (i:Int):Option Nat:=if 0<=i then (if i<n then some i.toNat else none) else if -(n:Int)<=i then some (i+n).toNat else none
def vW (xs:List FV) (i:Int):Option FV:=(ixN xs.length i).bind λj=>xs[j]?
def nK (v w:FV):Option FV:=(pM w).bind λj=>(oV v).bind λxs=>vW xs j
def vo:FV->FV->Option FV:=pE λi j=>some (.int (if j<i then j else i))
def AA:FV->FV->Option FV:=pE λi j=>some (.int (if j > i then j else i))
def qr:FV->Option FV|.non=>some (.bl true)|_=>some (.bl false)
def qR:FV->Option FV|.non=>some (.bl false)|_=>some (.bl true)
def Mn (c:Bool):FV->Option FV|.bl b=>some (.bl (b == c))|_=>some (.bl false)
def wD (c:Bool):FV->Option FV|.bl b=>some (.bl (b != c))|_=>some (.bl true)
def FH (v:FV):Option FV:=(MV v).map λb=>.bl (!b)
def BM (v:FV):Option FV:=(pM v).map λi=>.int (-i)
def ox (v:FV):Option FV:=(oV v).map λxs=>.int xs.length
def Ey (v:FV):Option FV:=(pM v).map λi=>.int (if i<0 then -i else i)
def sx:FV->Option FV|.int i=>some (.int i)|.bl b=>some (.int (if b then 1 else 0))|_=>none
def CJ (xs:List FV):Option Int:=(nR xs).bind λns=>if ns.length<=big/\ns.all tu=true then some ns.sum else none
def OQ (v:FV):Option FV:=(oF v).bind λxs=>(CJ xs).map .int
def u7 (v:FV):Option FV:=(oF v).bind λxs=>(rS xs).map λbs=>.bl (bs.all id)
def oh (b:Int):List Int->Int
 | []=>b
 | x :: r=>oh (if x<b then x else b) r
def Dv (xs:List FV):Option FV:=(nR xs).bind λns=>match ns with
 | n :: r=>some (.int (oh n r))
 | []=>none
def xZ (v:FV):Option FV:=(oF v).bind Dv
def oZ (v:FV):Option FV:=(oV v).map .tup
def pw (v:FV):Option FV:=(oV v).map .lst
def HU (v:FV):Option FV:=(fD nB v).bind λd=>if d.fit=true/\d.wt<=big then some (.shn d) else none
def xD (v:FV):Option FV:=match v with
 | .non=>some (.str "None")
 | .bl b=>some (.str (if b then "True" else "False"))
 | .str x=>some (.str x)
 | .int i=>if -(2 ^ 150)<i/\i<2 ^ 150 then some (.str (toString i)) else none
 | .tup xs=>HU (.tup xs)
 | .lst xs=>HU (.lst xs)
 | .scr _=>none|.shn _=>none|.dct _ _=>none|.dci _ _=>none|.dcz _ _ _=>none|.obj _ _ _ _=>none|.dcn _ _ _=>none
inductive Ty where|int|bool|str|list|tuple
 deriving DecidableEq
def qe:FV->Ty->Option Bool
 | .non,_=>some false
 | .bl _,t=>some (t == .int || t == .bool)
 | .int _,t=>some (t == .int)
 | .str _,t=>some (t == .str)
 | .tup _,t=>some (t == .tuple)
 | .lst _,t=>some (t == .list)
 | .scr _,_=>none
 | .shn _,t=>some (t == .str)
 | .dct _ _,_=>none
 | .dci _ _,_=>none
 | .dcz _ _ _,_=>none
 | .obj _ _ _ _,_=>none
 | .dcn _ _ _,_=>none
def qd (t:Ty)(v:FV):Option FV:=(qe v t).map .bl
def ym (t u:Ty)(v:FV):Option FV:=(qe v t).bind λa=>(qe v u).map λb=>.bl (a || b)
def sIx (n d:Nat):Option Int->Nat
 | none=>d
 | some v=>if v<0 then (v+n).toNat else min v.toNat n
def nT {α:Type}(xs:List α)(lo hi:Option Int):List α:=(xs.drop (sIx xs.length 0 lo)).take (sIx xs.length xs.length hi-sIx xs.length 0 lo)
def sB (v:FV)(lo hi:Option Int):Option FV:=match v with
 | .tup xs=>some (.tup (nT xs lo hi))
 | .lst xs=>some (.lst (nT xs lo hi))
 | _=>none
abbrev EW:=mV->(FV->mV->Prop)->Prop
abbrev BW:=mV->(Bool->mV->Prop)->Prop
abbrev AW:=mV->(List FV->mV->Prop)->Prop
abbrev OW:=mV->(Option Int->mV->Prop)->Prop
def mT (i:Nat):EW:=λL Q=>wp (lk L i) λx=>Q x L
def eC (v:FV):EW:=λL Q=>Q v L
def nE (f:FV->Option FV)(a:EW):EW:=λL Q=>a L λx L1=>wp (f x) λz=>Q z L1
def mX (f:FV->FV->Option FV)(a b:EW):EW:=λL Q=>a L λx L1=>b L1 λy L2=>wp (f x y) λz=>Q z L2
def rR (f:FV->FV->Option FV) (i:Nat)(b:EW):EW:=λL Q=>wp (lk L i) λ_=>b L λy L1=>wp (lk L1 i) λx=>wp (f x y) λz=>Q z L1
def uA (f g:FV->FV->Option FV)(a b c:EW):EW:=λL Q=>a L λx L1=>b L1 λy L2=>wp (f x y) λr=>wp (MV r) λr=>if r=true then c L2 λz L3=>wp (g y z) λq=>Q q L3 else Q (.bl false) L2
def pX (a b:EW):EW:=λL Q=>a L λx L1=>wp (sv x) λr=>if r=true then b L1 Q else Q x L1
def Op (a b:EW):EW:=λL Q=>a L λx L1=>wp (sv x) λr=>if r=true then Q x L1 else b L1 Q
def AT (c:BW)(a b:EW):EW:=λL Q=>c L λr L1=>if r=true then a L1 Q else b L1 Q
def nk (a:EW):BW:=λL Q=>a L λx L1=>wp (sv x) λb=>Q b L1
def zR (a b:BW):BW:=λL Q=>a L λr L1=>if r=true then b L1 Q else Q false L1
def tI (a b:BW):BW:=λL Q=>a L λr L1=>if r=true then Q true L1 else b L1 Q
def pP (a:BW):BW:=λL Q=>a L λr L1=>Q (!r) L1
def nP:BW:=λL Q=>Q true L
def mW:AW:=λL Q=>Q [] L
def mU (a:EW)(r:AW):AW:=λL Q=>a L λx L1=>r L1 λxs L2=>Q (x :: xs) L2
def oC (a:AW):EW:=λL Q=>a L λxs L1=>xs.length<=big/\Q (.tup xs) L1
def oy (a:AW):EW:=λL Q=>a L λxs L1=>xs.length<=big/\Q (.lst xs) L1
def nW:OW:=λL Q=>Q none L
def nF (a:EW):OW:=λL Q=>a L λx L1=>wp (pM x) λi=>Q (some i) L1
def rB (a:EW)(l h:OW):EW:=λL Q=>a L λx L1=>l L1 λi L2=>h L2 λj L3=>wp (sB x i j) λz=>Q z L3
abbrev CW:=Nat->List FV->(FV×FV->Prop)->Prop
def m4 (call:CW) (f:Nat)(a:AW):EW:=λL Q=>a L λxs L1=>call f xs λz=>Q z.1 L1
def m5 (call:CW) (f i:Nat)(a:AW):EW:=λL Q=>wp (lk L i) λ_=>a L λxs L1=>wp (lk L1 i) λx=>call f (x :: xs) λz=>Q z.1 (L1.set i (some z.2))
def Ex (v y:FV):Option FV:=(t6 v).bind λxs=>if xs.length<big then some (.lst (xs++[y])) else none
def OY:FV->Option (List FV)|.tup xs=>some xs|.lst xs=>some xs|_=>none
def JW (v y:FV):Option FV:=(t6 v).bind λxs=>(OY y).bind λys=>if xs.length+ys.length<=big then some (.lst (xs++ys)) else none
def uz (f:FV->FV->Option FV) (i:Nat)(a:EW):EW:=λL Q=>wp (lk L i) λv=>wp (t6 v) λ_=>a L λy L1=>wp (lk L1 i) λx=>wp (f x y) λz=>Q .non (L1.set i (some z))
def sQ (lo:Int):Nat->List FV
 | 0=>[]
 | n+1=>.int lo :: sQ (lo+1) n
def oX (xs ys:List FV):List FV:=xs.zipWith (λp q=>.tup [p,q]) ys
def qU (a:EW):AW:=λL Q=>a L λx L1=>wp (oV x) λxs=>Q xs L1
def qV (a:EW):AW:=λL Q=>a L λx L1=>wp (pM x) λj=>oJ j=true/\Q (sQ 0 j.toNat) L1
def iRng2 (a b:EW):AW:=λL Q=>a L λx L1=>b L1 λy L2=>wp (pM x) λi=>wp (pM y) λj=>(oJ i && oJ j)=true/\Q (sQ i (j-i).toNat) L2
def wQ (a b:EW):AW:=λL Q=>a L λx L1=>b L1 λy L2=>wp (oV x) λxs=>wp (oV y) λys=>Q (oX xs ys) L2
def vD (a:EW):AW:=λL Q=>a L λx L1=>wp (oV x) λxs=>Q (oX (sQ 0 xs.length) xs) L1
inductive Tg where|nm (i:Nat)|tp (is:List Nat)|tn (i:Nat)(is:List Nat)
def Dn:List FV->Option (FV×FV)|[a,b]=>some (a,b)|_=>none
def r6:mV->List Nat->List FV->Option mV
 | L,[],[]=>some L
 | L,i :: is,v :: vs=>r6 (L.set i (some v)) is vs
 | _,_,_=>none
def gW (tg:Tg)(v:FV)(L:mV)(Q:mV->Prop):Prop:=match tg with
 | .nm i=>Q (L.set i (some v))
 | .tp is=>wp (qL v) λxs=>wp (r6 L is xs) Q
 | .tn i is=>wp (qL v) λxs=>wp (Dn xs) λp=>wp (qL p.2) λys=>wp (r6 (L.set i (some p.1)) is ys) Q
def pV (n m:Nat)(tg:Tg)(t:BW)(e:EW):List FV->List FV->mV->(List FV->mV->Prop)->Prop
 | [],Z8,L,Q=>Q Z8 L
 | x :: xs,Z8,L,Q=>gW tg x (L++jc m none) λL1=>t L1 λb L2=>if b=true then e L2 λv L3=>pV n m tg t e xs (Z8++[v]) (L3.take n) Q else pV n m tg t e xs Z8 (L2.take n) Q
def nU (n m:Nat)(it:AW)(tg:Tg)(t:BW)(e:EW):EW:=λL Q=>it L λxs L1=>L1.length=n/\xs.length<=big/\pV n m tg t e xs [] L1 λys L2=>Q (.lst ys) L2
inductive FFl where|next|ret (v:FV)|brk|cont
abbrev SW:=mV->(FFl->mV->Prop)->Prop
def K7 (k:mV->Prop)(Q:FFl->mV->Prop):FFl->mV->Prop
 | .next,L=>k L
 | .ret v,L=>Q (.ret v) L
 | .brk,L=>Q .brk L
 | .cont,L=>Q .cont L
def oM:SW:=λL Q=>Q .next L
def mZ (s r:SW):SW:=λL Q=>s L (K7 (λL1=>r L1 Q) Q)
def m7 (e:EW)(tg:Tg):SW:=λL Q=>e L λx L1=>gW tg x L1 λL2=>Q .next L2
def HV (v j x:FV):Option FV:=(t6 v).bind λxs=>(pM j).bind λn=>(ixN xs.length n).map λp=>.lst (xs.set p x)
def wv (k:Nat)(i e:EW):SW:=λL Q=>wp (lk L k) λ_=>e L λx L1=>i L1 λj L2=>wp (lk L2 k) λy=>wp (HV y j x) λz=>Q .next (L2.set k (some z))
def yZ (f:FV->FV->Option FV) (i:Nat)(e:EW):SW:=λL Q=>wp (lk L i) λa=>e L λx L1=>wp (f a x) λz=>Q .next (L1.set i (some z))
def nq (e:EW):SW:=λL Q=>e L λx L1=>Q (.ret x) L1
def Bw (e:EW):SW:=λL Q=>e L λ_ L1=>Q .next L1
def qB (c:BW)(a b:SW):SW:=λL Q=>c L λr L1=>if r=true then a L1 Q else b L1 Q
def rZ (k:mV->Prop)(Q:FFl->mV->Prop):FFl->mV->Prop
 | .next,L=>k L
 | .cont,L=>k L
 | .brk,L=>Q .next L
 | .ret v,L=>Q (.ret v) L
def u6 (tg:Tg)(b:SW):List FV->mV->(FFl->mV->Prop)->Prop
 | [],L,Q=>Q .next L
 | x :: xs,L,Q=>gW tg x L λL1=>b L1 (rZ (λL2=>u6 tg b xs L2 Q) Q)
def ql (it:AW)(tg:Tg)(b:SW):SW:=λL Q=>it L λxs L1=>u6 tg b xs L1 Q
def Bm (c:BW)(b:SW):Nat->mV->(FFl->mV->Prop)->Prop
 | 0,_,_=>False
 | n+1,L,Q=>c L λr L1=>if r=true then b L1 (rZ (λL2=>Bm c b n L2 Q) Q) else Q .next L1
def yY (c:BW)(b:SW):SW:=λL Q=>∃ n,Bm c b n L Q
structure FD where
 np:Nat
 ns:Nat
 body:CW->SW
 io:Bool
 fr:Bool
def sO (io fr:Bool)(Q:FV×FV->Prop):FFl->mV->Prop
 | .ret v,L=>match io with
  | true=>wp (lk L 0) λx=>Q (v,x)
  | false=>Q (v,.non)
 | .next,L=>match fr with
  | true=>False
  | false=>match io with
   | true=>wp (lk L 0) λx=>Q (.non,x)
   | false=>Q (.non,.non)
 | _,_=>False
def callW (tb:List FD):Nat->CW
 | 0,_,_,_=>False
 | d+1,f,args,Q=>match tb[f]? with
  | none=>False
  | some fd=>args.length=fd.np/\fd.body (callW tb d) (args.map some++jc (fd.ns-fd.np) none) (sO fd.io fd.fr Q)
end Kq
namespace Kq
open PySem PySem.Spec PyProof.Rows L2
theorem D.eqv_int (a b:Int):D.eqv (.int a) (.int b)=(a == b):=nrf rfl
theorem wA {x y:String}(h:j9 x=j9 y):x=y:=by
 rw[bE,bE] at h
 have h2:x.toList.map lO=y.toList.map lO:=by
  injection h with h
  simpa using congrArg kL h
 have inj:∀ (a b:List Char),a.map lO=b.map lO->a=b:=by
  intro a
  induction a with
  | nil=>intro b hb;cases b<;>simp_all
  | cons c a ih =>
   intro b hb
   cases b with
   | nil=>simp at hb
   | cons d b =>
    simp only[jQ,iz] at hb
    rw[ih b hb.2,Char.toNat_inj.mp hb.1]
 exact String.toList_inj.mp (inj _ _ h2)
theorem HQ (a b:String):(j9 a == j9 b)=(a == b):=by
 rw[iJ]
 simp only[beq_iff_eq]
 exact⟨wA,λh=>by rw[h]⟩
theorem HN (x:String):PyData.strOk (j9 x)=true:=by
 rw[bE]
 unfold PyData.strOk
 simp only[List.all_toArray,kH,gw,Function.comp_apply,decide_eq_true_eq]
 intro c _
 have h:c.val.toNat<0xd800 ∨ (0xdfff<c.val.toNat/\c.val.toNat<0x110000):=c.valid
 show c.val.toNat<1114112
 lia
mutual
theorem qF:∀ d:D,(qh d).canLay0=true
 | .non=>rfl
 | .bl _=>rfl
 | .int _=>rfl
 | .str x=>HN x
 | .tup xs=>d_lays xs
 | .lst xs=>d_lays xs
theorem d_lays:∀ xs:List D,fe (dPys xs)=true
 | []=>rfl
 | x :: xs=>by simp only[dPys,fe,qF x,d_lays xs,jZ]
end
mutual
theorem yC:∀ a b:D,PyData.eqv (qh a) (qh b)=D.eqv a b
 | .non,b=>by cases b<;>rfl
 | .bl _,b=>by cases b<;>rfl
 | .int _,b=>by cases b<;>rfl
 | .str x,b=>by cases b<;>first|rfl|exact HQ ..
 | .tup xs,b=>by cases b<;>first|rfl|exact d_eqvs ..
 | .lst xs,b=>by cases b<;>first|rfl|exact d_eqvs ..
theorem d_eqvs:∀ a b:List D,PyData.eqvAll (dPys a) (dPys b)=D.eqvs a b
 | [],b=>by cases b<;>rfl
 | x :: xs,b=>by cases b<;>first|rfl|(show (_ && _)=(_ && _);rw[yC,d_eqvs])
end
theorem yD (x:D):∀ xs:List D,((dPys xs).any λy=>PyData.eqv y (qh x))=xs.any λy=>D.eqv y x
 | []=>rfl
 | y :: r=>by simp only[dPys,jS,yC,yD x r]
mutual
theorem yB:∀ d:D,(qh d).hasDict=false
 | .non=>rfl
 | .bl _=>rfl
 | .int _=>rfl
 | .str x=>rfl
 | .tup xs=>d_nodicts xs
 | .lst xs=>d_nodicts xs
theorem d_nodicts:∀ xs:List D,fc (dPys xs)=false
 | []=>rfl
 | x :: xs=>by simp only[dPys,fc,yB x,d_nodicts xs,Bool.or_self]
end
theorem log2_lt {i:Int}{k:Nat}(hk:0<k)(h:-(2 ^ k:Int)<i/\i<2 ^ k):i.natAbs.log2<k:=by
 by_cases h0:i.natAbs=0
 ·rw[h0];simpa using hk
 ·rw[Nat.log2_lt h0]
  have e:((2 ^ k:Nat):Int)=(2:Int) ^ k:=by rw[Int.natCast_pow];rfl
  lia
mutual
theorem Eg:∀ d:D,d.fit=true->(qh d).showable=true/\(qh d).intsShort 160=true/\(qh d).weight<=d.wt
 | .non,_=>⟨rfl,rfl,kW _⟩
 | .bl _,_=>⟨rfl,rfl,kW _⟩
 | .int i,h=>by
  have h:-(2 ^ 150:Int)<i/\i<2 ^ 150:=of_decide_eq_true h
  have l1:=log2_lt (k:=150) (by decide) h
  refine⟨?_,?_,?_⟩
  ·simp only[qh,PyData.showable,decide_eq_true_eq];lia
  ·simp only[qh,PyData.intsShort,decide_eq_true_eq]
   have e:=int_text_length_le (k:=150) (by decide) l1
   show (j9 (toString i)).length<=160
   rw[bV];lia
  ·simp only[qh,jG,D.wt]
   split
   ·lia
   ·split
    ·rename_i hs
     have l2:=log2_lt (k:=40) (by decide) hs
     lia
    ·lia
 | .str x,_=>by
  refine⟨rfl,rfl,?_⟩
  simp only[qh,jG,D.wt]
  have:(j9 x).length=x.length:=bV x
  exact ku this
 | .tup xs,h=>by
  obtain⟨h1,h2,h3⟩:=d_fits xs h
  exact⟨h1,h2,h3⟩
 | .lst xs,h=>by
  obtain⟨h1,h2,h3⟩:=d_fits xs h
  exact⟨h1,h2,h3⟩
theorem d_fits:∀ xs:List D,D.fits xs=true->dD (dPys xs)=true/\cY 160 (dPys xs)=true/\fV (dPys xs)<=D.wts xs
 | [],_=>⟨rfl,rfl,kW _⟩
 | x :: xs,h=>by
  have h:x.fit=true/\D.fits xs=true:=cP.mp h
  obtain⟨a1,a2,a3⟩:=Eg x h.1
  obtain⟨b1,b2,b3⟩:=d_fits xs h.2
  refine⟨?_,?_,?_⟩
  ·simp only[dPys,dD,a1,b1,jZ]
  ·simp only[dPys,cY,a2,b2,jZ]
  ·simp only[dPys,fV,D.wts];lia
end
theorem GB {d:D}(h:d.fit=true)(hw:d.wt<=big):(qh d).shown.length<=sizeLine:=by
 obtain⟨_,h2,h3⟩:=Eg d h
 have:=PyData.shown_le 160 (by decide) (qh d) (PyData.leavesShort_of_canLay0 160 _ (qF d) h2)
 unfold big at hw
 have e:sizeLine=16777216:=rfl
 lia
theorem x9 {α β:Type}{f:α->Option β}:∀ {xs:List α}{ys:List β},pN f xs=some ys->ys.length=xs.length
 | [],ys,h=>by cases h;rfl
 | x :: xs,ys,h=>by
  replace h:((f x).bind λy=>(pN f xs).map (y :: ·))=some ys:=h
  cases e1:f x with
  | none=>rw[e1] at h;cases h
  | some y =>
   rw[e1] at h
   cases e2:pN f xs with
   | none=>simp only[fY,e2] at h;cases h
   | some zs=>simp only[fY,e2,gY] at h;cases h;rw[gm,gm,x9 e2]
inductive Bnd {α β:Type}(o:Option α)(f:α->Option β)(z:β):Prop
 | mk (a:α)(_:o=some a)(_:f a=some z):Bnd o f z
theorem oz {α β:Type}{o:Option α}{f:α->Option β}{z:β}(h:o.bind f=some z):Bnd o f z:=let ⟨a,h1,h2⟩:=Option.bind_eq_some_iff.mp h;⟨a,h1,h2⟩
inductive Mpd {α β:Type}(o:Option α)(f:α->β)(z:β):Prop
 | mk (a:α)(_:o=some a)(_:f a=z):Mpd o f z
theorem rE {α β:Type}{o:Option α}{f:α->β}{z:β}(h:o.map f=some z):Mpd o f z:=let ⟨a,h1,h2⟩:=bI.mp h;⟨a,h1,h2⟩
theorem rn {α:Type}{c:Prop} [Decidable c] {a b:α}(h:(if c then some a else none)=some b):c/\a=b:=by
 by_cases z:c
 ·rw[if_pos z] at h;exact⟨z,gX h⟩
 ·rw[if_neg z] at h;cases h
theorem qX:∀ {n:Nat}{p:FV}{d:D},fD n p=some d->(qh d).depth<=n
 | 0,p,d,h=>by cases h
 | n+1,p,d,h=>by
  have ds:∀ {ps:List FV}{ds:List D},pN (fD n) ps=some ds->gU (dPys ds)<=n:=by
   intro ps
   induction ps with
   | nil=>intro ds h;cases h;simp[dPys,gU]
   | cons q ps ih =>
    intro ds h
    obtain⟨y,e1,h⟩:=oz h
    obtain⟨zs,e2,rfl⟩:=rE h
    simp only[dPys,gU]
    exact lK.mpr ⟨qX e1,ih e2⟩
  cases p with
  | tup ps=>obtain⟨zs,e,rfl⟩:=rE (show (pN (fD n) ps).map D.tup=some d from h);simp only[qh,kh];have:=ds e;lia
  | lst ps=>obtain⟨zs,e,rfl⟩:=rE (show (pN (fD n) ps).map D.lst=some d from h);simp only[qh,kh];have:=ds e;lia
  | non=>cases h;simp[qh,kh]
  | bl _=>cases h;simp[qh,kh]
  | int _=>cases h;simp[qh,kh]
  | str _=>cases h;simp[qh,kh]
  | scr _=>cases h
  | shn _=>cases h
  | dct _ _=>cases h
  | dci _ _=>cases h
  | dcz _ _ _=>cases h
  | obj _ _ _ _=>cases h
  | dcn _ _ _=>cases h
section
variable {X:Cx}{Z9:List (mS×Obj)}{σ:L2.St}{S H:Hp}{s:mn}
def KO (X:Cx)(S:Hp)(s:mn) (n:Nat):Prop:=∀ (p:FV)(v:V)(u:mF)(d:D),RV X.K S p v->RelV v u->fD n p=some d->∃ as,mH s.heap u (qh d) as
theorem sD {n:Nat}(R:KO X S s n):∀ {ps:List FV}{vs:List V}{us:List mF}{ds:List D},RVs X.K S ps vs->Vals vs us->pN (fD n) ps=some ds->∃ as,lV s.heap us (dPys ds) as
 | [],vs,us,ds,r,q,h=>by
  cases (show vs=[] from r)
  cases q
  cases h
  exact⟨[],.nil⟩
 | p :: ps,vs,us,ds,r,rq,h=>by
  obtain⟨v1,vr,rfl,r1,r2⟩:=r
  cases rq with
  | cons q1 q2 =>
   obtain⟨y,e1,h⟩:=oz h
   obtain⟨zs,e2,rfl⟩:=rE h
   obtain⟨as,ra⟩:=R _ _ _ _ r1 q1 e1
   obtain⟨bs,rb⟩:=sD R r2 q2 e2
   exact⟨as++bs,.cons ra rb⟩
theorem vg {n:Nat}(I:Inv X Z9 σ H s)(R:KO X S s n){a:mS}{xs:List V}{ps:List FV}{d:D}(h1:H a=some (.lst xs))(h2:RVs X.K S ps xs)(h:(pN (fD n) ps).map D.lst=some d):∃ as,mH s.heap (.ref a) (qh d) as:=by
 obtain⟨zs,e,rfl⟩:=rE h
 obtain⟨Z7,rr,⟨o,k,e1,e2,e2',e3⟩,_⟩:=I.list (SqL.of h1)
 obtain⟨as,ra⟩:=sD R h2 rr e
 exact⟨a :: as,.list e1 e2 e3 (by simpa using ra)⟩
theorem tT (I:Inv X Z9 σ H s)(hs:Same S H):∀ n,KO X S s n
 | 0,p,v,u,d,_,_,h=>by cases h
 | n+1,p,v,u,d,rp,rv,h=>by
  have R:=tT I hs n
  cases p with
  | tup ps =>
   obtain⟨a,xs,rfl,h1,h2⟩:=rp
   cases (show u=Value.ref a from rv)
   obtain⟨zs,e,rfl⟩:=rE (show (pN (fD n) ps).map D.tup=some d from h)
   obtain⟨Z7,rr,⟨o,e1,e2,k,e3⟩,_⟩:=I.tuple (SqT.of (hs _ _ h1))
   obtain⟨as,ra⟩:=sD R h2 rr e
   exact⟨as,.tuple e1 e2 e3 (by simpa using ra)⟩
  | lst ps =>
   obtain⟨a,xs,rfl,h1,h2⟩:=rp
   cases (show u=Value.ref a from rv)
   exact vg I R (hs _ _ h1) h2 h
  | non=>cases h;cases (show v=_ from rp);cases (show u=_ from rv);exact⟨_,.none⟩
  | bl _=>cases h;cases (show v=_ from rp);cases (show u=_ from rv);exact⟨_,.bool _⟩
  | int _=>cases h;cases (show v=_ from rp);obtain⟨t,rfl⟩:=rv;exact⟨_,.int _ _⟩
  | str _=>cases h;cases (show v=_ from rp);obtain⟨t,rfl⟩:=rv;exact⟨_,.str _ _⟩
  | scr _=>cases h
  | shn _=>cases h
  | dct _ _=>cases h
  | dci _ _=>cases h
  | dcz _ _ _=>cases h
  | obj _ _ _ _=>cases h
  | dcn _ _ _=>cases h
theorem pT (I:Inv X Z9 σ H s)(hs:Same S H){n:Nat}{p:FV}{v:V}{u:mF}{d:D}(rp:RH X.K S H p v)(rv:RelV v u)(h:fD n p=some d):∃ as,mH s.heap u (qh d) as:=by
 rcases rp with rp|⟨a,rfl,_,ps,xs,e,h1,h2⟩
 ·exact tT I hs n p v u d rp rv h
 ·cases (show u=Value.ref a from rv)
  cases n with
  | zero=>cases h
  | succ n =>
   cases p with
   | lst qs=>cases e;exact vg I (tT I hs n) h1 h2 h
   | dct _ _=>cases h
   | dci _ _=>cases h
   | dcz _ _ _=>cases h
   | obj _ _ _ _=>cases h
   | dcn _ _ _=>cases h
   | _=>cases e
end
theorem oj:big<=sizeLine:=by decide
theorem nL {v:FV}{i:Int}(h:pM v=some i):v=.int i:=by cases v<;>cases h;rfl
theorem Kh {v:FV}{i:Bool}(h:MV v=some i):v=.bl i:=by cases v<;>cases h;rfl
theorem pd {v:FV}{i:List FV}(h:qL v=some i):v=.tup i:=by cases v<;>cases h;rfl
theorem p5 {v:FV}{i:List FV}(h:t6 v=some i):v=.lst i:=by cases v<;>cases h;rfl
structure NewOr (K:ke)(S H:Hp)(Q:VK)(z:FV):Prop where
 old:∀ x,(∀ ps,z≠.lst ps)->RV K S z x->Q x H
 tup:∀ ps xs p,z=.tup ps->RVs K S ps xs->H p=none->Q (.ref p) (n5 H p (.tup xs))
 lst:∀ ps xs p,z=.lst ps->RVs K S ps xs->H p=none->Q (.ref p) (n5 H p (.lst xs))
section
variable {X:Cx}{K:ke}{S H:Hp}{Q:VK}
theorem NewOr.bl {b:Bool}(k:NewOr K S H Q (.bl b)):Q (.bl b) H:=k.old _ (λ_ z=>nomatch z) rfl
theorem NewOr.int {b:Int}(k:NewOr K S H Q (.int b)):Q (.int b) H:=k.old _ (λ_ z=>nomatch z) rfl
theorem NewOr.str {b:String}(k:NewOr K S H Q (.str b)):Q (.str (j9 b)) H:=k.old _ (λ_ z=>nomatch z) rfl
theorem RH.int {i:Int}{x:V}(h:RH K S H (.int i) x):x=.int i:=h.val rfl
theorem RH.bl {i:Bool}{x:V}(h:RH K S H (.bl i) x):x=.bl i:=h.val rfl
inductive Rq (K:ke)(f:FV->FV->Option FV)(x:V)(y:V)(H:Hp)(Q:VK):Prop
 | mk (S:_)(v:_)(w:_)(z:_)(_:Same S H)(_:RH K S H v x)(_:RH K S H w y)(_:f v w=some z)(_:NewOr K S H Q z):Rq K f x y H Q
theorem rJ {g:mF->mF->Sem mF}{f:Int->Int->Option FV}{r:R2}(o:pD X g r)(h:∀ i j z H Q,f i j=some z->(∀ x,(∀ S,RV X.K S z x)->Q x H)->r (.int i) (.int j) H Q)(n:∀ i j z,f i j=some z->∀ ps,z≠.lst ps):pD X g (Rq X.K (pE f)):=by
 intro Z9 s σ H x y u1 u2 Q I rx ry ⟨S,v,w,z,hs,hv,hw,e,k⟩
 obtain⟨i,e1,e⟩:=oz e
 obtain⟨j,e2,e⟩:=oz e
 cases nL e1;cases nL e2
 obtain rfl:=hv.int
 obtain rfl:=hw.int
 exact o Z9 s σ H _ _ u1 u2 Q I rx ry (h i j z H Q e λx hx=>k.old x (n i j z e) (hx S))
theorem Hg:pD X (binaryOp .Sub) (Rq X.K uV):=rJ IP (λi j z H Q e k=>⟨i,j,rfl,rfl,k _ λS=>by cases e;rfl⟩) λi j z e ps=>by cases e;exact λz=>nomatch z
theorem Ii:pD X (binaryOp .FloorDiv) (Rq X.K vF):=rJ Fv (λi j z H Q e k=>⟨i,j,rfl,rfl,(rn e).1,k _ λS=>by cases (rn e).2;rfl⟩) λi j z e ps=>by cases (rn e).2;exact λz=>nomatch z
theorem LD:pD X (binaryOp .Mod) (Rq X.K t5):=rJ IT (λi j z H Q e k=>⟨i,j,rfl,rfl,(rn e).1,k _ λS=>by cases (rn e).2;rfl⟩) λi j z e ps=>by cases (rn e).2;exact λz=>nomatch z
theorem LB:pD X (binaryOp .Pow) (Rq X.K ze):=rJ IR (λi j z H Q e k=>⟨i,j,rfl,rfl,by
 obtain⟨h1,h2,h3⟩:=(rn e).1
 have:-(2 ^ 64)<i/\i<2 ^ 64:=by simpa[small] using h3
 exact⟨h1,by lia,by lia⟩,k _ λS=>by cases (rn e).2;rfl⟩) λi j z e ps=>by cases (rn e).2;exact λz=>nomatch z
theorem LL:pD X (compareOp .Gt) (Rq X.K EI):=rJ Ma (λi j z H Q e k=>⟨i,j,rfl,rfl,k _ λS=>by cases e;rfl⟩) λi j z e ps=>by cases e;exact λz=>nomatch z
theorem LM:pD X (compareOp .GtE) (Rq X.K D0):=rJ Mb (λi j z H Q e k=>⟨i,j,rfl,rfl,k _ λS=>by cases e;rfl⟩) λi j z e ps=>by cases e;exact λz=>nomatch z
theorem Ik:pD X (binaryOp .Add) (Rq X.K (pE λi j=>some (.int (i+j)))):=rJ IX (λi j z H Q e k=>⟨i,j,rfl,rfl,k _ λS=>by cases e;rfl⟩) λi j z e ps=>by cases e;exact λz=>nomatch z
theorem Ie:pD X (binaryOp .Mult) (Rq X.K (pE λi j=>if (small i || small j)=true then some (.int (i*j)) else none)):=rJ IS (λi j z H Q e k=>⟨i,j,rfl,rfl,by
 have:=(rn e).1
 simp only[small,iI,decide_eq_true_eq] at this
 exact this,k _ λS=>by cases (rn e).2;rfl⟩) λi j z e ps=>by cases (rn e).2;exact λz=>nomatch z
theorem LF:pD X (compareOp .Lt) (Rq X.K (pE λi j=>some (.bl (decide (i<j))))):=rJ L8 (λi j z H Q e k=>⟨i,j,rfl,rfl,k _ λS=>by cases e;rfl⟩) λi j z e ps=>by cases e;exact λz=>nomatch z
theorem LG:pD X (compareOp .LtE) (Rq X.K (pE λi j=>some (.bl (decide (i<=j))))):=rJ L9 (λi j z H Q e k=>⟨i,j,rfl,rfl,k _ λS=>by cases e;rfl⟩) λi j z e ps=>by cases e;exact λz=>nomatch z
theorem Ij {xs ys:List FV}{x y:V}{z:FV}{Z9:List (mS×Obj)}{σ:L2.St}{s:mn}{u1 u2:mF}(I:Inv X Z9 σ H s)(rx:RelV x u1)(ry:RelV y u2)(hs:Same S H)(hv:RH X.K S H (.tup xs) x)(hw:RH X.K S H (.tup ys) y)
  (e:(if xs.length+ys.length<=big then some (FV.tup (xs++ys)) else none)=some z)(k:NewOr X.K S H Q z):wpAny (model X.prog X.w) X.A (binaryOp .Add u1 u2) (EP X Z9 σ Q) X.xe s:=by
 obtain⟨hc,rfl⟩:=rn e
 have rv:=hv.val rfl
 have rw':=hw.val rfl
 obtain⟨a,as,rfl,ha,ra⟩:=hv.tup hs
 obtain⟨b,bs,rfl,hb,rb⟩:=hw.tup hs
 have l1:=ra.length
 have l2:=rb.length
 have hl:=oj
 by_cases h0:as=[]
 ·subst h0
  have z2:xs=[]:=ah (by simpa using l1)
  subst z2
  exact Do Z9 s σ H _ _ u1 u2 Q I rx ry ⟨a,b,bs,rfl,rfl,SqT.of ha,SqT.of hb,k.old _ (λ_ z=>nomatch z) rw'⟩
 refine Fw Z9 s σ H _ _ u1 u2 Q I rx ry ⟨a,b,as,bs,rfl,rfl,SqT.of ha,SqT.of hb,h0,by lia,λz=>?_,λ_ p hp=>k.tup _ _ p rfl (ra.append rb) hp⟩
 subst z
 have z2:ys=[]:=ah (by simpa using l2)
 subst z2
 exact k.old _ (λ_ z=>nomatch z) (by rw[iA];exact rv)
theorem Hi:pD X (binaryOp .Add) (Rq X.K m8):=by
 intro Z9 s σ H x y u1 u2 Q I rx ry ⟨S,v,w,z,hs,hv,hw,e,k⟩
 cases v with
 | tup xs =>
  obtain⟨ys,e1,e⟩:=oz e
  cases pd e1
  exact Ij I rx ry hs hv hw e k
 | lst xs =>
  obtain⟨ys,e1,e⟩:=oz e
  cases p5 e1
  obtain⟨hc,rfl⟩:=rn e
  obtain⟨a,as,rfl,ha,ra⟩:=hv.lst hs
  obtain⟨b,bs,rfl,hb,rb⟩:=hw.lst hs
  have l1:=ra.length
  have l2:=rb.length
  have hl:=oj
  exact IW Z9 s σ H _ _ u1 u2 Q I rx ry ⟨a,b,as,bs,rfl,rfl,ha,hb,by lia,λp hp=>k.lst _ _ p rfl (ra.append rb) hp⟩
 | _=>exact Ik Z9 s σ H x y u1 u2 Q I rx ry ⟨S,_,w,z,hs,hv,hw,e,k⟩
theorem C1:pD X (binaryOp .Mult) (Rq X.K pR):=by
 intro Z9 s σ H x y u1 u2 Q I rx ry ⟨S,v,w,z,hs,hv,hw,e,k⟩
 cases v with
 | lst xs =>
  obtain⟨j,e1,e⟩:=oz e
  cases nL e1
  obtain⟨hc,rfl⟩:=rn e
  obtain⟨a,as,rfl,ha,ra⟩:=hv.lst hs
  obtain rfl:=hw.int
  have l1:=ra.length
  have hl:=oj
  exact IQ Z9 s σ H _ _ u1 u2 Q I rx ry ⟨a,j,as,rfl,rfl,ha,hc.1,hc.2.1,by rw[<- l1];lia,λp hp=>k.lst _ _ p rfl (ra.rep _) hp⟩
 | _=>exact Ie Z9 s σ H x y u1 u2 Q I rx ry ⟨S,_,w,z,hs,hv,hw,e,k⟩
theorem nY:∀ {ps:List FV}{xs:List V}{ns:List Int},RVs K S ps xs->nR ps=some ns->xs=ns.map V.int
 | [],xs,ns,r,e=>by cases (show xs=[] from r);cases e;rfl
 | p :: ps,xs,ns,r,e=>by
  obtain⟨v,q,rfl,h1,h2⟩:=r
  cases p with
  | int i =>
   obtain⟨ms,z,rfl⟩:=rE (show (nR ps).map (i :: ·)=some ns from e)
   rw[nY h2 z,jQ,show v=.int i from h1]
  | _=>cases e
theorem uM:∀ {ps:List FV}{xs:List V}{ns:List Bool},RVs K S ps xs->rS ps=some ns->xs=ns.map V.bl
 | [],xs,ns,r,e=>by cases (show xs=[] from r);cases e;rfl
 | p :: ps,xs,ns,r,e=>by
  obtain⟨v,q,rfl,h1,h2⟩:=r
  cases p with
  | bl i =>
   obtain⟨ms,z,rfl⟩:=rE (show (rS ps).map (i :: ·)=some ns from e)
   rw[uM h2 z,jQ,show v=.bl i from h1]
  | _=>cases e
theorem DE:∀ a b:List Int,Kq.lexLt a b=HT.lexLt a b
 | [],[]=>rfl
 | [],_ :: _=>rfl
 | _ :: _,[]=>rfl
 | a :: r,b :: q=>by
  show (if a=b then Kq.lexLt r q else decide (a<b))=_
  rw[DE r q];rfl
theorem yf:∀ a b:List Int,Kq.lexLe a b=HT.lexLe a b
 | [],[]=>rfl
 | [],_ :: _=>rfl
 | _ :: _,[]=>rfl
 | a :: r,b :: q=>by
  show (if a=b then Kq.lexLe r q else decide (a<=b))=_
  rw[yf r q];rfl
theorem Ih (hu:X.A.units+64<cLine):pD X (compareOp .Lt) (Rq X.K BR):=by
 intro Z9 s σ H x y u1 u2 Q I rx ry ⟨S,v,w,z,hs,hv,hw,e,k⟩
 cases v with
 | tup xs =>
  obtain⟨ys,e1,e⟩:=oz e
  cases pd e1
  obtain⟨ns,e2,e⟩:=oz e
  obtain⟨ms,e3,e⟩:=oz e
  cases e
  obtain⟨a,as,rfl,ha,ra⟩:=hv.tup hs
  obtain⟨b,bs,rfl,hb,rb⟩:=hw.tup hs
  cases nY ra e2;cases nY rb e3
  exact IU ⋯ Z9 s σ H _ _ u1 u2 Q I rx ry ⟨a,b,ns,ms,rfl,rfl,SqT.of ha,SqT.of hb,by rw[<- DE];exact k.bl⟩
 | _=>exact LF Z9 s σ H x y u1 u2 Q I rx ry ⟨S,_,w,z,hs,hv,hw,e,k⟩
theorem LH (hu:X.A.units+64<cLine):pD X (compareOp .LtE) (Rq X.K Ht):=by
 intro Z9 s σ H x y u1 u2 Q I rx ry ⟨S,v,w,z,hs,hv,hw,e,k⟩
 cases v with
 | tup xs =>
  obtain⟨ys,e1,e⟩:=oz e
  cases pd e1
  obtain⟨ns,e2,e⟩:=oz e
  obtain⟨ms,e3,e⟩:=oz e
  cases e
  obtain⟨a,as,rfl,ha,ra⟩:=hv.tup hs
  obtain⟨b,bs,rfl,hb,rb⟩:=hw.tup hs
  cases nY ra e2;cases nY rb e3
  exact IV ⋯ Z9 s σ H _ _ u1 u2 Q I rx ry ⟨a,b,ns,ms,rfl,rfl,SqT.of ha,SqT.of hb,by rw[<- yf];exact k.bl⟩
 | _=>exact LG Z9 s σ H x y u1 u2 Q I rx ry ⟨S,_,w,z,hs,hv,hw,e,k⟩
theorem JY {p q:FV}{b:Bool}(e:sU p q=some b):(∃ d,p=.shn d/\q=.shn d/\b=true) ∨ ∃ x y,fD nB p=some x/\fD nB q=some y/\b=D.eqv x y:=by
 have gen:eqD p q=some b->∃ x y,fD nB p=some x/\fD nB q=some y/\b=D.eqv x y:=λe=>by
  obtain⟨x,e1,e⟩:=oz e
  obtain⟨y,e2,e⟩:=oz e
  cases e
  exact⟨x,y,e1,e2,rfl⟩
 unfold sU at e
 split at e
 ·obtain⟨rfl,rfl⟩:=@rn _ _ (bx _) _ _ e
  exact .inl ⟨_,rfl,rfl,rfl⟩
 ·exact .inr (gen e)
theorem Hh (hu:X.A.units+64<cLine)(neg:Bool):pD X (compareOp (if neg then .NotEq else .Eq)) (Rq X.K λp q=>(sU p q).map λr=>.bl (neg != r)):=by
 intro Z9 s σ H x y v u Q I rx ry ⟨S,p,q,z,hs,rp,rq,e,k⟩
 obtain⟨b,e',rfl⟩:=rE (show (sU p q).map (λr=>FV.bl (neg != r))=some z from e)
 have fin:=k.bl
 rcases JY e' with⟨d,rfl,rfl,rfl⟩|⟨dx,dy,e1,e2,rfl⟩
 ·obtain rfl:x=.str (qh d).shown:=rp.val rfl
  obtain rfl:y=.str (qh d).shown:=rq.val rfl
  cases neg with
  | false=>exact Mc Z9 s σ H _ _ v u Q I rx ry ⟨rfl,by simpa using fin⟩
  | true=>exact L7 Z9 s σ H _ _ v u Q I rx ry ⟨rfl,by simpa using fin⟩
 ·obtain⟨as,ra⟩:=pT I hs rp rx e1
  obtain⟨bs,rb⟩:=pT I hs rq ry e2
  have hd:X.A.units+min (qh dx).depth (qh dy).depth<cLine:=by
   have h1:=qX e1
   unfold nB at h1
   lia
  cases neg with
  | false=>exact PySem.SeqAt.compareEq_reads ra rb (qF dx) (qF dy) hd ⟨.bl _,H,I,rfl,by rw[yC];simpa using fin⟩
  | true=>exact PySem.SeqAt.compareNe_reads ra rb (qF dx) (qF dy) hd ⟨.bl _,H,I,rfl,by rw[yC];simpa using fin⟩
theorem LN (hu:X.A.units+64<cLine):pD X (compareOp .Eq) (Rq X.K qI):=λZ9 s σ H x y v u Q I rx ry q1=>by obtain⟨S,p,q,z,hs,rp,rq,e,k⟩:=q1;exact Hh hu false Z9 s σ H x y v u Q I rx ry ⟨S,p,q,z,hs,rp,rq,by
 obtain⟨b,e1,rfl⟩:=rE e
 show (sU p q).map _=_
 rw[e1];cases b<;>rfl,k⟩
theorem LC (hu:X.A.units+64<cLine):pD X (compareOp .NotEq) (Rq X.K uY):=λZ9 s σ H x y v u Q I rx ry q1=>by obtain⟨S,p,q,z,hs,rp,rq,e,k⟩:=q1;exact Hh hu true Z9 s σ H x y v u Q I rx ry ⟨S,p,q,z,hs,rp,rq,by
 obtain⟨b,e1,rfl⟩:=rE e
 show (sU p q).map _=_
 rw[e1];cases b<;>rfl,k⟩
theorem LJ (hu:X.A.units+64<cLine)(neg:Bool):pD X (compareOp (if neg then .NotIn else .In)) (Rq X.K λp q=>(DW p q).map λr=>.bl (neg != r)):=by
 intro Z9 s σ H x y v u Q I rx ry ⟨S,p,q,z,hs,rp,rq,e,k⟩
 obtain⟨b,e',rfl⟩:=rE (show (DW p q).map (λr=>FV.bl (neg != r))=some z from e)
 have fin:=k.bl
 obtain⟨dx,e1,e'⟩:=oz e'
 obtain⟨dy,e2,e'⟩:=oz e'
 obtain⟨as,ra⟩:=pT I hs rp rx e1
 obtain⟨bs,rb⟩:=pT I hs rq ry e2
 have hd:∀ ys,X.A.units+1+min (gU (dPys ys)) (qh dx).depth<cLine:=λys=>by
  have h1:=qX e1
  unfold nB at h1
  lia
 cases dy with
 | lst ys =>
  cases e'
  simp only[qh] at rb
  cases neg with
  | false=>exact PySem.SeqAt.in_list_reads rb ra (d_lays ys) (qF dx) (hd ys) ⟨.bl _,H,I,rfl,by rw[yD];simpa using fin⟩
  | true=>exact PySem.SeqAt.notIn_list_reads rb ra (d_lays ys) (qF dx) (hd ys) ⟨.bl _,H,I,rfl,by rw[yD];simpa using fin⟩
 | tup ys =>
  cases e'
  simp only[qh] at rb
  cases neg with
  | false=>exact PySem.SeqAt.in_tuple_reads rb ra (d_lays ys) (qF dx) (hd ys) ⟨.bl _,H,I,rfl,by rw[yD];simpa using fin⟩
  | true=>exact PySem.SeqAt.notIn_tuple_reads rb ra (d_lays ys) (qF dx) (hd ys) ⟨.bl _,H,I,rfl,by rw[yD];simpa using fin⟩
 | _=>cases e'
theorem OX (hu:X.A.units+64<cLine):pD X (compareOp .In) (Rq X.K inB):=λZ9 s σ H x y v u Q I rx ry q1=>by obtain⟨S,p,q,z,hs,rp,rq,e,k⟩:=q1;exact LJ hu false Z9 s σ H x y v u Q I rx ry ⟨S,p,q,z,hs,rp,rq,by
 obtain⟨b,e1,rfl⟩:=rE e
 show (DW p q).map _=_
 rw[e1];cases b<;>rfl,k⟩
theorem G2 {ps:List FV}{xs:List V}{i:Int}{p:FV}(r:RVs K S ps xs)(e:vW ps i=some p):∃ v,L2.atI xs i=some v/\RV K S p v:=by
 obtain⟨j,e1,e2⟩:=oz e
 obtain⟨v,h1,h2⟩:=r.get e2
 refine⟨v,?_,h2⟩
 show (L2.ixN xs.length i).bind (λj=>xs[j]?)=some v
 rw[<- r.length,show L2.ixN ps.length i=some j from e1]
 exact h1
inductive Ri (K:ke)(x:V)(y:V)(H:Hp)(Q:VK):Prop
 | mk (S:_)(v:_)(w:_)(z:_)(_:Same S H)(_:RH K S H v x)(_:RH K S H w y)(_:nK v w=some z)(_:∀ u,RV K S z u->Q u H):Ri K x y H Q
theorem LI:OA X (Ri X.K):=by
 intro value slice Z9 s σ H x y v u Q I rx ry ⟨S,p,q,z,hs,rp,rq,e,k⟩ hsl
 obtain⟨j,e1,e3⟩:=oz e
 obtain⟨ps,e2,e4⟩:=oz e3
 cases nL e1
 obtain rfl:=rq.int
 obtain⟨a,xs,rfl,hq,r⟩:=rp.seq hs e2
 obtain⟨w,h1,h2⟩:=G2 r e4
 cases hb:NB p with
 | true=>rw[hb] at hq;exact F8 value slice Z9 s σ H _ _ v u Q I rx ry ⟨a,xs,j,w,rfl,rfl,hq,h1,k w h2⟩ hsl
 | false=>rw[hb] at hq;exact Jg value slice Z9 s σ H _ _ v u Q I rx ry ⟨a,xs,j,w,rfl,rfl,hq,h1,k w h2⟩ hsl
theorem ww (n d:Nat)(o:Option Int):Kq.sIx n d o=HT.sIx n d o:=by
 cases o with
 | none=>rfl
 | some v=>simp only[Kq.sIx,HT.sIx];try (split<;>split<;>lia)
theorem wY {ps:List FV}{xs:List V}{lo hi:Option Int}(r:RVs K S ps xs):RVs K S (nT ps lo hi) (yE xs lo hi):=by
 unfold nT yE
 rw[ww,ww,r.length]
 exact (r.drop _).take _
inductive Rsl (K:ke)(x:V)(lo:Option Int)(hi:Option Int)(H:Hp)(Q:VK):Prop
 | mk (S:_)(v:_)(z:_)(_:Same S H)(_:RH K S H v x)(_:sB v lo hi=some z)(_:NewOr K S H Q z):Rsl K x lo hi H Q
theorem OV:KN X (Rsl X.K):=by
 intro Z9 s σ H x v vl vu lo hi sl Q I rx hsl pl pu ⟨S,p,z,hs,rp,e,k⟩
 cases p with
 | tup ps =>
  cases e
  have rv:=rp.val rfl
  obtain⟨a,xs,rfl,ha,ra⟩:=rp.tup hs
  by_cases hc:HT.sIx xs.length 0 lo=0/\HT.sIx xs.length xs.length hi=xs.length
  ·refine CM Z9 s σ H _ v vl vu lo hi sl Q I rx hsl pl pu ⟨a,xs,rfl,SqT.of ha,hc.1,hc.2,k.old _ (λ_ z=>nomatch z) ?_⟩
   have e:nT ps lo hi=ps:=by
    unfold nT
    rw[ww,ww,ra.length,hc.1,hc.2,jh,Nat.sub_zero,bL (ku ra.length)]
   rw[e];exact rv
  ·exact HS Z9 s σ H _ v vl vu lo hi sl Q I rx hsl pl pu ⟨a,xs,rfl,SqT.of ha,hc,λp hp=>k.tup _ _ p rfl (wY ra) hp⟩
 | lst ps =>
  cases e
  obtain⟨a,xs,rfl,ha,ra⟩:=rp.lst hs
  exact Ah Z9 s σ H _ v vl vu lo hi sl Q I rx hsl pl pu ⟨a,xs,rfl,SqL.of ha,λp hp=>k.lst _ _ p rfl (wY ra) hp⟩
 | _=>cases e
end
section
variable {X:Cx}{K:ke}{S H:Hp}{Q:VK}
inductive Rc (K:ke)(f:FV->Option FV)(xs:List V)(H:Hp)(Q:VK):Prop
 | mk (S:_)(v:_)(x:_)(z:_)(_:xs=[x])(_:Same S H)(_:RH K S H v x)(_:f v=some z)(_:NewOr K S H Q z):Rc K f xs H Q
inductive Rc2 (K:ke)(f:FV->FV->Option FV)(xs:List V)(H:Hp)(Q:VK):Prop
 | mk (S:_)(v:_)(w:_)(x:_)(y:_)(z:_)(_:xs=[x,y])(_:Same S H)(_:RH K S H v x)(_:RH K S H w y)(_:f v w=some z)(_:NewOr K S H Q z):Rc2 K f xs H Q
theorem Hc {b:Bool}{a:mS}{xs:List V}(h:uQ b K H a xs):SqL K H a xs ∨ SqT K H a xs:=by cases b;exact .inr h;exact .inl h
theorem MP:nO X (.builtin "len") (Rc X.K ox):=by
 rintro Z9 s σ H xs us Q I r ⟨S,v,x,z,rfl,hs,rv,e,k⟩
 obtain⟨ps,e1,rfl⟩:=rE e
 obtain⟨a,ys,rfl,hq,ry⟩:=rv.seq hs e1
 refine w9 Z9 s σ H _ us Q I r ⟨a,ys,rfl,Hc hq,?_⟩
 rw[<- ry.length]
 exact k.int
theorem MS:nO X (.builtin "abs") (Rc X.K Ey):=by
 rintro Z9 s σ H xs us Q I r ⟨S,v,x,z,rfl,hs,rv,e,k⟩
 obtain⟨i,e1,rfl⟩:=rE e
 cases nL e1
 obtain rfl:=rv.int
 exact En Z9 s σ H _ us Q I r ⟨i,rfl,k.int⟩
theorem MQ:nO X (.type "int") (Rc X.K sx):=by
 rintro Z9 s σ H xs us Q I r ⟨S,v,x,z,rfl,hs,rv,e,k⟩
 cases v with
 | int i =>
  cases e
  obtain rfl:=rv.int
  exact vR Z9 s σ H _ us Q I r (.inl ⟨i,rfl,k.int⟩)
 | bl b =>
  cases e
  obtain rfl:=rv.bl
  exact vR Z9 s σ H _ us Q I r (.inr ⟨b,rfl,k.int⟩)
 | _=>cases e
theorem GF:nO X (.type "tuple") (Rc X.K oZ):=by
 rintro Z9 s σ H xs us Q I r ⟨S,v,x,z,rfl,hs,rv,e,k⟩
 obtain⟨ps,e1,rfl⟩:=rE e
 obtain⟨a,ys,rfl,hq,ry⟩:=rv.seq hs e1
 cases v with
 | tup qs=>cases e1;exact p8 Z9 s σ H _ us Q I r ⟨a,ys,rfl,.inr ⟨hq,k.old _ (λ_ z=>nomatch z) (rv.val rfl)⟩⟩
 | lst qs=>exact p8 Z9 s σ H _ us Q I r ⟨a,ys,rfl,.inl ⟨hq,λl hl=>k.tup _ _ l rfl ry hl⟩⟩
 | scr qs=>exact p8 Z9 s σ H _ us Q I r ⟨a,ys,rfl,.inl ⟨hq,λl hl=>k.tup _ _ l rfl ry hl⟩⟩
 | _=>cases e1
theorem Ep:nO X (.type "list") (Rc X.K pw):=by
 rintro Z9 s σ H xs us Q I r ⟨S,v,x,z,rfl,hs,rv,e,k⟩
 obtain⟨ps,e1,rfl⟩:=rE e
 obtain⟨a,ys,rfl,hq,ry⟩:=rv.seq hs e1
 exact w8 Z9 s σ H _ us Q I r ⟨a,ys,rfl,Hc hq,λl hl=>k.lst _ _ l rfl ry hl⟩
theorem Kc (hc:X.calm=true):nO X (.builtin "min") (Rc2 X.K vo):=by
 rintro Z9 s σ H xs us Q I r ⟨S,v,w,x,y,z,rfl,hs,rv,rw',e,k⟩
 obtain⟨i,e1,e2⟩:=oz e
 obtain⟨j,e3,e4⟩:=oz e2
 cases nL e1;cases nL e3;cases e4
 obtain rfl:=rv.int
 obtain rfl:=rw'.int
 exact Ch hc Z9 s σ H _ us Q I r ⟨i,j,rfl,k.int⟩
theorem Ke (hc:X.calm=true):nO X (.builtin "max") (Rc2 X.K AA):=by
 rintro Z9 s σ H xs us Q I r ⟨S,v,w,x,y,z,rfl,hs,rv,rw',e,k⟩
 obtain⟨i,e1,e2⟩:=oz e
 obtain⟨j,e3,e4⟩:=oz e2
 cases nL e1;cases nL e3;cases e4
 obtain rfl:=rv.int
 obtain rfl:=rw'.int
 exact Ci hc Z9 s σ H _ us Q I r ⟨i,j,rfl,k.int⟩
theorem Vals.mapInt {ns:List Int}:∀ {us:List mF},Vals (ns.map V.int) us->∀ i:Nat,i<ns.length->∃ t,us[i]?=some (.int (ns.getD i 0) t):=λ{us} r i hi=>by
 obtain⟨u,e,t,rfl⟩:=r.get (i:=i) (x:=.int (ns.getD i 0)) (by simp[hi])
 exact⟨t,e⟩
theorem o8 (ns:List Int):∀ j,j<=ns.length->preSum (λi=>ns.getD i 0) j=(ns.take j).sum
 | 0,_=>by simp[preSum]
 | j+1,h=>by
  have hj:j<ns.length:=h
  show preSum _ j+ns.getD j 0=_
  rw[o8 ns j ⋯,ae hj,ib]
  simp[lP,hj]
theorem yU (B:Int)(hB:0<=B):∀ ns:List Int,(∀ n∈ns,-B<=n/\n<=B)->-(B*ns.length)<=ns.sum/\ns.sum<=B*ns.length
 | [],_=>by simp
 | n :: r,h=>by
  have ih:=yU B hB r λm hm=>h m (cI _ hm)
  have hn:=h n dQ
  rw[jM,gm]
  have e:B*((r.length+1:Nat):Int)=B*(r.length:Int)+B:=by rw[iB,k7];simp
  rw[e]
  lia
theorem zM (hc:X.calm=true):nO X (.builtin "sum") (λxs H Q=>∃ (a:mS)(ns:List Int),xs=[.ref a]/\SqL X.K H a (ns.map V.int)/\ns.length<=big/\(∀ n∈ns,-(2 ^ 40)<=n/\n<=2 ^ 40)/\Q (.int ns.sum) H):=by
 intro Z9 s σ H xs us Q I r h
 obtain⟨a,ns,rfl,hq,hz,hb,q⟩:=h
 obtain⟨u,rfl,rx⟩:=vals1 r
 cases rx
 obtain⟨Z7,r',pl,hz'⟩:=I.list hq
 have hlen:ns.length=Z7.length:=by have:=r'.length;simpa using this
 have alt:a<s.heap.objs.size:=by obtain⟨_,e,_⟩:=pl.isList;exact kI e
 have hh:X.A.in1.handled=none:=I.ok.hd hc
 refine jB (eM pl.isList ?_)
 refine⟨s.heap.objs.size,_,_,_,_,_,λi=>ns.getD i 0,rfl,lC hh s.heap.objs.size a (kj alt) Z7.toArray,⟨⟨_,da _ rfl,rfl,rfl⟩,pl.isList.at λo e=>bQ _ e⟩,?_,?_,?_,?_⟩
 ·intro b hb'
  simp at hb'
  rcases hb' with rfl|rfl
  ·show _<(s.heap.push _).objs.size;rw[jl];exact f7 _
  ·show _<(s.heap.push _).objs.size;rw[jl];exact fh alt
 ·intro i v hv
  have hv:Z7.toArray[i]?=some v:=hv
  have hi:i<ns.length:=by rw[hlen];simpa using (aG.mp hv).1
  obtain⟨t,e⟩:=Vals.mapInt r' i hi
  refine⟨t,?_⟩
  have e':Z7.toArray[i]?=some (.int (ns.getD i 0) t):=by simpa using e
  rw[hv] at e'
  exact gX e'
 ·intro j hj
  have hj':j<ns.length:=by rw[hlen];simpa using hj
  have hm:ns.getD j 0∈ns:=by simp[lP,hj']
  refine⟨?_,?_⟩
  ·have:=hb _ hm
   show -(2 ^ 63)<=ns.getD j 0/\ns.getD j 0<2 ^ 63
   lia
  ·rw[o8 ns (j+1) hj']
   have b2:=yU 1099511627776 (by decide) (ns.take (j+1)) λn hn=>by have:=hb n (cE hn);lia
   have l2:(ns.take (j+1)).length<=100000:=by rw[gi];unfold big at hz;lia
   unfold InLong;lia
 ·intro h' tk t' hk
  have e:preSum (λi=>ns.getD i 0) Z7.toArray.size=ns.sum:=by
   rw[fo,<- hlen,o8 ns _ (kW _),ga]
  rw[e]
  refine⟨.int ns.sum,H,?_,⟨t',rfl⟩,q⟩
  exact I.kept (t':=tk) λb o e=>hk b o (by simp;exact kj (kI e)) (bQ _ e)
theorem Cv {prog:l8}{w:mD}{A:mC}{Z7:List mF}{bs:List Bool}(r:Vals (bs.map V.bl) Z7):TruthOf prog w A (λi v=>Z7.toArray[i]?=some v) (λi=>bs.getD i false):=by
 intro i v s Q E hv hq
 have hlen:bs.length=Z7.length:=by have:=r.length;simpa using this
 have hi:i<bs.length:=by rw[hlen];simpa using (aG.mp hv).1
 obtain⟨u,e,ru⟩:=r.get (i:=i) (x:=.bl (bs.getD i false)) (by simp[hi])
 have e':Z7.toArray[i]?=some u:=by simpa using e
 rw[hv] at e'
 cases e'
 cases ru
 exact lg hq
theorem BA (bs:List Bool):(lL bs.length).all (λi=>bs.getD i false)=bs.all id:=by
 rw[iJ]
 simp only[gw,je,id]
 constructor
 ·intro h b hb
  obtain⟨i,hi,e⟩:=cH.mp hb
  have:=h i hi
  simpa[lP,hi,e] using this
 ·intro h i hi
  have:=h bs[i] (gn hi)
  simpa[lP,hi] using this
theorem zP (hc:X.calm=true):nO X (.builtin "all") (λxs H Q=>∃ (a:mS)(bs:List Bool),xs=[.ref a]/\SqL X.K H a (bs.map V.bl)/\Q (.bl (bs.all id)) H):=by
 intro Z9 s σ H xs us Q I r h
 obtain⟨a,bs,rfl,hq,q⟩:=h
 obtain⟨u,rfl,rx⟩:=vals1 r
 cases rx
 obtain⟨Z7,r',pl,hz'⟩:=I.list hq
 have hlen:bs.length=Z7.length:=by have:=r'.length;simpa using this
 have alt:a<s.heap.objs.size:=by obtain⟨_,e,_⟩:=pl.isList;exact kI e
 have hh:X.A.in1.handled=none:=I.ok.hd hc
 refine call_all_walk (eM pl.isList ?_)
 refine⟨s.heap.objs.size,_,_,_,_,_,λi=>bs.getD i false,rfl,lC hh s.heap.objs.size a (kj alt) Z7.toArray,⟨⟨_,da _ rfl,rfl,rfl⟩,pl.isList.at λo e=>bQ _ e⟩,Cv r',?_⟩
 intro h' tk hk
 rw[fo,<- hlen,BA]
 exact⟨.bl _,H,I.kept (t':=tk) λb o e=>hk b o (by simp;exact kj (kI e)) (bQ _ e),rfl,q⟩
theorem Hz (hc:X.calm=true):nO X (.builtin "sum") (Rc X.K OQ):=by
 rintro Z9 s σ H xs us Q I r ⟨S,v,x,z,rfl,hs,rv,e,k⟩
 obtain⟨ps,e1,e2⟩:=oz e
 obtain⟨n,e3,rfl⟩:=rE e2
 obtain⟨ns,e4,e5⟩:=oz e3
 obtain⟨hb,rfl⟩:=rn e5
 obtain⟨a,ys,rfl,hq,ry⟩:=rv.list hs e1
 cases nY ry e4
 refine zM hc Z9 s σ H _ us Q I r ⟨a,ns,rfl,hq,hb.1,λn hn=>?_,k.int⟩
 have:=gw.mp hb.2 n hn
 simpa[tu] using this
theorem MR (hc:X.calm=true):nO X (.builtin "all") (Rc X.K u7):=by
 rintro Z9 s σ H xs us Q I r ⟨S,v,x,z,rfl,hs,rv,e,k⟩
 obtain⟨ps,e1,e2⟩:=oz e
 obtain⟨bs,e3,rfl⟩:=rE e2
 obtain⟨a,ys,rfl,hq,ry⟩:=rv.list hs e1
 cases uM ry e3
 exact zP hc Z9 s σ H _ us Q I r ⟨a,bs,rfl,hq,k.bl⟩
theorem uh:∀ (xs:List Int) (b x:Int),oh b (xs++[x])=if x<oh b xs then x else oh b xs
 | [],b,x=>rfl
 | y :: ys,b,x=>by
  show oh (if y<b then y else b) (ys++[x])=_
  rw[uh ys];rfl
theorem vz (n:Int)(r:List Int):∀ k,k<=r.length->(n :: r)[argBest (λi j=>decide ((n :: r).getD i 0<(n :: r).getD j 0)) k]?=some (oh n (r.take k))
 | 0,_=>rfl
 | k+1,h=>by
  have ih:=vz n r k ⋯
  have hk:k<r.length:=h
  have e1:(n :: r).getD (argBest (λi j=>decide ((n :: r).getD i 0<(n :: r).getD j 0)) k) 0=oh n (r.take k):=by rw[aA,ih];rfl
  have e2:(n :: r).getD (k+1) 0=r[k]:=by simp[lP,hk]
  rw[ae hk,uh]
  simp only[argBest,e1,e2,decide_eq_true_eq]
  split
  ·simp[hk]
  ·exact ih
theorem Ka (hc:X.calm=true):nO X (.builtin "min") (Rc X.K xZ):=by
 rintro Z9 s σ H xs us Q I r ⟨S,v,x,z,rfl,hs,rv,e,k⟩
 obtain⟨ps,e1,e2⟩:=oz e
 obtain⟨ns,e3,e4⟩:=oz e2
 obtain⟨a,ys,rfl,hq,ry⟩:=rv.list hs e1
 obtain⟨u,rfl,ru⟩:=vals1 r
 cases (show u=Value.ref a from ru)
 obtain⟨Z7,r',pl,hz'⟩:=I.list hq
 have hh:X.A.in1.handled=none:=I.ok.hd hc
 have hlen:ys.length=Z7.length:=r'.length
 cases nY ry e3
 cases ns with
 | nil=>cases e4
 | cons n r =>
  cases e4
  have hl2:Z7.length=r.length+1:=by rw[<- hlen];simp
  have it:∀ (i:Nat)(v:mF),Z7.toArray[i]?=some v->∃ t,v=Value.int ((n :: r).getD i 0) t:=λi v hv=>by
   have hv:Z7[i]?=some v:=by simpa using hv
   have hi:=(aI.mp hv).1
   obtain⟨t,e⟩:=Vals.mapInt r' i (by simp;lia)
   rw[hv] at e
   exact⟨t,gX e⟩
  refine uK (bt:=λi j=>decide ((n :: r).getD i 0<(n :: r).getD j 0)) hh pl.isList (by simp;lia) (λi j u v s1 Q1 E1 _ hi hj q1=>?_) λv h' tk hv hk=>?_
  ·obtain⟨t1,rfl⟩:=it i u hi
   obtain⟨t2,rfl⟩:=it j v hj
   exact cX q1
  ·have hv:Z7[argBest (λi j=>decide ((n :: r).getD i 0<(n :: r).getD j 0)) (Z7.toArray.size-1)]?=some v:=by simpa using hv
   have hb:=vz n r r.length (kW _)
   rw[ga] at hb
   have hsz:Z7.toArray.size-1=r.length:=by simp;lia
   rw[hsz] at hv
   generalize argBest (λi j=>decide ((n :: r).getD i 0<(n :: r).getD j 0)) r.length=z at hv hb
   obtain⟨t,rfl⟩:=it z v (by simpa using hv)
   rw[aA,hb]
   exact⟨.int (oh n r),H,I.kept (t':=tk) hk,⟨t,rfl⟩,k.int⟩
theorem xC (hu:X.A.units+64<cLine)(hg:X.A.guards=some []){Z9:List (mS×Obj)}{s:mn}{σ:L2.St}{v z:FV}{a:mS}(I:Inv X Z9 σ H s)(hs:Same S H)(rv:RH X.K S H v (.ref a))(e:HU v=some z)(k:NewOr X.K S H Q z):wpAny (model X.prog X.w) X.A (lF (.type "str") [.ref a]) (EP X Z9 σ Q) X.xe s:=by
 obtain⟨d,e1,e2⟩:=oz e
 obtain⟨hf,rfl⟩:=rn e2
 obtain⟨as,ra⟩:=pT I hs rv (show RelV (.ref a) (.ref a) from rfl) e1
 have hdp:=qX e1
 unfold nB at hdp
 refine str_of_reads (h₀:=s.heap) ra (Eg d hf.1).1 (λz=>by rw[yB] at z;cases z) hg ⋯ (λ_ _ h=>h) (λh' u' tk hk=>?_) (GB hf.1 hf.2)
 exact⟨.str (qh d).shown,H,I.kept (t':=tk) hk,⟨u',rfl⟩,k.old _ (λ_ z=>nomatch z) rfl⟩
theorem MN (hu:X.A.units+64<cLine)(hg:X.A.guards=some []):nO X (.type "str") (Rc X.K xD):=by
 rintro Z9 s σ H xs us Q I r ⟨S,v,x,z,rfl,hs,rv,e,k⟩
 obtain⟨u,rfl,ru⟩:=vals1 r
 cases v with
 | int i =>
  obtain⟨hc,rfl⟩:=rn e
  obtain rfl:=rv.int
  exact w5 Z9 s σ H _ _ Q I r ⟨i,rfl,by have:=log2_lt (k:=150) (by decide) hc;lia,k.str⟩
 | non =>
  cases e
  cases (show x=.non from rv.val rfl);cases (show u=_ from ru)
  exact PySem.P.str_of_none ⟨.str _,H,I.tok _,⟨_,rfl⟩,k.str⟩
 | bl b =>
  cases e
  obtain rfl:=rv.bl
  cases (show u=_ from ru)
  exact PySem.P.str_of_bool ⟨.str (j9 (if b then "True" else "False")),H,I.tok _,⟨_,by cases b<;>rfl⟩,k.str⟩
 | str x =>
  cases e
  cases (show _=V.str _ from rv.val rfl);obtain⟨t,rfl⟩:=ru
  exact PySem.P.str_of_str ⟨.str _,H,I,⟨_,rfl⟩,k.str⟩
 | tup xs =>
  obtain⟨a,ys,rfl,_⟩:=rv.tup hs
  cases (show u=_ from ru)
  exact xC hu hg I hs rv e k
 | lst xs =>
  obtain⟨a,ys,rfl,_⟩:=rv.lst hs
  cases (show u=_ from ru)
  exact xC hu hg I hs rv e k
 | _=>cases e
end
structure CC where
 N:List Str
 sc:List (Str×lX)
 fns:List Str
 md:Md
 top:Bool
 oc:List (Str×lX)
 ms:List (Str×mS×Str)
 fl:List (mS×Str)
def CC.vis (C:CC)(x:Str):Bool:=match C.sc.lookup x with
 | some .local=>true
 | some .cell=>true
 | some .free=>true
 | _=>false
def CC.gl (C:CC)(x:Str):Bool:=decide (C.sc.lookup x=some .globalImplicit)
def CC.loc (C:CC)(x:Str):Bool:=match C.sc.lookup x with
 | some .local=>true
 | some .cell=>C.top || C.oc.lookup x == some .cell
 | _=>false
def CC.nm (C:CC) (i:Nat)(x:Str):Bool:=decide (C.N[i]?=some x) && C.vis x && !(x == ("__debug__":Str)) && !(x == ("__classdict__":Str))
inductive MtOk (P:l8)(w:mD)(K:ke)(mg:Str->Option mF)(base:mQ) (n:Nat)(s:Sp)(c:Str)(Ca:mS)(m:Str):Prop
 | mk (fa:_)(fd:_)(ps:_)(_:mg c=some (.ref Ca))(_:Cls K Ca)(_:(m=("__init__":Str)->Mk K Ca fa))(_:(m≠("__init__":Str)->Meth K Ca m fa))(_:Binds K fd ps [])(_:FnOk P w K mg base EF n fa fd ps s):MtOk P w K mg base n s c Ca m
structure Good (X:Cx)(C:CC) (n:Nat)(sp:ke->Nat->Sp):Prop where
 N:X.N=C.N
 sc:X.env.scope.names=C.sc
 kind:X.env.scope.kind=.function
 nd:C.N.Nodup
 calm:X.calm=true
 fn:∀ x,(C.top || C.oc.lookup x == some .cell)=true->X.fn x=true
 room:RoomS n X.A
 fns:∀ (f:Nat)(x:Str),C.fns[f]?=some x->∃ fa fd ps,X.mg x=some (.ref fa)/\i6 X.K (.ref fa)=true/\Binds X.K fd ps []/\FnOk X.prog X.w X.K X.mg X.base EF n fa fd ps (sp X.K f)
 blt:∀ b∈bltNames,X.mg (j9 b)=none
 mts:∀ (k:Nat)(c:Str)(Ca:mS)(m:Str),C.ms[k]?=some (c,Ca,m)->MtOk X.prog X.w X.K X.mg X.base n (sp X.K (C.fns.length+k)) c Ca m
 fls:∀ p∈C.fl,Cls X.K p.1/\xk X.K p.1 p.2
theorem b2 {a b:Bool}(h:(a && b)=true):a=true/\b=true:=by simpa using h
theorem nb {a:Bool}(h:(!a)=true):a=false:=by simpa using h
theorem de {p:Prop} [Decidable p] (h:decide p=true):p:=by simpa using h
inductive lv (K:ke)(md:Md)(e:EW)(σ:L2.St)(H:Hp)(Q:VK):Prop
 | mk (c:_)(L:_)(S:_)(Q0:_)(_:Iv K c md L σ S H)(_:e L Q0)(_:∀ v L',Q0 v L'->∀ x S' H',RV K S' v x->Iv K c md L' σ S' H'->Same S S'->Q x H'):lv K md e σ H Q
inductive lr (K:ke)(md:Md)(e:EW)(σ:L2.St)(H:Hp)(Q:VK):Prop
 | mk (c:_)(L:_)(S:_)(Q0:_)(_:Iv K c md L σ S H)(_:e L Q0)(_:∀ v L',Q0 v L'->∀ x S' H',RH K S' H' v x->Iv K c md L' σ S' H'->Same S S'->Q x H'):lr K md e σ H Q
def so (c:Cn)(md:Md)(L:mV)(σ:L2.St)(a:mS):Prop:=c.H0 a=none/\(∀ p∈c.pr,p.1≠a)/\∀ j w,nA md j≠.imm->L[j]?=some (some w)->σ[j]?≠some (some (.ref a))
inductive lf (K:ke)(md:Md)(e:EW)(σ:L2.St)(H:Hp)(Q:VK):Prop
 | mk (c:_)(L:_)(S:_)(Q0:_)(_:Iv K c md L σ S H)(_:e L Q0)(_:∀ v L',Q0 v L'->∀ a S' H',OwnAt K S' H' a v->so c md L' σ a->Iv K c md L' σ S' H'->Same S S'->Q (.ref a) H'):lf K md e σ H Q
inductive lb (K:ke)(md:Md)(e:BW)(σ:L2.St)(H:Hp)(Q:Bool->Hp->Prop):Prop
 | mk (c:_)(L:_)(S:_)(Q0:_)(_:Iv K c md L σ S H)(_:e L Q0)(_:∀ v L',Q0 v L'->∀ S' H',Iv K c md L' σ S' H'->Same S S'->Q v H'):lb K md e σ H Q
inductive la (K:ke)(md:Md)(e:AW)(σ:L2.St)(H:Hp)(Q:List V->Hp->Prop):Prop
 | mk (c:_)(L:_)(S:_)(Q0:_)(_:Iv K c md L σ S H)(_:e L Q0)(_:∀ v L',Q0 v L'->∀ x S' H',RVs K S' v x->Iv K c md L' σ S' H'->Same S S'->Q x H'):la K md e σ H Q
inductive lo (K:ke)(md:Md)(e:OW)(σ:L2.St)(H:Hp)(Q:Option Int->Hp->Prop):Prop
 | mk (c:_)(L:_)(S:_)(Q0:_)(_:Iv K c md L σ S H)(_:e L Q0)(_:∀ v L',Q0 v L'->∀ S' H',Iv K c md L' σ S' H'->Same S S'->Q v H'):lo K md e σ H Q
def FE (X:Cx)(C:CC)(x:Expr)(e:EW):Prop:=PE X.nox x (lv X.K C.md e)
def FR (X:Cx)(C:CC)(x:Expr)(e:EW):Prop:=PE X.nox x (lr X.K C.md e)
def FF (X:Cx)(C:CC)(x:Expr)(e:EW):Prop:=PE X.nox x (lf X.K C.md e)
def FB (X:Cx)(C:CC)(x:Expr)(e:BW):Prop:=PT X.nox x (lb X.K C.md e)
def FW (X:Cx)(C:CC)(x:Expr)(e:BW):Prop:=PW X.nox x (lb X.K C.md e)
def FA (X:Cx)(C:CC)(x:List Expr)(e:AW):Prop:=PA X.nox x (la X.K C.md e)
def FO (X:Cx)(C:CC)(x:Option Expr)(e:OW):Prop:=L2.PO X.nox x (lo X.K C.md e)
section
variable {X:Cx}
theorem PE.imp {e:Expr}{t u:TE}(h:PE X e t)(f:∀ σ H Q,u σ H Q->t σ H Q):PE X e u:=λZ9 s σ H Q I hu=>h Z9 s σ H Q I (f σ H Q hu)
theorem PT.imp {e:Expr}{t u:TT}(h:PT X e t)(f:∀ σ H Q,u σ H Q->t σ H Q):PT X e u:=λZ9 s σ H Q I hu=>h Z9 s σ H Q I (f σ H Q hu)
theorem PW.imp {e:Expr}{t u:TT}(h:PW X e t)(f:∀ σ H Q,u σ H Q->t σ H Q):PW X e u:=λw Z9 s σ H Q I hu=>h w Z9 s σ H Q I (f σ H Q hu)
theorem PA.imp {e:List Expr}{t u:TA}(h:PA X e t)(f:∀ σ H Q,u σ H Q->t σ H Q):PA X e u:=λp Z9 s σ H Q I hu=>h p Z9 s σ H Q I (f σ H Q hu)
theorem PO.imp {e:Option Expr}{t u:TO}(h:L2.PO X e t)(f:∀ σ H Q,u σ H Q->t σ H Q):L2.PO X e u:=λZ9 s σ H Q I hu=>h Z9 s σ H Q I (f σ H Q hu)
end
section
variable {X:Cx}{C:CC}{n:Nat}{sp:ke->Nat->Sp}
theorem Good.vis (G:Good X C n sp){x:Str}(h:C.vis x=true):K8 X.env.scope x:=by
 unfold CC.vis at h
 unfold K8
 rw[G.sc]
 split at h
 ·rename_i e;exact .inl e
 ·rename_i e;exact .inr (.inl e)
 ·rename_i e;exact .inr (.inr e)
 ·cases h
theorem Good.gl (G:Good X C n sp){x:Str}(h:C.gl x=true):Gl X x:=by
 show X.env.scope.names.lookup x=_
 rw[G.sc];exact de h
theorem Good.loc (G:Good X C n sp){x:Str}(h:C.loc x=true):L2.Loc X.env.scope x/\(X.fn x=true ∨ X.env.scope.names.lookup x=some .local):=by
 unfold CC.loc at h
 unfold L2.Loc
 rw[G.sc]
 split at h
 ·rename_i e;exact⟨.inl e,.inr e⟩
 ·rename_i e;exact⟨.inr e,.inl (G.fn x h)⟩
 ·cases h
variable {K:ke}{c:Cn}{md:Md}{L:mV}{σ:L2.St}{S H:Hp}
theorem Iv.rd (I:Iv K c md L σ S H){i:Nat}{v:FV}(e:lk L i=some v):∃ x,σ[i]?=some (some x)/\RH K S H v x:=by
 rw[pL] at e
 by_cases m:nA md i=.imm
 ·obtain⟨x,h1,h2⟩:=I.imm i v m e
  exact⟨x,h1,.inl h2⟩
 ·obtain⟨a,h1,h2,_⟩:=I.own i v m e
  exact⟨_,h1,.inr ⟨a,rfl,h2⟩⟩
theorem qS {Q:VK}{z:FV}(I:Iv K c md L σ S H)(k:∀ x S' H',RV K S' z x->Iv K c md L σ S' H'->Same S S'->Q x H'):NewOr K S H Q z where
 old:=λx _ r=>k x S H r I (Same.refl S)
 tup:=λps xs p e r hp=>k _ _ _ (by rw[e];exact⟨p,xs,rfl,nz,r.mono (nH (I.sn hp))⟩) (I.new hp _) (nH (I.sn hp))
 lst:=λps xs p e r hp=>k _ _ _ (by rw[e];exact⟨p,xs,rfl,nz,r.mono (nH (I.sn hp))⟩) (I.new hp _) (nH (I.sn hp))
theorem Iv.fresh (I:Iv K c md L σ S H){p:mS}(h:H p=none):so c md L σ p:=by
 refine⟨I.h0 h,λq hq z=>?_,λj w m e z=>?_⟩
 ·rw[<- z,(I.prs q hq).1] at h;cases h
 ·obtain⟨a,e1,⟨_,_,_,_,e2,_⟩,_⟩:=I.own j w m e
  rw[z] at e1;cases e1
  rw[h] at e2;cases e2
theorem Dt {Q:VK}{z:FV}(I:Iv K c md L σ S H)(hz:∃ ps,z=.lst ps)(k:∀ a S' H',OwnAt K S' H' a z->so c md L σ a->Iv K c md L σ S' H'->Same S S'->Q (.ref a) H'):NewOr K S H Q z where
 old:=λx n _=>let ⟨ps,e⟩:=hz;absurd e (n ps)
 tup:=λps xs p e r hp=>by obtain⟨qs,e2⟩:=hz;rw[e2] at e;cases e
 lst:=λps xs p e r hp=>by subst e;exact k p S _ ⟨I.sn hp,ps,xs,rfl,nz,r⟩ (I.fresh hp) (I.lay hp _) (Same.refl S)
theorem Pl (G:Good X C n sp){i:Nat}{x:Str}{pos:Pos}(h:C.nm i x=true)(m:nA C.md i=.imm):FE X C (.Name x pos) (mT i):=by
 have h:=b2 h;have h1:=b2 h.1;have h2:=b2 h1.1
 refine PE.imp (zg (by show X.N[i]?=_;rw[G.N];exact de h2.1) (G.vis h2.2) (nb h1.2) (nb h.2)) λσ H Q ⟨c,L,S,Q0,I,h,k⟩=>?_
 obtain⟨v,e,q⟩:=oB h
 obtain⟨x,e1,r⟩:=I.imm i v m ((pL _ _ _).mp e)
 exact⟨x,e1,k v L q x S H r I (Same.refl S)⟩
theorem Pf (G:Good X C n sp){i:Nat}{x:Str}{pos:Pos}(h:C.nm i x=true):FR X C (.Name x pos) (mT i):=by
 have h:=b2 h;have h1:=b2 h.1;have h2:=b2 h1.1
 refine PE.imp (zg (by show X.N[i]?=_;rw[G.N];exact de h2.1) (G.vis h2.2) (nb h1.2) (nb h.2)) λσ H Q ⟨c,L,S,Q0,I,h,k⟩=>?_
 obtain⟨v,e,q⟩:=oB h
 obtain⟨x,e1,r⟩:=I.rd e
 exact⟨x,e1,k v L q x S H r I (Same.refl S)⟩
theorem fr_of {x:Expr}{e:EW}(h:FE X C x e):FR X C x e:=PE.imp h λσ H Q q1=>by obtain⟨c,L,S,Q0,I,h,k⟩:=q1;exact⟨c,L,S,Q0,I,h,λv L' q x S' H' r=>k v L' q x S' H' (.inl r)⟩
theorem Gk {x:Expr}{v:FV}{u:V}(h:PE X.nox x (tC u))(r:∀ S,RV X.K S v u):FE X C x (eC v):=PE.imp h λσ H Q q1=>by obtain⟨c,L,S,Q0,I,h,k⟩:=q1;exact k v L h u S H (r S) I (Same.refl S)
theorem Jn {i j pos}:FE X C (.Constant (.int i) j pos) (eC (.int i)):=Gk II λ_=>rfl
theorem fe_bl {i j pos}:FE X C (.Constant (.bool i) j pos) (eC (.bl i)):=Gk LV λ_=>rfl
theorem Pu {j pos}:FE X C (.Constant .none j pos) (eC .non):=Gk IH λ_=>rfl
theorem Po {i:String} {j pos}:FE X C (.Constant (.str (j9 i)) j pos) (eC (.str i)):=Gk ID λ_=>rfl
section
variable {f:FV->FV->Option FV}{a b:Expr}{ea eb:EW}{pos:Pos}{i:Nat}{x:Str}
theorem pY (G:Good X C n sp)(h:C.nm i x=true):PE X.nox (.Name x pos) (tVar i):=by
 have h:=b2 h;have h1:=b2 h.1;have h2:=b2 h1.1
 exact zg (by show X.N[i]?=_;rw[G.N];exact de h2.1) (G.vis h2.2) (nb h1.2) (nb h.2)
theorem KY {r:R2}{σ:L2.St}{H:Hp}{Q:VK}(hh:∃ (c:Cn)(L:mV)(S:Hp)(Q0:FV->FV->mV->Prop),Iv K c md L σ S H/\ea L (λx L1=>eb L1 λy L2=>Q0 x y L2)/\∀ v w L' S' H' x y,Q0 v w L'->RV K S' v x->RH K S' H' w y->Iv K c md L' σ S' H'->Same S S'->r x y H' Q):HJ r (lv K md ea) (lr K md eb) σ H Q:=by
 obtain⟨c,L,S,Q0,I,h,k⟩:=hh
 exact⟨c,L,S,_,I,h,λv L1 hv x S1 H1 r1 I1 s1=>⟨c,L1,S1,_,I1,hv,λw L2 hw y S2 H2 r2 I2 s2=>k v w L2 S2 H2 x y hw (r1.mono s2) r2 I2 (s1.trans s2)⟩⟩
theorem O4 {r:R2}{σ:L2.St}{H:Hp}{Q:VK}(hh:∃ (c:Cn)(L:mV)(S:Hp)(Q0:FV->FV->mV->Prop),Iv K c md L σ S H/\(wp (lk L i) λ_=>eb L λy L1=>wp (lk L1 i) λx=>Q0 x y L1)/\∀ v w L' S' H' x y,Q0 v w L'->RH K S' H' v x->RH K S' H' w y->Iv K c md L' σ S' H'->Same S S'->r x y H' Q):HJ r (tVar i) (lr K md eb) σ H Q:=by
 obtain⟨c,L,S,Q0,I,h,k⟩:=hh
 obtain⟨_,e,h⟩:=oB h
 obtain⟨x,e1,_⟩:=I.rd e
 refine⟨x,e1,c,L,S,_,I,h,λw L2 hw y S2 H2 r2 I2 s2=>?_⟩
 obtain⟨v,e2,q⟩:=oB hw
 obtain⟨x',e3,r1⟩:=I2.rd e2
 rw[e1] at e3;cases e3
 exact k v w L2 S2 H2 x y q r1 r2 I2 s2
theorem Ly {Q0:FV->mV->Prop}{Q:VK}{v w:FV}{x y:V}(I:Iv K c md L σ S H)(rv:RH K S H v x)(rw':RH K S H w y)(h:wp (f v w) λz=>Q0 z L)(k:∀ z,Q0 z L->∀ x S' H',RV K S' z x->Iv K c md L σ S' H'->Same S S'->Q x H'):Rq K f x y H Q:=by
 obtain⟨z,e,q⟩:=oB h
 exact⟨S,v,w,z,I.sub,rv,rw',e,qS I (k z q)⟩
theorem L6 (h:PE X.nox a (HJ (Rq X.K f) (lv X.K C.md ea) (lr X.K C.md eb))):FE X C a (mX f ea eb):=PE.imp h λσ H Q ⟨c,L,S,Q0,I,h,k⟩ =>
 KY ⟨c,L,S,λx y L2=>wp (f x y) λz=>Q0 z L2,I,h,λv w L' S' H' x y q r1 r2 I' s'=>Ly I' (.inl r1) r2 q λz qz x S2 H2 r I2 s2=>k z L' qz x S2 H2 r I2 (s'.trans s2)⟩
variable {op:lW}
theorem si (ho:pD X.nox (binaryOp op) (Rq X.K f))(ha:FE X C a ea)(hb:FR X C b eb):FE X C (.BinOp a op b pos) (mX f ea eb):=L6 (Hl ho ha hb)
theorem PM (ha:FE X C a ea)(hb:FR X C b eb):FE X C (.BinOp a .Add b pos) (mX m8 ea eb):=si Hi ha hb
theorem Pn (ha:FE X C a ea)(hb:FR X C b eb):FE X C (.BinOp a .Sub b pos) (mX uV ea eb):=si Hg ha hb
theorem Pv (ha:FE X C a ea)(hb:FR X C b eb):FE X C (.BinOp a .Mult b pos) (mX pR ea eb):=si C1 ha hb
theorem Ob (ha:FE X C a ea)(hb:FR X C b eb):FE X C (.BinOp a .FloorDiv b pos) (mX vF ea eb):=si Ii ha hb
theorem Pw (ha:FE X C a ea)(hb:FR X C b eb):FE X C (.BinOp a .Mod b pos) (mX t5 ea eb):=si LD ha hb
theorem Pr (ha:FE X C a ea)(hb:FR X C b eb):FE X C (.BinOp a .Pow b pos) (mX ze ea eb):=si LB ha hb
def rm (f:FV->FV->Option FV)(v w:FV):Option FV:=(f v w).bind λz=>(t6 z).map λxs=>.lst xs
theorem Mw (ho:pD X.nox (binaryOp op) (Rq X.K f))(ha:FE X C a ea)(hb:FR X C b eb):FF X C (.BinOp a op b pos) (mX (rm f) ea eb):=PE.imp (Hl ho ha hb) λσ H Q ⟨c,L,S,Q0,I,h,k⟩ =>
 KY ⟨c,L,S,λx y L2=>wp (rm f x y) λz=>Q0 z L2,I,h,λv w L' S' H' x y q r1 r2 I' s'=>by
  obtain⟨z,e,q⟩:=oB q
  obtain⟨z',e1,e2⟩:=oz e
  obtain⟨xs,e3,rfl⟩:=rE e2
  cases p5 e3
  exact⟨S',v,w,_,I'.sub,.inl r1,r2,e1,Dt I' ⟨xs,rfl⟩ λa S2 H2 o fr I2 s2=>k _ L' q a S2 H2 o fr I2 (s'.trans s2)⟩⟩
theorem Pj (ha:FE X C a ea)(hb:FR X C b eb):FF X C (.BinOp a .Mult b pos) (mX (rm pR) ea eb):=Mw C1 ha hb
variable {cop:mN}
theorem sL (ho:pD X.nox (compareOp cop) (Rq X.K f))(ha:FE X C a ea)(hb:FR X C b eb)(hm:behindInMarks cop b=false):FE X C (.Compare a [cop] [b] pos) (mX f ea eb):=L6 (Fn ho ha hb hm)
def qy (f:FV->FV->Option FV):Prop:=∀ v w z,f v w=some z->∃ b,z=.bl b
theorem HH {Q0:Bool->mV->Prop}{Q:Bool->Hp->Prop}{v w:FV}{x y:V}(tb:qy f)(I:Iv K c md L σ S H)(rv:RH K S H v x)(rw':RH K S H w y)(h:wp (f v w) λz=>wp (sv z) λb=>Q0 b L)(k:∀ z,Q0 z L->Q z H):Rq K f x y H (λx H'=>∃ k,x=.bl k/\Q k H'):=by
 obtain⟨z,e,q⟩:=oB h
 obtain⟨b,rfl⟩:=tb v w z e
 exact⟨S,v,w,_,I.sub,rv,rw',e,⟨λx _ r=>⟨b,r,k b q⟩,λ_ _ _ e=>(nomatch e),λ_ _ _ e=>(nomatch e)⟩⟩
theorem sM (tb:qy f)(ho:pD X.nox (compareOp cop) (Rq X.K f))(ha:FE X C a ea)(hb:FR X C b eb)(hm:behindInMarks cop b=false):FB X C (.Compare a [cop] [b] pos) (nk (mX f ea eb)):=PT.imp (Fd ho ha hb hm) λσ H Q ⟨c,L,S,Q0,I,h,k⟩ =>
 KY ⟨c,L,S,λx y L2=>wp (f x y) λz=>wp (sv z) λb=>Q0 b L2,I,h,λv w L' S' H' x y q r1 r2 I' s'=>HH tb I' (.inl r1) r2 q λz qz=>k z L' qz S' H' I' s'⟩
end
end
def nv:Expr->Bool|.Starred ..=>true|_=>false
def rz:Expr->Bool|.Slice ..=>true|_=>false
def C9:Expr->Bool
 | .UnaryOp .Not _ _=>false
 | .BoolOp ..=>false
 | .IfExp ..=>false
 | .Compare ..=>false
 | _=>true
section
variable {X:Cx}{C:CC}{n:Nat}{sp:ke->Nat->Sp}{a b d x y:Expr}{ea eb ec:EW}{pos:Pos}
theorem m3 {xs:List Expr}{env:Env}(h:nv x=false):starEach (x :: xs) env=(false,eval x env) :: starEach xs env:=by
 cases x<;>first|rfl|(cases h;done)
theorem xO (h:rz y=false):Bd y:=by
 intro o i
 cases y<;>first|rfl|(cases h;done)
theorem wy {env:Env}(h:C9 x=true):∀ whole,isTrue x env whole=(do let v <- whole;standAt x.pos;holding [v] (PySem.truthy v)):=by
 intro whole
 cases x<;>first|rfl|(cases h;done)|(rename_i op x pos;cases op<;>first|rfl|(cases h;done))
theorem fe_eq (G:Good X C n sp)(ha:FE X C a ea)(hb:FR X C b eb):FE X C (.Compare a [.Eq] [b] pos) (mX qI ea eb):=sL (LN G.room.units) ha hb (oq _ (by decide) (by decide))
theorem fe_ne (G:Good X C n sp)(ha:FE X C a ea)(hb:FR X C b eb):FE X C (.Compare a [.NotEq] [b] pos) (mX uY ea eb):=sL (LC G.room.units) ha hb (oq _ (by decide) (by decide))
theorem fe_lt (G:Good X C n sp)(ha:FE X C a ea)(hb:FR X C b eb):FE X C (.Compare a [.Lt] [b] pos) (mX BR ea eb):=sL (Ih G.room.units) ha hb (oq _ (by decide) (by decide))
theorem fe_le (G:Good X C n sp)(ha:FE X C a ea)(hb:FR X C b eb):FE X C (.Compare a [.LtE] [b] pos) (mX Ht ea eb):=sL (LH G.room.units) ha hb (oq _ (by decide) (by decide))
theorem fe_gt (ha:FE X C a ea)(hb:FR X C b eb):FE X C (.Compare a [.Gt] [b] pos) (mX EI ea eb):=sL LL ha hb (oq _ (by decide) (by decide))
theorem fe_ge (ha:FE X C a ea)(hb:FR X C b eb):FE X C (.Compare a [.GtE] [b] pos) (mX D0 ea eb):=sL LM ha hb (oq _ (by decide) (by decide))
theorem Cy {f:FV->FV->Option Bool}{g:Bool->FV}(h:∀ b,∃ c,g b=.bl c):qy λv w=>(f v w).map g:=λv w z e=>by
 obtain⟨b,_,rfl⟩:=rE e
 exact h b
theorem wf {f:Int->Int->Bool}:qy (pE λi j=>some (.bl (f i j))):=λv w z e=>by
 obtain⟨i,_,e⟩:=oz e
 obtain⟨j,_,e⟩:=oz e
 cases e;exact⟨_,rfl⟩
theorem Lb:qy BR:=λv w z e=>by
 cases v with
 | tup xs =>
  obtain⟨_,_,e⟩:=oz e
  obtain⟨_,_,e⟩:=oz e
  obtain⟨_,_,e⟩:=oz e
  cases e;exact⟨_,rfl⟩
 | _=>exact wf _ w z e
theorem Lc:qy Ht:=λv w z e=>by
 cases v with
 | tup xs =>
  obtain⟨_,_,e⟩:=oz e
  obtain⟨_,_,e⟩:=oz e
  obtain⟨_,_,e⟩:=oz e
  cases e;exact⟨_,rfl⟩
 | _=>exact wf _ w z e
theorem fb_eq (G:Good X C n sp)(ha:FE X C a ea)(hb:FR X C b eb):FB X C (.Compare a [.Eq] [b] pos) (nk (mX qI ea eb)):=sM (Cy λb=>⟨b,rfl⟩) (LN G.room.units) ha hb (oq _ (by decide) (by decide))
theorem fb_ne (G:Good X C n sp)(ha:FE X C a ea)(hb:FR X C b eb):FB X C (.Compare a [.NotEq] [b] pos) (nk (mX uY ea eb)):=sM (Cy λb=>⟨!b,rfl⟩) (LC G.room.units) ha hb (oq _ (by decide) (by decide))
theorem fb_lt (G:Good X C n sp)(ha:FE X C a ea)(hb:FR X C b eb):FB X C (.Compare a [.Lt] [b] pos) (nk (mX BR ea eb)):=sM Lb (Ih G.room.units) ha hb (oq _ (by decide) (by decide))
theorem fb_gt (ha:FE X C a ea)(hb:FR X C b eb):FB X C (.Compare a [.Gt] [b] pos) (nk (mX EI ea eb)):=sM wf LL ha hb (oq _ (by decide) (by decide))
theorem fb_ge (ha:FE X C a ea)(hb:FR X C b eb):FB X C (.Compare a [.GtE] [b] pos) (nk (mX D0 ea eb)):=sM wf LM ha hb (oq _ (by decide) (by decide))
section
variable {cop cop':mN}{f g:FV->FV->Option FV}
theorem El (tf:qy f){σ:L2.St}{S H:Hp}{Q:VK}{c:Cn}{L:mV}{Q1:FV->mV->Prop}(I:Iv X.K c C.md L σ S H)(h:uA f g ea eb ec L Q1)
  (kf:∀ L' S' H',Q1 (.bl false) L'->Iv X.K c C.md L' σ S' H'->Same S S'->Q (.bl false) H')(kg:∀ w z L' S' H' y u,(wp (g w z) λq=>Q1 q L')->RV X.K S' w y->RH X.K S' H' z u->Iv X.K c C.md L' σ S' H'->Same S S'->Rq X.K g y u H' Q) :
  CB (Rq X.K f) (Rq X.K g) (lv X.K C.md ea) (lv X.K C.md eb) (lr X.K C.md ec) σ H Q:=by
 refine⟨c,L,S,_,I,h,λv L1 hv x S1 H1 r1 I1 s1=>⟨c,L1,S1,_,I1,hv,λw L2 hw y S2 H2 r2 I2 s2=>?_⟩⟩
 obtain⟨r,e,q⟩:=oB hw
 obtain⟨b,rfl⟩:=tf v w r e
 refine⟨S2,v,w,_,I2.sub,.inl (r1.mono s2),.inl r2,e,⟨λu _ ru=>⟨b,ru,?_⟩,λ_ _ _ e=>(nomatch e),λ_ _ _ e=>(nomatch e)⟩⟩
 have q:if b=true then ec L2 λz L3=>wp (g w z) λq=>Q1 q L3 else Q1 (.bl false) L2:=q
 cases b with
 | false=>rw[if_neg eB] at q ⊢;exact kf L2 S2 H2 q I2 (s1.trans s2)
 | true =>
  rw[if_pos rfl] at q ⊢
  exact⟨c,L2,S2,_,I2,q,λz L3 hz u S3 H3 r3 I3 s3=>kg w z L3 S3 H3 y u hz (r2.mono s3) r3 I3 (s1.trans (s2.trans s3))⟩
theorem D6 (tf:qy f)(ho:pD X.nox (compareOp cop) (Rq X.K f))(ho':pD X.nox (compareOp cop') (Rq X.K g))(ha:FE X C a ea)(hb:FE X C b eb)(hc:FR X C d ec)(hm:lastMarks [cop,cop'] [b,d]=false):FE X C (.Compare a [cop,cop'] [b,d] pos) (uA f g ea eb ec) :=
 PE.imp (Dm ho ho' ha hb hc hm) λσ H Q q1=>by obtain⟨c,L,S,Q0,I,h,k⟩:=q1;exact El tf I h (λL' S' H' q I' s'=>k _ L' q _ S' H' rfl I' s') λw z L' S' H' y u q r1 r2 I' s'=>Ly I' (.inl r1) r2 q λt qt x S4 H4 rt I4 s4=>k t L' qt x S4 H4 rt I4 (s'.trans s4)
theorem N9 (G:Good X C n sp)(ha:FE X C a ea)(hb:FE X C b eb)(hc:FR X C d ec)(hm:lastMarks [.LtE,.Lt] [b,d]=false):FE X C (.Compare a [.LtE,.Lt] [b,d] pos) (uA Ht BR ea eb ec):=D6 Lc (LH G.room.units) (Ih G.room.units) ha hb hc hm
end
end
section
variable {X:Cx}{C:CC}{n:Nat}{sp:ke->Nat->Sp}{a b d x:Expr}{ea eb:EW}{ba bb:BW}{pos p:Pos}
variable {K:ke}{S H:Hp}
theorem Dr {v:FV}{x:V}(r1:RH K S H v x):qr v=some (.bl (decide (x=V.non)))/\qR v=some (.bl (!decide (x=V.non))):=by
 rcases r1 with r1|⟨a,rfl,_,ps,xs,e9,_⟩
 ·cases v<;>first|(cases (show x=_ from r1);exact⟨rfl,rfl⟩;done)|(obtain⟨a,_,rfl,_⟩:=r1;exact⟨rfl,rfl⟩;done)|(obtain⟨a,rfl,_⟩:=r1;exact⟨rfl,rfl⟩;done)
 ·cases v<;>first|(cases e9;done)|exact⟨rfl,rfl⟩
theorem MU {t:Bool}{v:FV}{x:V}(r1:RH K S H v x):Mn t v=some (.bl (decide (x=V.bl t)))/\wD t v=some (.bl (!decide (x=V.bl t))):=by
 rcases r1 with r1|⟨a,rfl,_,ps,xs,e9,_⟩
 ·cases v<;>first|(cases (show x=_ from r1);exact⟨rfl,rfl⟩;done)|(cases (show x=_ from r1);rename_i u;cases t<;>cases u<;>exact⟨rfl,rfl⟩)|(obtain⟨a,_,rfl,_⟩:=r1;exact⟨rfl,rfl⟩;done)|(obtain⟨a,rfl,_⟩:=r1;exact⟨rfl,rfl⟩;done)
 ·cases v<;>first|(cases e9;done)|exact⟨rfl,rfl⟩
theorem P3 {j pos'}(ha:FR X C a ea):FB X C (.Compare a [.Is] [.Constant .none j pos'] pos) (nk (nE qr ea)):=PT.imp (y0 (IJ ha)) λσ H Q q1=>by obtain⟨c,L,S,Q0,I,h,k⟩:=q1;exact
 ⟨c,L,S,_,I,h,λv L1 hv x S1 H1 r1 I1 s1=>by
  obtain⟨z,e3,q⟩:=oB hv
  rw[(Dr r1).1] at e3;cases e3
  exact⟨_,rfl,k _ L1 q S1 H1 I1 s1⟩⟩
theorem Og {j pos'}(ha:FR X C a ea):FB X C (.Compare a [.IsNot] [.Constant .none j pos'] pos) (nk (nE qR ea)):=PT.imp (y0 (Fq ha)) λσ H Q q1=>by obtain⟨c,L,S,Q0,I,h,k⟩:=q1;exact
 ⟨c,L,S,_,I,h,λv L1 hv x S1 H1 r1 I1 s1=>by
  obtain⟨z,e3,q⟩:=oB hv
  rw[(Dr r1).2] at e3;cases e3
  exact⟨_,rfl,k _ L1 q S1 H1 I1 s1⟩⟩
theorem Oh {t:Bool} {j pos'}(ha:FR X C a ea):FB X C (.Compare a [.IsNot] [.Constant (.bool t) j pos'] pos) (nk (nE (wD t) ea)):=PT.imp (y0 (Fs ha)) λσ H Q q1=>by obtain⟨c,L,S,Q0,I,h,k⟩:=q1;exact
 ⟨c,L,S,_,I,h,λv L1 hv x S1 H1 r1 I1 s1=>by
  obtain⟨z,e3,q⟩:=oB hv
  rw[(MU r1).2] at e3;cases e3
  exact⟨_,rfl,k _ L1 q S1 H1 I1 s1⟩⟩
theorem Pt (ha:FE X C a ea):FE X C (.UnaryOp .Not a pos) (nE FH ea):=PE.imp (IG ha) λσ H Q q1=>by obtain⟨c,L,S,Q0,I,h,k⟩:=q1;exact
 ⟨c,L,S,_,I,h,λv L1 hv x S1 H1 r1 I1 s1=>by
  obtain⟨z,e,q⟩:=oB hv
  obtain⟨b,e1,rfl⟩:=rE e
  cases Kh e1
  exact⟨b,r1,k _ L1 q _ S1 H1 rfl I1 s1⟩⟩
theorem Jm (ha:FE X C a ea):FE X C (.UnaryOp .USub a pos) (nE BM ea):=PE.imp (LU HF ha) λσ H Q q1=>by obtain⟨c,L,S,Q0,I,h,k⟩:=q1;exact
 ⟨c,L,S,_,I,h,λv L1 hv x S1 H1 r1 I1 s1=>by
  obtain⟨z,e,q⟩:=oB hv
  obtain⟨b,e1,rfl⟩:=rE e
  cases nL e1
  exact⟨b,r1,k _ L1 q _ S1 H1 rfl I1 s1⟩⟩
theorem wb {v:FV}{u:V}{t:Bool}(s:Same S H)(r:RH K S H v u)(e:sv v=some t):Ez K u H t:=by
 have em:∀ {ps:List FV}{xs:List V},RVs K S ps xs->(!ps.isEmpty) = !xs.isEmpty:=λ{ps xs} h=>by cases ps<;>cases xs<;>first|rfl|(have:=h.length;simp at this)
 cases v with
 | non=>cases (show u=V.non from r.val rfl);cases e;exact rfl
 | bl c=>cases r.bl;cases e;exact rfl
 | int c=>cases r.int;cases e;exact rfl
 | str c=>cases e
 | shn c=>cases e
 | dct _ _=>cases e
 | dci _ _=>cases e
 | dcz _ _ _=>cases e
 | obj _ _ _ _=>cases e
 | dcn _ _ _=>cases e
 | tup ps =>
  obtain⟨a,xs,rfl,h1,h2⟩:=r.tup s
  cases e
  exact .inr (.inl ⟨xs,SqT.of h1,em h2⟩)
 | lst l =>
  obtain⟨a,xs,rfl,h1,h2⟩:=r.lst s
  cases e
  exact .inl ⟨xs,SqL.of h1,em h2⟩
 | scr ns =>
  cases e
  obtain⟨a,xs,rfl,h1,h2⟩:=r.list s (show oF (.scr ns)=_ from rfl)
  refine .inl ⟨_,h1,?_⟩
  rw[<- em h2];cases ns<;>rfl
theorem Fp {rest:List Expr}{ta tb:TE}(ha:PE X a ta)(hb:PE X (.BoolOp .And (b :: rest) pos) tb) :
  PE X (.BoolOp .And (a :: b :: rest) pos) (λσ H Q=>ta σ H λx H1=>∃ c,Ez X.K x H1 c/\(if c=true then tb σ H1 Q else Q x H1)):=by
 intro Z9 s σ H Q I h
 refine BoolOp_and (nV (ha Z9 s σ H _ I h) λv s1 ⟨x,H1,I1,r1,c,tv,q1⟩=>?_)
 refine nV (yT Z9 s1 σ H1 x v (λc' H'=>c'=c/\H'=H1) I1 r1 ⟨c,tv,rfl,rfl⟩) λb s2 q2=>?_;obtain⟨H2,I2,e1,e2⟩:=q2
 subst e1 e2
 cases b with
 | true=>exact hb Z9 s2 σ H2 Q I2 (by simpa using q1)
 | false=>exact⟨x,H2,I2,r1,by simpa using q1⟩
theorem IE {rest:List Expr}{ta tb:TE}(ha:PE X a ta)(hb:PE X (.BoolOp .Or (b :: rest) pos) tb) :
  PE X (.BoolOp .Or (a :: b :: rest) pos) (λσ H Q=>ta σ H λx H1=>∃ c,Ez X.K x H1 c/\(if c=true then Q x H1 else tb σ H1 Q)):=by
 intro Z9 s σ H Q I h
 refine BoolOp_or (nV (ha Z9 s σ H _ I h) λv s1 ⟨x,H1,I1,r1,c,tv,q1⟩=>?_)
 refine nV (yT Z9 s1 σ H1 x v (λc' H'=>c'=c/\H'=H1) I1 r1 ⟨c,tv,rfl,rfl⟩) λb s2 q2=>?_;obtain⟨H2,I2,e1,e2⟩:=q2
 subst e1 e2
 cases b with
 | false=>exact hb Z9 s2 σ H2 Q I2 (by simpa using q1)
 | true=>exact⟨x,H2,I2,r1,by simpa using q1⟩
theorem Ps {op:BoolOp}(ha:FE X C a ea):FE X C (.BoolOp op [a] pos) ea:=IF ha
theorem PK {rest:List Expr}(ha:FE X C a ea)(hb:FE X C (.BoolOp .And (b :: rest) pos) eb):FE X C (.BoolOp .And (a :: b :: rest) pos) (pX ea eb):=PE.imp (Fp ha hb) λσ H Q q1=>by obtain⟨c,L,S,Q0,I,h,k⟩:=q1;exact
 ⟨c,L,S,_,I,h,λv L1 hv x S1 H1 r1 I1 s1=>by
  obtain⟨t,e,q⟩:=oB hv
  refine⟨t,wb I1.sub (.inl r1) e,?_⟩
  cases t with
  | true=>exact⟨c,L1,S1,Q0,I1,q,λv L' q x S' H' r I' s'=>k v L' q x S' H' r I' (s1.trans s')⟩
  | false=>exact k v L1 q x S1 H1 r1 I1 s1⟩
theorem fe_or {rest:List Expr}(ha:FE X C a ea)(hb:FE X C (.BoolOp .Or (b :: rest) pos) eb):FE X C (.BoolOp .Or (a :: b :: rest) pos) (Op ea eb):=PE.imp (IE ha hb) λσ H Q q1=>by obtain⟨c,L,S,Q0,I,h,k⟩:=q1;exact
 ⟨c,L,S,_,I,h,λv L1 hv x S1 H1 r1 I1 s1=>by
  obtain⟨t,e,q⟩:=oB hv
  refine⟨t,wb I1.sub (.inl r1) e,?_⟩
  cases t with
  | false=>exact⟨c,L1,S1,Q0,I1,q,λv L' q x S' H' r I' s'=>k v L' q x S' H' r I' (s1.trans s')⟩
  | true=>exact k v L1 q x S1 H1 r1 I1 s1⟩
theorem fe_if (hc:FB X C d ba)(ha:FE X C a ea)(hb:FE X C b eb):FE X C (.IfExp d a b pos) (AT ba ea eb):=PE.imp (Dj hc ha hb) λσ H Q q1=>by obtain⟨c,L,S,Q0,I,h,k⟩:=q1;exact
 ⟨c,L,S,_,I,h,λt L1 hv S1 H1 I1 s1=>by
  cases t with
  | true=>exact⟨c,L1,S1,Q0,I1,hv,λv L' q x S' H' r I' s'=>k v L' q x S' H' r I' (s1.trans s')⟩
  | false=>exact⟨c,L1,S1,Q0,I1,hv,λv L' q x S' H' r I' s'=>k v L' q x S' H' r I' (s1.trans s')⟩⟩
theorem PZ (hp:C9 a=true)(ha:FR X C a ea):FB X C a (nk ea):=PT.imp (C5 ha (wy hp)) λσ H Q q1=>by obtain⟨c,L,S,Q0,I,h,k⟩:=q1;exact
 ⟨c,L,S,_,I,h,λv L1 hv x S1 H1 r1 I1 s1=>by
  obtain⟨t,e,q⟩:=oB hv
  exact⟨t,wb I1.sub r1 e,k t L1 q S1 H1 I1 s1⟩⟩
theorem P2 (ha:FB X C a ba):FB X C (.UnaryOp .Not a pos) (pP ba):=PT.imp (Iq ha) λσ H Q q1=>by obtain⟨c,L,S,Q0,I,h,k⟩:=q1;exact⟨c,L,S,_,I,h,λt L1 hv S1 H1 I1 s1=>k _ L1 hv S1 H1 I1 s1⟩
theorem NF (ha:FB X C a ba):FW X C (.BoolOp .And [a] pos) ba:=Fb ha
theorem O6 (ha:FB X C a ba):FW X C (.BoolOp .Or [a] pos) ba:=Im ha
theorem O7 {rest:List Expr}(ha:FB X C a ba)(hb:FW X C (.BoolOp .And (b :: rest) pos) bb):FW X C (.BoolOp .And (a :: b :: rest) pos) (zR ba bb):=PW.imp (Io ha hb) λσ H Q q1=>by obtain⟨c,L,S,Q0,I,h,k⟩:=q1;exact
 ⟨c,L,S,_,I,h,λt L1 hv S1 H1 I1 s1=>by
  cases t with
  | true=>exact⟨c,L1,S1,Q0,I1,hv,λv L' q S' H' I' s'=>k v L' q S' H' I' (s1.trans s')⟩
  | false=>exact k _ L1 hv S1 H1 I1 s1⟩
theorem fw_or {rest:List Expr}(ha:FB X C a ba)(hb:FW X C (.BoolOp .Or (b :: rest) pos) bb):FW X C (.BoolOp .Or (a :: b :: rest) pos) (tI ba bb):=PW.imp (LO ha hb) λσ H Q q1=>by obtain⟨c,L,S,Q0,I,h,k⟩:=q1;exact
 ⟨c,L,S,_,I,h,λt L1 hv S1 H1 I1 s1=>by
  cases t with
  | false=>exact⟨c,L1,S1,Q0,I1,hv,λv L' q S' H' I' s'=>k v L' q S' H' I' (s1.trans s')⟩
  | true=>exact k _ L1 hv S1 H1 I1 s1⟩
theorem fb_w (h:FW X C a ba):FB X C a ba:=PW.pt h
theorem P5:FA X C [] mW:=PA.imp n6 λσ H Q q1=>by obtain⟨c,L,S,Q0,I,h,k⟩:=q1;exact k [] L h [] S H rfl I (Same.refl S)
theorem Oi {xs:List Expr}{as:AW}(hs:nv a=false)(ha:FE X C a ea)(hr:FA X C xs as):FA X C (a :: xs) (mU ea as):=PA.imp (nC ha hr (m3 hs)) λσ H Q q1=>by obtain⟨c,L,S,Q0,I,h,k⟩:=q1;exact
 ⟨c,L,S,_,I,h,λv L1 hv x S1 H1 r1 I1 s1=>⟨c,L1,S1,_,I1,hv,λvs L2 hvs us S2 H2 r2 I2 s2=>k _ L2 hvs _ S2 H2 ⟨x,us,rfl,r1.mono s2,r2⟩ I2 (s1.trans s2)⟩⟩
theorem Pm {xs:List Expr}{as:AW}{m:Nat}(h:FA X C xs as):FE X C (.Tuple xs m pos) (oC as):=PE.imp (Dh h) λσ H Q q1=>by obtain⟨c,L,S,Q0,I,h,k⟩:=q1;exact
 ⟨c,L,S,_,I,h,λvs L1 hv us S1 H1 r1 I1 s1=>⟨by have:=oj;rw[<- r1.length];exact kq hv.1 this,λp hp=>(qS I1 λx S' H' r I' s'=>k _ L1 hv.2 x S' H' r I' (s1.trans s')).tup _ _ p rfl r1 hp⟩⟩
theorem Px {xs:List Expr}{as:AW}(h:FA X C xs as):FE X C (.List xs pos) (oy as):=PE.imp (Di h) λσ H Q q1=>by obtain⟨c,L,S,Q0,I,h,k⟩:=q1;exact
 ⟨c,L,S,_,I,h,λvs L1 hv us S1 H1 r1 I1 s1=>⟨by have:=oj;rw[<- r1.length];exact kq hv.1 this,λp hp=>(qS I1 λx S' H' r I' s'=>k _ L1 hv.2 x S' H' r I' (s1.trans s')).lst _ _ p rfl r1 hp⟩⟩
theorem Pk {xs:List Expr}{as:AW}(h:FA X C xs as):FF X C (.List xs pos) (oy as):=PE.imp (Di h) λσ H Q q1=>by obtain⟨c,L,S,Q0,I,h,k⟩:=q1;exact
 ⟨c,L,S,_,I,h,λvs L1 hv us S1 H1 r1 I1 s1=>⟨by have:=oj;rw[<- r1.length];exact kq hv.1 this,λp hp=>(Dt I1 ⟨vs,rfl⟩ λa S' H' o fr I' s'=>k _ L1 hv.2 a S' H' o fr I' (s1.trans s')).lst _ _ p rfl r1 hp⟩⟩
theorem fe_ix (hs:rz b=false)(ha:FE X C a ea)(hb:FR X C b eb):FE X C (.Subscript a b pos) (mX nK ea eb):=PE.imp (Hm LI ha hb (xO hs)) λσ H Q ⟨c,L,S,Q0,I,h,k⟩ =>
 KY ⟨c,L,S,λx y L2=>wp (nK x y) λz=>Q0 z L2,I,h,λv w L' S' H' x y q r1 r2 I' s'=>by
  obtain⟨z,e,q⟩:=oB q
  exact⟨S',v,w,z,I'.sub,.inl r1,r2,e,λu r=>k z L' q u S' H' r I' s'⟩⟩
theorem PB (G:Good X C n sp){i:Nat}{nx:Str}(hs:rz b=false)(h:C.nm i nx=true)(hb:FR X C b eb):FE X C (.Subscript (.Name nx p) b pos) (rR nK i eb):=PE.imp (Hm LI (pY G h) hb (xO hs)) λσ H Q ⟨c,L,S,Q0,I,h,k⟩ =>
 O4 ⟨c,L,S,λx y L2=>wp (nK x y) λz=>Q0 z L2,I,h,λv w L' S' H' x y q r1 r2 I' s'=>by
  obtain⟨z,e,q⟩:=oB q
  exact⟨S',v,w,z,I'.sub,r1,r2,e,λu r=>k z L' q u S' H' r I' s'⟩⟩
theorem NP:FO X C none nW:=PO.imp Fj λσ H Q q1=>by obtain⟨c,L,S,Q0,I,h,k⟩:=q1;exact k none L h S H I (Same.refl S)
theorem NO (h:FE X C a ea):FO X C (some a) (nF ea):=PO.imp (Fi h) λσ H Q q1=>by obtain⟨c,L,S,Q0,I,h,k⟩:=q1;exact
 ⟨c,L,S,_,I,h,λv L1 hv x S1 H1 r1 I1 s1=>by
  obtain⟨i,e,q⟩:=oB hv
  cases nL e
  exact⟨i,r1,k _ L1 q S1 H1 I1 s1⟩⟩
variable {xl xh:Option Expr}{wl wh:OW}{p2:Pos}
theorem fe_sl (ha:FE X C a ea)(hl:FO X C xl wl)(hh:FO X C xh wh):FE X C (.Subscript a (.Slice xl xh none p2) pos) (rB ea wl wh):=PE.imp (tX OV ha hl hh) λσ H Q q1=>by obtain⟨c,L,S,Q0,I,h,k⟩:=q1;exact
 ⟨c,L,S,_,I,h,λv L1 hv x S1 H1 r1 I1 s1=>⟨c,L1,S1,_,I1,hv,λo1 L2 h1 S2 H2 I2 s2=>⟨c,L2,S2,_,I2,h1,λo2 L3 h2 S3 H3 I3 s3=>by
  obtain⟨z,e,q⟩:=oB h2
  exact⟨S3,v,z,I3.sub,.inl (r1.mono (s2.trans s3)),e,qS I3 λx S' H' r I' s'=>k z L3 q x S' H' r I' (s1.trans (s2.trans (s3.trans s')))⟩⟩⟩⟩
end
section
variable {X:Cx}{C:CC}{n:Nat}{sp:ke->Nat->Sp}{a b:Expr}{ea eb:EW}{pos p:Pos}
variable {K:ke}{md:Md}{σ:L2.St}{S H:Hp}{i:Nat}{nx:Str}
variable {p2:Pos}
theorem Hy {f:FV->Option FV}{Q:VK}(hh:lv K md (nE f ea) σ H Q):OO (Rc K f) (Ad (lr K md ea) Lj) σ H Q:=by
 obtain⟨c,L,S,Q0,I,h,k⟩:=hh
 refine⟨c,L,S,_,I,h,λv L1 hv x S1 H1 r1 I1 s1=>?_⟩
 obtain⟨z,e,q⟩:=oB hv
 exact⟨S1,v,x,z,rfl,I1.sub,r1,e,qS I1 λx S' H' r I' s'=>k z L1 q x S' H' r I' (s1.trans s')⟩
theorem uy {id nm:String}{f:FV->Option FV}(hc:nO X.nox (.builtin id) (Rc X.K f))(G:Good X C n sp)(hb:nm∈bltNames)(hv:bootBuiltins (j9 nm)=some (.builtin id))(h1:j9 nm≠"__name__")(h2:(j9 nm == ("__debug__":Str))=false)(hg:C.gl (j9 nm)=true)(hs:nv a=false)(ha:FR X C a ea) :
  FE X C (.Call (.Name (j9 nm) p) [a] [] pos) (nE f ea):=PE.imp (qQ hc (G.gl hg) (G.blt nm hb) hv (nC ha n6 (m3 hs)) h1 h2 (m3 hs) rfl) λσ H Q h=>Hy h
theorem AQ {T nm:String}{f:FV->Option FV}(hc:nO X.nox (.type T) (Rc X.K f))(G:Good X C n sp)(hb:nm∈bltNames)(hv:bootBuiltins (j9 nm)=some (.type T))(h1:j9 nm≠"__name__")(h2:(j9 nm == ("__debug__":Str))=false)(hg:C.gl (j9 nm)=true)(hs:nv a=false)(ha:FR X C a ea) :
  FE X C (.Call (.Name (j9 nm) p) [a] [] pos) (nE f ea):=PE.imp (sF hc (G.gl hg) (G.blt nm hb) hv (nC ha n6 (m3 hs)) h1 h2 (m3 hs) rfl) λσ H Q h=>Hy h
theorem Py (G:Good X C n sp)(hg:C.gl (j9 "len")=true)(hs:nv a=false)(ha:FR X C a ea):FE X C (.Call (.Name (j9 "len") p) [a] [] pos) (nE ox ea):=uy MP G (by decide) (by nofun) (by nofun) (by nofun) hg hs ha
theorem PN (G:Good X C n sp)(hg:C.gl (j9 "abs")=true)(hs:nv a=false)(ha:FR X C a ea):FE X C (.Call (.Name (j9 "abs") p) [a] [] pos) (nE Ey ea):=uy MS G (by decide) (by nofun) (by nofun) (by nofun) hg hs ha
theorem PL (G:Good X C n sp)(hg:C.gl (j9 "all")=true)(hs:nv a=false)(ha:FR X C a ea):FE X C (.Call (.Name (j9 "all") p) [a] [] pos) (nE u7 ea):=uy (MR G.calm) G (by decide) (by nofun) (by nofun) (by nofun) hg hs ha
theorem N3 (G:Good X C n sp)(hg:C.gl (j9 "min")=true)(hs:nv a=false)(ha:FR X C a ea):FE X C (.Call (.Name (j9 "min") p) [a] [] pos) (nE xZ ea):=uy (Ka G.calm) G (by decide) (by nofun) (by nofun) (by nofun) hg hs ha
theorem MB (G:Good X C n sp)(hg:C.gl (j9 "int")=true)(hs:nv a=false)(ha:FR X C a ea):FE X C (.Call (.Name (j9 "int") p) [a] [] pos) (nE sx ea):=AQ MQ G (by decide) (by nofun) (by nofun) (by nofun) hg hs ha
theorem Mz (G:Good X C n sp)(hg:C.gl (j9 "tuple")=true)(hs:nv a=false)(ha:FR X C a ea):FE X C (.Call (.Name (j9 "tuple") p) [a] [] pos) (nE oZ ea):=AQ GF G (by decide) (by nofun) (by nofun) (by nofun) hg hs ha
theorem N8 (G:Good X C n sp)(hg:C.gl (j9 "list")=true)(hs:nv a=false)(ha:FR X C a ea):FE X C (.Call (.Name (j9 "list") p) [a] [] pos) (nE pw ea):=AQ Ep G (by decide) (by nofun) (by nofun) (by nofun) hg hs ha
theorem MA (G:Good X C n sp)(hg:C.gl (j9 "str")=true)(hs:nv a=false)(ha:FR X C a ea):FE X C (.Call (.Name (j9 "str") p) [a] [] pos) (nE xD ea):=AQ (MN G.room.units G.room.gd) G (by decide) (by nofun) (by nofun) (by nofun) hg hs ha
theorem NW (G:Good X C n sp)(hg:C.gl (j9 "list")=true)(hs:nv a=false)(ha:FR X C a ea):FF X C (.Call (.Name (j9 "list") p) [a] [] pos) (nE pw ea) :=
 PE.imp (sF Ep (G.gl hg) (G.blt "list" (by decide)) (by nofun) (nC ha n6 (m3 hs)) (by nofun) (by nofun) (m3 hs) rfl) λσ H Q q1=>by obtain⟨c,L,S,Q0,I,h,k⟩:=q1;exact
 ⟨c,L,S,_,I,h,λv L1 hv x S1 H1 r1 I1 s1=>by
  obtain⟨z,e,q⟩:=oB hv
  obtain⟨ps,e1,rfl⟩:=rE e
  exact⟨S1,v,x,_,rfl,I1.sub,r1,e,Dt I1 ⟨ps,rfl⟩ λa S' H' o fr I' s'=>k _ L1 q a S' H' o fr I' (s1.trans s')⟩⟩
theorem Hw {id nm:String}{f:FV->FV->Option FV}(hc:nO X.nox (.builtin id) (Rc2 X.K f))(G:Good X C n sp)(hb:nm∈bltNames)(hv:bootBuiltins (j9 nm)=some (.builtin id))(h1:j9 nm≠"__name__")(h2:(j9 nm == ("__debug__":Str))=false)(hg:C.gl (j9 nm)=true)(hs:nv a=false)(hs2:nv b=false)(ha:FE X C a ea)(hb':FR X C b eb) :
  FE X C (.Call (.Name (j9 nm) p) [a,b] [] pos) (mX f ea eb):=PE.imp (qQ hc (G.gl hg) (G.blt nm hb) hv (nC ha (nC hb' n6 (m3 hs2)) (m3 hs)) h1 h2 (m3 hs) (by rw[m3 hs2];rfl)) λσ H Q q1=>by obtain⟨c,L,S,Q0,I,h,k⟩:=q1;exact
 ⟨c,L,S,_,I,h,λv L1 hv x S1 H1 r1 I1 s1=>⟨c,L1,S1,_,I1,hv,λw L2 hw y S2 H2 r2 I2 s2=>by
  obtain⟨z,e,q⟩:=oB hw
  exact⟨S2,v,w,x,y,z,rfl,I2.sub,.inl (r1.mono s2),r2,e,qS I2 λx S' H' r I' s'=>k z L2 q x S' H' r I' (s1.trans (s2.trans s'))⟩⟩⟩
theorem N5 (G:Good X C n sp)(hg:C.gl (j9 "min")=true)(hs:nv a=false)(hs2:nv b=false)(ha:FE X C a ea)(hb':FR X C b eb):FE X C (.Call (.Name (j9 "min") p) [a,b] [] pos) (mX vo ea eb):=Hw (Kc G.calm) G (by decide) (by nofun) (by nofun) (by nofun) hg hs hs2 ha hb'
theorem N7 (G:Good X C n sp)(hg:C.gl (j9 "max")=true)(hs:nv a=false)(hs2:nv b=false)(ha:FE X C a ea)(hb':FR X C b eb):FE X C (.Call (.Name (j9 "max") p) [a,b] [] pos) (mX AA ea eb):=Hw (Ke G.calm) G (by decide) (by nofun) (by nofun) (by nofun) hg hs hs2 ha hb'
def pG:Ty->String|.int=>"int" | .bool=>"bool" | .str=>"str" | .list=>"list" | .tuple=>"tuple"
theorem tK {v:FV}{u:V}{t:Ty}{r:Bool}(s:Same S H)(rv:RH K S H v u)(e:qe v t=some r):∃ T,TyOf K H u (.type T)/\iY K (.type T) (.type (pG t))=some r:=by
 cases v with
 | non=>cases (show u=V.non from rv.val rfl);exact⟨_,.non,by cases e;cases t<;>rfl⟩
 | bl c=>cases rv.bl;exact⟨_,.bl _,by cases e;cases t<;>rfl⟩
 | int c=>cases rv.int;exact⟨_,.int _,by cases e;cases t<;>rfl⟩
 | str c=>cases (show u=V.str _ from rv.val rfl);exact⟨_,.str _,by cases e;cases t<;>rfl⟩
 | tup ps =>
  obtain⟨a,xs,rfl,h1,h2⟩:=rv.tup s
  exact⟨_,.tup h1,by cases e;cases t<;>rfl⟩
 | lst l =>
  obtain⟨a,xs,rfl,h1,h2⟩:=rv.lst s
  exact⟨_,.lst h1,by cases e;cases t<;>rfl⟩
 | scr ns=>cases e
 | dct _ _=>cases e
 | dci _ _=>cases e
 | dcz _ _ _=>cases e
 | obj _ _ _ _=>cases e
 | dcn _ _ _=>cases e
 | shn d=>cases (show u=V.str _ from rv.val rfl);exact⟨_,.str _,by cases e;cases t<;>rfl⟩
theorem PF {t:Ty}{tn:Str}(G:Good X C n sp)(hg:C.gl (j9 "isinstance")=true)(ht:tn=j9 (pG t))(hg2:C.gl tn=true)(hs:nv a=false)(ha:FR X C a ea) :
  FE X C (.Call (.Name (j9 "isinstance") p) [a,.Name tn p2] [] pos) (nE (qd t) ea):=by
 subst ht
 have cc:nO X.nox (.builtin "isinstance") (λxs H Q=>∃ v c b T,xs=[v,.ty c]/\TyOf X.K H v (.type T)/\iY X.K (.type T) (.type c)=some b/\Q (.bl b) H):=by
  rintro Z9 s σ H xs us Q I r ⟨v,c,b,T,rfl,h1,h2,q⟩
  obtain⟨u,u',rfl,ru,ru'⟩:=vals2 r
  obtain rfl:u'=.type c:=ru'
  exact BZ I ru h1 h2 λtk=>⟨.bl b,H,I.tok _,rfl,q⟩
 have tt:PE X.nox (.Name (j9 (pG t)) p2) (tC (.ty (pG t))):=by
  cases t<;>exact Au (G.gl hg2) (G.blt _ (by decide)) (by nofun) rfl (by nofun) (by nofun)
 refine PE.imp (qQ cc (G.gl hg) (G.blt "isinstance" (by decide)) (by nofun) (nC ha (nC tt n6 rfl) (m3 hs)) (by nofun) (by nofun) (m3 hs) rfl) λσ H Q q1=>?_;obtain⟨c,L,S,Q0,I,h,k⟩:=q1;refine
  ⟨c,L,S,_,I,h,λv L1 hv x S1 H1 r1 I1 s1=>?_⟩
 obtain⟨z,e,q⟩:=oB hv
 obtain⟨r,e1,rfl⟩:=rE e
 obtain⟨T,t1,t2⟩:=tK I1.sub r1 e1
 exact⟨x,_,_,T,rfl,t1,t2,k _ L1 q _ S1 H1 rfl I1 s1⟩
def MT (ZZ Z0:Pos):Bool:=ZZ.endLine == Z0.line
theorem PJ (G:Good X C n sp){ZZ Z0:Pos}(h:C.nm i nx=true)(m:nA C.md i=.own)(hl:MT ZZ Z0=true)(hs:nv a=false)(ha:FE X C a ea):FE X C (.Call (.Attribute (.Name nx p) (j9 "append") ZZ) [a] [] Z0) (uz Ex i ea):=by
 refine PE.imp (Hn bi PySem.F.slot_list_append PySem.F.type_list_append vj (pY G h) (nC ha n6 (m3 hs)) rfl (by rw[m3 hs];rfl) hl (m3 hs) rfl) λσ H Q ⟨c,L,S,Q0,I,h,k⟩=>?_
 obtain⟨v,e,h⟩:=oB h
 obtain⟨v9,e9,h⟩:=oB h
 cases p5 e9
 have e':=(pL _ _ _).mp e
 have mi:nA C.md i≠.imm:=λz=>by rw[m] at z;cases z
 obtain⟨l,e1,⟨_,ps,xs,e8,h1,_⟩,_⟩:=I.own i _ mi e'
 refine⟨_,e1,.inl ⟨rfl,xs,SqL.of h1⟩,c,L,S,_,I,h,λw L1 hw y S1 H1 r1 I1 s1=>?_⟩
 obtain⟨v1,e2,hw⟩:=oB hw
 obtain⟨z,e3,q⟩:=oB hw
 have e2':=(pL _ _ _).mp e2
 obtain⟨qs,e4,e5⟩:=oz e3
 cases p5 e4
 obtain⟨hb,rfl⟩:=rn e5
 obtain⟨l',f1,⟨f2,rs,zs,f3,f4,f5⟩,_⟩:=I1.own i _ mi e2'
 rw[e1] at f1;cases f1
 cases f3
 have:=oj
 exact⟨l,zs,y,rfl,rfl,f4,by rw[<- f5.length];lia,k _ _ q .non S1 _ rfl (I1.write m e2' e1 (f5.append (RVs.one r1))) s1⟩
theorem PH (G:Good X C n sp){ZZ Z0:Pos}(h:C.nm i nx=true)(m:nA C.md i=.own)(hl:MT ZZ Z0=true)(hs:nv a=false)(ha:FR X C a ea):FE X C (.Call (.Attribute (.Name nx p) (j9 "extend") ZZ) [a] [] Z0) (uz JW i ea):=by
 have mt:MtR X.nox "list.extend" (λx xs H Q=>rExtend x xs H Q ∨ rExtT X.K x xs H Q):=λZ9 s σ H x xs v us Q I rx rv h=>h.elim (BN Z9 s σ H x xs v us Q I rx rv) (FK Z9 s σ H x xs v us Q I rx rv)
 refine PE.imp (Hn bi PySem.F.slot_list_extend PySem.F.type_list_extend mt (pY G h) (nC ha n6 (m3 hs)) rfl (by rw[m3 hs];rfl) hl (m3 hs) rfl) λσ H Q ⟨c,L,S,Q0,I,h,k⟩=>?_
 obtain⟨v,e,h⟩:=oB h
 obtain⟨v9,e9,h⟩:=oB h
 cases p5 e9
 have e':=(pL _ _ _).mp e
 have mi:nA C.md i≠.imm:=λz=>by rw[m] at z;cases z
 obtain⟨l,e1,⟨_,ps,xs,e8,h1,_⟩,_⟩:=I.own i _ mi e'
 refine⟨_,e1,.inl ⟨rfl,xs,SqL.of h1⟩,c,L,S,_,I,h,λw L1 hw y S1 H1 r1 I1 s1=>?_⟩
 obtain⟨v1,e2,hw⟩:=oB hw
 obtain⟨z,e3,q⟩:=oB hw
 have e2':=(pL _ _ _).mp e2
 obtain⟨qs,e4,e5⟩:=oz e3
 obtain⟨ys,e6,e7⟩:=oz e5
 cases p5 e4
 obtain⟨hb,rfl⟩:=rn e7
 obtain⟨l',f1,⟨f2,rs,zs,f3,f4,f5⟩,_⟩:=I1.own i _ mi e2'
 rw[e1] at f1;cases f1
 cases f3
 have hbl:=oj
 have l5:=f5.length
 have fin:∀ us,RVs X.K S1 ys us->Q .non (n5 H1 l (.lst (zs++us))):=λus ru=>k _ _ q .non S1 _ rfl (I1.write m e2' e1 (f5.append ru)) s1
 cases w with
 | tup ws =>
  cases e6
  obtain⟨b,us,rfl,g1,g2⟩:=r1.tup I1.sub
  have l6:=g2.length
  exact .inr ⟨l,b,zs,us,rfl,rfl,f4,SqT.of g1,by lia,fin us g2⟩
 | lst ws =>
  cases e6
  obtain⟨b,us,rfl,g1,g2⟩:=r1.lst I1.sub
  have l6:=g2.length
  exact .inl ⟨l,b,zs,us,rfl,rfl,f4,g1,by lia,fin us g2⟩
 | _=>cases e6
end
def ArgsOk (K:ke)(S H:Hp)(args:List FV)(vs:List V):Bool->Prop
 | false=>RVs K S args vs
 | true=>∃ v r a us,args=v :: r/\vs=.ref a :: us/\OwnAt K S H a v/\RVs K S r us
def EC (K:ke)(S' H' H:Hp)(v:FV)(x:V):Bool->Prop
 | false=>RV K S' v x
 | true=>∃ a,x=.ref a/\OwnAt K S' H' a v/\H a=none
def wK (vs:List V):Bool->Option mS
 | false=>none
 | true=>match vs with
  | .ref a :: _=>some a
  | _=>none
structure Kept (K:ke)(S H S' H':Hp)(P:Option mS)(w:FV):Prop where
 same:Same S S'
 sub:Same S' H'
 grow:∀ a o,S' a=some o->S a=some o ∨ H a=none ∨ sg o=true
 keep:∀ a o,H a=some o->P≠some a->H' a=some o
 back:∀ a,P=some a->OwnAt K S' H' a w
def He (K:ke)(call:CW)(io fr:Bool) (f:Nat):Sp:=λvs H Q E=>∃ S args Q0,Same S H/\ArgsOk K S H args vs io/\call f args Q0/\∀ z,Q0 z->∀ x S' H',Kept K S H S' H' (wK vs io) z.2->EC K S' H' H z.1 x fr->Q x H'
section
variable {X:Cx}{C:CC}{n:Nat}{sp:ke->Nat->Sp}{a:Expr}{ea:EW}{pos p:Pos}{call:CW}
variable {K:ke}{c:Cn}{md:Md}{L:mV}{σ:L2.St}{S H S' H':Hp}{i f:Nat}{nx:Str}{xs:List Expr}{as:AW}
def pZ (xs:List Expr):Bool:=xs.all λx=>!nv x
theorem xF:∀ {xs:List Expr}{env:Env},pZ xs=true->(backTo pos (starEach xs env)).any (·.1)=false
 | [],_,_=>rfl
 | x :: xs,env,h=>by
  have h:=b2 (show (!nv x && pZ xs)=true from h)
  rw[m3 (nb h.1)]
  show (false || (backTo pos (starEach xs env)).any (·.1))=false
  rw[xF h.2];rfl
theorem Kept.iv (I:Iv K c md L σ S H){w:FV}(k:Kept K S H S' H' none w):Iv K c md L σ S' H':=I.go3 k.same k.sub k.grow λa o e=>k.keep a o e (by simp)
theorem xc (G:Good X C n sp){t:TA}(hf:C.fns[f]?=some nx)(hg:C.gl nx=true)(hd:(nx == ("__debug__":Str))=false)(hs:pZ (a :: xs)=true)(ha:PA X.nox (a :: xs) t):PE X.nox (.Call (.Name nx p) (a :: xs) [] pos) (λσ H Q=>t σ H λvs H1=>sp X.K f vs H1 Q E0):=by
 obtain⟨fa,fd,ps,h1,h2,h3,h4⟩:=G.fns f nx hf
 have h:=b2 (show (!nv a && pZ xs)=true from hs)
 refine PE.imp (Fo (X:=X.nox) h4 G.room.toRoom (G.gl hg) h1 h2 h3 .nil LX ha hd (m3 (nb h.1)) (xF h.2)) λσ H Q q=>?_
 show t σ H λvs H1=>sp X.K f (vs++[]) H1 Q E0
 have e:(λvs H1=>sp X.K f (vs++[]) H1 Q E0)=λvs H1=>sp X.K f vs H1 Q E0:=by funext vs H1;rw[iA]
 rw[e];exact q
theorem Od (G:Good X C n sp)(e:sp X.K f=He X.K call false false f)(hf:C.fns[f]?=some nx)(hg:C.gl nx=true)(hd:(nx == ("__debug__":Str))=false)(hs:pZ (a :: xs)=true)(ha:FA X C (a :: xs) as):FE X C (.Call (.Name nx p) (a :: xs) [] pos) (m4 call f as) :=
 PE.imp (xc G hf hg hd hs ha) λσ H Q q1=>by obtain⟨c,L,S,Q0,I,h,k⟩:=q1;exact⟨c,L,S,_,I,h,λvs L1 hv us S1 H1 r1 I1 s1=>by
  rw[e]
  exact⟨S1,vs,_,I1.sub,r1,hv,λz q x S' H' kp r=>k _ L1 q x S' H' r (kp.iv I1) (s1.trans kp.same)⟩⟩
theorem NX (G:Good X C n sp)(e:sp X.K f=He X.K call false true f)(hf:C.fns[f]?=some nx)(hg:C.gl nx=true)(hd:(nx == ("__debug__":Str))=false)(hs:pZ (a :: xs)=true)(ha:FA X C (a :: xs) as):FF X C (.Call (.Name nx p) (a :: xs) [] pos) (m4 call f as) :=
 PE.imp (xc G hf hg hd hs ha) λσ H Q q1=>by obtain⟨c,L,S,Q0,I,h,k⟩:=q1;exact⟨c,L,S,_,I,h,λvs L1 hv us S1 H1 r1 I1 s1=>by
  rw[e]
  refine⟨S1,vs,_,I1.sub,r1,hv,λz q x S' H' kp r=>?_⟩
  obtain⟨a,rfl,o,hn⟩:=r
  exact k _ L1 q a S' H' o (I1.fresh hn) (kp.iv I1) (s1.trans kp.same)⟩
theorem Ay {v:FV}{q:mS}(I:Iv K c md L σ S H)(o:OwnAt K S H q v)(fr:so c md L σ q):∃ u,H q=some u/\Iv K c md L σ (n5 S q u) H/\RV K (n5 S q u) v (.ref q):=by
 obtain⟨h1,ps,us,e0,h2,h3⟩:=o
 have s:=nH (o:=Fu v us) h1
 refine⟨_,h2,⟨I.len,λi v h e=>let ⟨x,e1,r⟩:=I.imm i v h e;⟨x,e1,r.mono s⟩,λi v h e=>?_,I.dis,λa u e=>?_,I.frame,I.s0.trans s,λa u e=>?_,I.lent,I.fzs,I.fzm,I.fzp,λp hp=>let ⟨g1,g2,g3⟩:=I.prs p hp;⟨g1,by rw[m9 (fr.2.1 p hp)];exact g2,g3⟩,I.ntp,I.lnt1,I.tie⟩,?_⟩
 ·obtain⟨b,e1,⟨g1,rs,zs,g2,g3,g4⟩,g5⟩:=I.own i v h e
  have hb:b≠q:=λz=>by subst z;exact fr.2.2 i v h e e1
  exact⟨b,e1,⟨by rw[m9 hb];exact g1,rs,zs,g2,g3,g4.mono s⟩,g5⟩
 ·by_cases z:a=q
  ·subst z;rw[nz] at e;cases e;exact h2
  ·rw[m9 z] at e;exact I.sub a u e
 ·by_cases z:a=q
  ·subst z;exact .inr (.inl fr.1)
  ·rw[m9 z] at e;exact I.grow a u e
 ·cases v with
  | lst qs=>cases e0;exact⟨q,us,rfl,nz,h3.mono s⟩
  | dct ks vs=>obtain⟨hl,rfl⟩:=rn e0;exact⟨q,us,rfl,hl,nz,h3.mono s⟩
  | dci ks vs=>obtain⟨hl,rfl⟩:=rn e0;exact⟨q,us,rfl,hl,nz,h3.mono s⟩
  | dcz o ks vs=>obtain⟨hl,rfl⟩:=rn e0;exact⟨q,us,rfl,hl,nz,h3.mono s⟩
  | obj C dx fs gs=>cases e0;exact⟨q,rfl,nz⟩
  | dcn z ks vs=>obtain⟨hl,rfl⟩:=rn e0;exact⟨q,us,rfl,hl,nz,h3.mono s⟩
  | _=>cases e0
theorem oP (h:FF X C a ea):FE X C a ea:=PE.imp h λσ H Q q1=>by obtain⟨c,L,S,Q0,I,h,k⟩:=q1;exact⟨c,L,S,Q0,I,h,λv L' q a S' H' o fr I' s'=>by
 obtain⟨u,hu,I2,r⟩:=Ay I' o fr
 exact k v L' q _ _ H' r I2 (s'.trans (nH o.1))⟩
theorem Ft (G:Good X C n sp){t:TA}(h:C.nm i nx=true)(hr:PA X.nox xs t):PA X.nox (.Name nx p :: xs) (Ad (tVar i) t):=nC (pY G h) hr rfl
theorem Eo {Q:VK}{fr:Bool}{Q1:FV->mV->Prop}(I:Iv K c md L σ S H)(m:nA md i=.own)(h:m5 call f i as L Q1)
  (k:∀ v L' x H1 S' H',Q1 v L'->EC K S' H' H1 v x fr->Iv K c md L' σ S' H'->Same S S'->(∀ a,H1 a=none->so c md L' σ a)->Q x H'):Ad (tVar i) (la K md as) σ H λvs H1=>He K call true fr f vs H1 Q E0:=by
 obtain⟨v0,e,h⟩:=oB h
 have mi:nA md i≠.imm:=λz=>by rw[m] at z;cases z
 obtain⟨l,e1,_⟩:=I.own i v0 mi ((pL _ _ _).mp e)
 refine⟨_,e1,c,L,S,_,I,h,λvs L1 hv us S1 H1 r1 I1 s1=>?_⟩
 obtain⟨v1,e2,q⟩:=oB hv
 have e2:=(pL _ _ _).mp e2
 obtain⟨l',f1,o,_⟩:=I1.own i v1 mi e2
 rw[e1] at f1;cases f1
 refine⟨S1,v1 :: vs,_,I1.sub,⟨v1,vs,l,us,rfl,rfl,o,r1⟩,q,λz q x S' H' kp r=>?_⟩
 have I2:=I1.back3 m e2 e1 kp.same kp.sub kp.grow (λb o e n=>kp.keep b o e λz=>n (by cases z;rfl)) (kp.back l rfl)
 refine k _ _ x H1 S' H' q r I2 (s1.trans kp.same) λa ha=>⟨I1.h0 ha,(I1.fresh ha).2.1,λj w mj ej z=>?_⟩
 obtain⟨_,_,g2⟩:=I1.fresh ha
 by_cases hj:j=i
 ·subst hj;exact g2 j v1 mj e2 z
 ·rw[cK (ma hj)] at ej;exact g2 j w mj ej z
theorem MD (G:Good X C n sp){np:Str}{pp:Pos}(e:sp X.K f=He X.K call true false f)(hf:C.fns[f]?=some np)(hg:C.gl np=true)(hd:(np == ("__debug__":Str))=false)(h:C.nm i nx=true)(m:nA C.md i=.own)(hs:pZ xs=true)(ha:FA X C xs as):FE X C (.Call (.Name np pp) (.Name nx p :: xs) [] pos) (m5 call f i as) :=
 PE.imp (xc G hf hg hd (show (true && pZ xs)=true by rw[hs];rfl) (Ft G h ha)) λσ H Q q1=>by
  obtain⟨c,L,S,Q0,I,h,k⟩:=q1
  rw[e]
  exact Eo I m h λv L' x H1 S' H' q r I' s' _=>k v L' q x S' H' r I' s'
end
section
variable {K:ke}{c:Cn}{md:Md}{L:mV}{σ:L2.St}{S H:Hp}{i:Nat}{v:FV}{x:V}{a:mS}
theorem Iv.setI (I:Iv K c md L σ S H)(m:nA md i=.imm)(r:RV K S v x):Iv K c md (L.set i (some v)) (σ.set i (some x)) S H :=
 I.set (λa h z=>by subst z;exact (I.lent a h).1 m) (λz=>by rw[m] at z;cases z) (.inl ⟨m,r⟩)
theorem Iv.prot (I:Iv K c md L σ S H){o:HO}(h:H a=some o)(hs:S a=none)(ho:∀ i v,(nA md i).w=true->L[i]?=some (some v)->σ[i]?≠some (some (.ref a)))(nt:sg o=false:=by first|rfl|exact tE _ _):Iv K { c with pr:=(a,o) :: c.pr } md L σ S H :=
 ⟨I.len,I.imm,I.own,I.dis,I.sub,I.frame,I.s0,I.grow,I.lent,I.fzs,I.fzm,λp hp=>let ⟨xs,h⟩:=I.fzp p hp;⟨xs,cI _ h⟩,λp hp=>(jN.mp hp).elim (λe=>e ▸ ⟨h,hs,ho⟩) (I.prs p),λp hp=>(jN.mp hp).elim (λe=>e ▸ nt) (I.ntp p),I.lnt1,I.tie⟩
end
def EK (K:ke)(c:Cn)(md:Md)(J:It)(xs:List FV)(S1:Hp):Prop :=
 ∀ (i:Nat)(L:mV)(σ:L2.St)(S H:Hp),Iv K c md L σ S H->Same S1 S->(xs[i]?=none->J.stop i H)/\∀ p,xs[i]?=some p->J.go i H/\∀ v H',J.yld i H v H'->∃ S',Same S S'/\(∀ c md L σ,Iv K c md L σ S H->Iv K c md L σ S' H')/\RV K S' p v
inductive liI (K:ke)(it:AW)(md md':Md)(σ:L2.St)(H:Hp)(R:It->Hp->Prop):Prop
 | mk (c:_)(L:_)(S:_)(Q0:_)(_:Iv K c md L σ S H)(_:it L Q0)(_:∀ xs L',Q0 xs L'->∀ J c' S' H',Iv K c' md' L' σ S' H'->(∀ L σ S H,Iv K c' md' L σ S H->Iv K c md L σ S H)->c'.H0=c.H0->EK K c' md' J xs S'->Same S S'->R J H'):liI K it md md' σ H R
abbrev li (K:ke)(md md':Md)(it:AW):TI:=liI K it md md'
def FI (X:Cx)(C:CC)(md':Md)(tg Z5:Expr)(it:AW):Prop:=PI X.nox tg Z5 (li X.K C.md md' it)
section
variable {X:Cx}{C:CC}{n:Nat}{sp:ke->Nat->Sp}{a b tg:Expr}{ea eb:EW}{pos p:Pos}
variable {K:ke}{c:Cn}{md:Md}{L:mV}{σ:L2.St}{S H:Hp}{i:Nat}
theorem PI.imp {X:Cx}{tg it:Expr}{t u:TI}(h:PI X tg it t)(f:∀ σ H R,u σ H R->t σ H R):PI X tg it u:=λZ9 s σ H R I hu=>h Z9 s σ H R I (f σ H R hu)
def Its (K:ke):Bool->mS->It
 | true,a=>Itl K a
 | false,a=>Itt K a
theorem IB {X:Cx}{tg it:Expr}{te:TE}(h:PE X it te):PI X tg it (λσ H R=>te σ H λv H1=>∃ b a xs,v=.ref a/\uQ b X.K H1 a xs/\R (Its X.K b a) H1):=by
 intro Z9 s σ H R I hh
 refine nV (h Z9 s σ H _ I hh) λv s1 q1=>?_;obtain⟨x,H1,I1,r1,b,a,xs,e,hq,q⟩:=q1
 subst e
 cases r1
 cases b with
 | true =>
  obtain⟨Z7,rv,p,hz⟩:=I1.list hq
  refine eM p.isList ?_
  refine⟨s1.heap.objs.size,[s1.heap.objs.size],_,_,H1,rfl,I1.kept (t':=s1.toks) λb o e=>bQ _ e,Bo a _,⟨_,da _ rfl,rfl,rfl⟩,λb hb=>?_,q⟩
  have e:b=s1.heap.objs.size:=by simpa using hb
  subst e
  exact I1.fpOk (kW _) (I1.hok.fresh (kW _))
 | false =>
  obtain⟨Z7,rv,p,hz⟩:=I1.tuple hq
  refine dm p ?_
  refine⟨s1.heap.objs.size,[s1.heap.objs.size],_,_,H1,rfl,I1.kept (t':=s1.toks) λb o e=>bQ _ e,yQ a _,⟨_,da _ rfl,rfl,rfl⟩,λb hb=>?_,q⟩
  have e:b=s1.heap.objs.size:=by simpa using hb
  subst e
  exact I1.fpOk (kW _) (I1.hok.fresh (kW _))
theorem Jh {t:Bool}{q:mS}{ps:List FV}{S1:Hp}(h:∀ L σ S H,Iv K c md L σ S H->Same S1 S->∃ vs,uQ t K H q vs/\RVs K S ps vs):EK K c md (Its K t q) ps S1:=by
 intro i L σ S H I s
 obtain⟨vs,h1,h2⟩:=h L σ S H I s
 cases t with
 | true =>
  refine⟨λe=>⟨vs,h1,by rw[<- h2.length];exact aJ.mp e⟩,λp ep=>?_⟩
  obtain⟨v,e1,r1⟩:=h2.get ep
  refine⟨⟨vs,v,h1,e1⟩,λw H' ⟨eh,y⟩=>?_⟩
  have:=y vs h1
  rw[e1] at this;cases this
  subst eh
  exact⟨S,Same.refl S,λ_ _ _ _ I=>I,r1⟩
 | false =>
  refine⟨λe=>⟨vs,h1,by rw[<- h2.length];exact aJ.mp e⟩,λp ep=>?_⟩
  obtain⟨v,e1,r1⟩:=h2.get ep
  refine⟨⟨vs,v,h1,e1⟩,λw H' ⟨eh,y⟩=>?_⟩
  have:=y vs h1
  rw[e1] at this;cases this
  subst eh
  exact⟨S,Same.refl S,λ_ _ _ _ I=>I,r1⟩
theorem RV.stays {v:FV}{ps:List FV}{u:V}{S1:Hp}(r:RV K S1 v u)(e:oV v=some ps):∃ q,u=.ref q/\∀ S H,Same S1 S->Same S H->∃ vs,uQ (NB v) K H q vs/\RVs K S ps vs:=by
 cases v with
 | tup qs=>cases e;obtain⟨q,vs,rfl,h1,h2⟩:=r;exact⟨q,rfl,λS H s s'=>⟨vs,SqT.of (s' _ _ (s _ _ h1)),h2.mono s⟩⟩
 | lst qs=>cases e;obtain⟨q,vs,rfl,h1,h2⟩:=r;exact⟨q,rfl,λS H s s'=>⟨vs,SqL.of (s' _ _ (s _ _ h1)),h2.mono s⟩⟩
 | scr ns=>cases e;obtain⟨q,rfl,h⟩:=r;exact⟨q,rfl,λS H s s'=>⟨_,h.sq (s.trans s'),RVs.ns ns⟩⟩
 | _=>cases e
theorem Ph (ha:FE X C a ea):FI X C C.md tg a (qU ea):=PI.imp (IB ha) λσ H R q1=>by obtain⟨c,L,S,Q0,I,h,k⟩:=q1;exact
 ⟨c,L,S,_,I,h,λv L1 hv x S1 H1 r1 I1 s1=>by
  obtain⟨ps,e,q⟩:=oB hv
  obtain⟨l,rfl,st⟩:=r1.stays e
  obtain⟨vs,h1,h2⟩:=st S1 H1 (Same.refl _) I1.sub
  exact⟨NB v,l,vs,rfl,h1,k ps L1 q _ c S1 H1 I1 (λ_ _ _ _ I=>I) rfl (Jh λL σ S H I s=>st S H s I.sub) s1⟩⟩
theorem vZ:∀ (n:Nat) (lo:Int) (i:Nat),(sQ lo n)[i]?=if i<n then some (.int (lo+i)) else none
 | 0,lo,i=>by simp[sQ]
 | n+1,lo,0=>by simp[sQ]
 | n+1,lo,i+1=>by
  show (sQ (lo+1) n)[i]?=_
  rw[vZ n (lo+1) i]
  have e:lo+1+(i:Int)=lo+((i+1:Nat):Int):=by lia
  rw[e]
  simp
theorem DR {lo:Int}{m:Nat}{S1:Hp}:EK K c md (Na lo m) (sQ lo m) S1:=by
 intro i L σ S H I s
 rw[vZ]
 by_cases h:i<m
 ·rw[if_pos h]
  refine⟨λe=>(nomatch e),λp e=>?_⟩
  cases e
  exact⟨h,λv H' q1=>by obtain⟨e1,e2⟩:=q1;exact⟨S,Same.refl S,by rw[e1];exact λ_ _ _ _ I=>I,e2⟩⟩
 ·rw[if_neg h]
  exact⟨λ_=>show m<=i by lia,λp e=>(nomatch e)⟩
theorem Pi (G:Good X C n sp)(hg:C.gl (j9 "range")=true)(hs:nv a=false)(ha:FE X C a ea):FI X C C.md tg (.Call (.Name (j9 "range") p) [a] [] pos) (qV ea):=PI.imp (BF (G.gl hg) (G.blt "range" (by decide)) (nC ha n6 (m3 hs)) (m3 hs)) λσ H R q1=>by obtain⟨c,L,S,Q0,I,h,k⟩:=q1;exact
 ⟨c,L,S,_,I,h,λv L1 hv x S1 H1 r1 I1 s1=>by
  obtain⟨j,e,hb,q⟩:=oB hv
  cases nL e
  have hb:=de hb
  exact⟨j,by rw[show x=.int j from r1],hb.1,hb.2,k _ L1 q _ c S1 H1 I1 (λ_ _ _ _ I=>I) rfl DR s1⟩⟩
theorem NR (G:Good X C n sp)(hg:C.gl (j9 "range")=true)(hs:nv a=false)(hs2:nv b=false)(ha:FE X C a ea)(hb:FE X C b eb):FI X C C.md tg (.Call (.Name (j9 "range") p) [a,b] [] pos) (iRng2 ea eb) :=
 PI.imp (BE (G.gl hg) (G.blt "range" (by decide)) (nC ha (nC hb n6 (m3 hs2)) (m3 hs)) (by rw[m3 hs,m3 hs2];rfl) (m3 hs2)) λσ H R q1=>by obtain⟨c,L,S,Q0,I,h,k⟩:=q1;exact
 ⟨c,L,S,_,I,h,λv L1 hv x S1 H1 r1 I1 s1=>⟨c,L1,S1,_,I1,hv,λw L2 hw y S2 H2 r2 I2 s2=>by
  obtain⟨j,e,hw⟩:=oB hw
  obtain⟨j',e',hb,q⟩:=oB hw
  cases nL e;cases nL e'
  have hb:=b2 hb
  have h1:=de hb.1
  have h2:=de hb.2
  exact⟨j,j',by rw[show x=.int j from r1,show y=.int j' from r2],⟨h1.1,h1.2,h2.1,h2.2⟩,k _ L2 q _ c S2 H2 I2 (λ_ _ _ _ I=>I) rfl DR (s1.trans s2)⟩⟩⟩
theorem xU {P Q:FV}{u w:V}{pp:mS}(I:Iv K c md L σ S H)(hp:H pp=none)(r1:RV K S P u)(r2:RV K S Q w):∃ S',Same S S'/\(∀ c md L σ,Iv K c md L σ S H->Iv K c md L σ S' (n5 H pp (.tup [u,w])))/\RV K S' (.tup [P,Q]) (.ref pp) :=
 ⟨n5 S pp (.tup [u,w]),nH (I.sn hp),λ_ _ _ _ I=>I.new hp _,pp,[u,w],rfl,nz,u,[w],rfl,r1.mono (nH (I.sn hp)),w,[],rfl,r2.mono (nH (I.sn hp)),rfl⟩
theorem DQ {t t':Bool}{q q':mS}{ps qs:List FV}{S1:Hp}(h:∀ L σ S H,Iv K c md L σ S H->Same S1 S->∃ vs,uQ t K H q vs/\RVs K S ps vs)(h':∀ L σ S H,Iv K c md L σ S H->Same S1 S->∃ vs,uQ t' K H q' vs/\RVs K S qs vs):EK K c md (K9 K t t' q q') (oX ps qs) S1:=by
 intro i L σ S H I s
 obtain⟨vs,h1,h2⟩:=h L σ S H I s
 obtain⟨ws,g1,g2⟩:=h' L σ S H I s
 unfold oX
 rw[cg]
 refine⟨λz=>⟨vs,ws,h1,g1,?_⟩,λy ey=>?_⟩
 ·rw[<- h2.length,<- g2.length]
  cases c1:ps[i]? with
  | none=>exact .inl (aJ.mp c1)
  | some _ =>
   cases c2:qs[i]? with
   | none=>exact .inr (aJ.mp c2)
   | some _=>rw[c1,c2] at z;cases z
 ·cases c1:ps[i]? with
  | none=>rw[c1] at ey;cases ey
  | some p1 =>
   cases c2:qs[i]? with
   | none=>rw[c1,c2] at ey;cases ey
   | some q1 =>
    rw[c1,c2] at ey
    cases ey
    obtain⟨v,f1,f2⟩:=h2.get c1
    obtain⟨w,f3,f4⟩:=g2.get c2
    refine⟨⟨vs,ws,v,w,h1,g1,f1,f3⟩,λz H' ⟨pp,hp,ez,yy⟩=>?_⟩
    have:=yy vs ws v w h1 g1 f1 f3
    subst this ez
    exact xU I hp f2 f4
theorem F9 {t:Bool}{q:mS}{ps:List FV}{S1:Hp}(h:∀ L σ S H,Iv K c md L σ S H->Same S1 S->∃ vs,uQ t K H q vs/\RVs K S ps vs):EK K c md (OB K t q) (oX (sQ 0 ps.length) ps) S1:=by
 intro i L σ S H I s
 obtain⟨vs,h1,h2⟩:=h L σ S H I s
 unfold oX
 rw[cg,vZ]
 refine⟨λz=>⟨vs,h1,?_⟩,λy ey=>?_⟩
 ·rw[<- h2.length]
  by_cases hi:i<ps.length
  ·rw[if_pos hi,aX hi] at z;cases z
  ·lia
 ·by_cases hi:i<ps.length
  ·rw[if_pos hi,aX hi] at ey
   cases ey
   obtain⟨v,f1,f2⟩:=h2.get (aX hi)
   refine⟨⟨vs,v,h1,f1⟩,λz H' ⟨pp,hp,ez,yy⟩=>?_⟩
   have:=yy vs v h1 f1
   subst this ez
   exact xU I hp (show RV K S (.int (0+i)) (.int i) by show V.int i=V.int (0+i);rw[Int.zero_add]) f2
  ·rw[if_neg hi] at ey;cases ey
variable {elts:List Expr}{kk:Nat}{tp:Pos}
theorem Pg (G:Good X C n sp)(hg:C.gl (j9 "zip")=true)(hs:nv a=false)(hs2:nv b=false)(ha:FE X C a ea)(hb:FE X C b eb):FI X C C.md (.Tuple elts kk tp) (.Call (.Name (j9 "zip") p) [a,b] [] pos) (wQ ea eb) :=
 PI.imp (LR (G.gl hg) (G.blt "zip" (by decide)) (nC ha (nC hb n6 (m3 hs2)) (m3 hs)) (by rw[m3 hs,m3 hs2];rfl) (m3 hs2)) λσ H R q1=>by obtain⟨c,L,S,Q0,I,h,k⟩:=q1;exact
 ⟨c,L,S,_,I,h,λv L1 hv x S1 H1 r1 I1 s1=>⟨c,L1,S1,_,I1,hv,λw L2 hw y S2 H2 r2 I2 s2=>by
  obtain⟨ps,e,hw⟩:=oB hw
  obtain⟨qs,e',q⟩:=oB hw
  obtain⟨l,rfl,st⟩:=(r1.mono s2).stays e
  obtain⟨l',rfl,st'⟩:=r2.stays e'
  obtain⟨vs,h1,_⟩:=st S2 H2 (Same.refl _) I2.sub
  obtain⟨ws,h2,_⟩:=st' S2 H2 (Same.refl _) I2.sub
  exact⟨_,_,l,l',rfl,⟨vs,h1⟩,⟨ws,h2⟩,k _ L2 q _ c S2 H2 I2 (λ_ _ _ _ I=>I) rfl (DQ (λL σ S H I s=>st S H s I.sub) λL σ S H I s=>st' S H s I.sub) (s1.trans s2)⟩⟩⟩
theorem NT (G:Good X C n sp)(hg:C.gl (j9 "enumerate")=true)(hs:nv a=false)(ha:FE X C a ea):FI X C C.md (.Tuple elts kk tp) (.Call (.Name (j9 "enumerate") p) [a] [] pos) (vD ea) :=
 PI.imp (LS (G.gl hg) (G.blt "enumerate" (by decide)) (nC ha n6 (m3 hs)) (m3 hs)) λσ H R q1=>by obtain⟨c,L,S,Q0,I,h,k⟩:=q1;exact
 ⟨c,L,S,_,I,h,λv L1 hv x S1 H1 r1 I1 s1=>by
  obtain⟨ps,e,q⟩:=oB hv
  obtain⟨l,rfl,st⟩:=r1.stays e
  obtain⟨vs,h1,_⟩:=st S1 H1 (Same.refl _) I1.sub
  exact⟨_,l,rfl,⟨vs,h1⟩,k _ L1 q _ c S1 H1 I1 (λ_ _ _ _ I=>I) rfl (F9 λL σ S H I s=>st S H s I.sub) s1⟩⟩
end
def Mt:List Nat->KM
 | []=>Jj
 | i :: is=>gCons (qE i) (Mt is)
def gT (K:ke):Tg->TG
 | .nm i=>qE i
 | .tp is=>gTup K is.length (Mt is)
 | .tn i is=>gTup K 2 (gCons (qE i) (gCons (gTup K is.length (Mt is)) Jj))
def qA (md:Md):Tg->Bool
 | .nm i=>decide (nA md i=.imm)
 | .tp is=>is.all λi=>decide (nA md i=.imm)
 | .tn i is=>decide (nA md i=.imm) && is.all λi=>decide (nA md i=.imm)
def xu (n:Nat):Tg->Bool
 | .nm i=>decide (n<=i)
 | .tp is=>is.all λi=>decide (n<=i)
 | .tn i is=>decide (n<=i) && is.all λi=>decide (n<=i)
def FG (X:Cx)(t:Expr)(tg:Tg):Prop:=PG X.nox t (gT X.K tg)
section
variable {K:ke}{c:Cn}{md:Md}{L:mV}{σ:L2.St}{S H:Hp}
theorem tR:∀ {is:List Nat}{ps:List FV}{vs:List V}{L L':mV}{σ:L2.St},(is.all λi=>decide (nA md i=.imm))=true->Iv K c md L σ S H->RVs K S ps vs->r6 L is ps=some L' ->
  ∃ σ',(∀ Q:L2.St->Hp->Prop,Q σ' H->Mt is vs σ H Q)/\Iv K c md L' σ' S H/\σ'.length=σ.length/\is.length=vs.length/\∀ n,(is.all λi=>decide (n<=i))=true->∀ j,j<n->σ'[j]?=σ[j]?
 | [],[],vs,L,L',σ,_,I,r,e=>by cases (show vs=[] from r);cases e;exact⟨σ,λQ q=>⟨rfl,q⟩,I,rfl,rfl,λ_ _ _ _=>rfl⟩
 | i :: is,p :: ps,vs,L,L',σ,hm,I,r,e=>by
  obtain⟨v,q,rfl,h1,h2⟩:=r
  have hm:=b2 (show (decide (nA md i=.imm) && is.all λi=>decide (nA md i=.imm))=true from hm)
  obtain⟨σ',g,I',l1,l2,far⟩:=tR (is:=is) (ps:=ps) (vs:=q) hm.2 (I.setI (de hm.1) h1) h2 e
  refine⟨σ',λQ q'=>⟨v,q,rfl,g Q q'⟩,I',by rw[l1,im],by rw[gm,gm,l2],λn hn j hj=>?_⟩
  have hn:=b2 (show (decide (n<=i) && is.all λi=>decide (n<=i))=true from hn)
  have:=de hn.1
  rw[far n hn.2 j hj,cK ⋯]
 | [],p :: ps,_,_,_,_,_,_,_,e=>by cases e
 | i :: is,[],_,_,_,_,_,_,_,e=>by cases e
theorem zx {tg:Tg}{v:FV}{x:V}{Q:mV->Prop}(hm:qA md tg=true)(I:Iv K c md L σ S H)(r:RV K S v x)(h:gW tg v L Q) :
  ∃ σ' L',(∀ Q':L2.St->Hp->Prop,Q' σ' H->gT K tg x σ H Q')/\Q L'/\Iv K c md L' σ' S H/\σ'.length=σ.length/\∀ n,xu n tg=true->∀ j,j<n->σ'[j]?=σ[j]?:=by
 cases tg with
 | nm i =>
  refine⟨σ.set i (some x),L.set i (some v),λQ q=>q,h,I.setI (de hm) r,im ..,λn hn j hj=>?_⟩
  have:n<=i:=de hn
  exact cK ⋯
 | tp is =>
  obtain⟨ps,e,h⟩:=oB h
  obtain⟨L',e1,q⟩:=oB h
  cases pd e
  obtain⟨a,vs,rfl,h1,h2⟩:=r
  obtain⟨σ',g,I',l1,l2,far⟩:=tR hm I h2 e1
  exact⟨σ',L',λQ q=>⟨a,vs,rfl,SqT.of (I.sub _ _ h1),l2.symm,g Q q⟩,q,I',l1,far⟩
 | tn i is =>
  have hm:=b2 hm
  obtain⟨ps,e,h⟩:=oB h
  obtain⟨p,e1,h⟩:=oB h
  obtain⟨qs,e2,h⟩:=oB h
  obtain⟨L',e3,q⟩:=oB h
  cases pd e
  obtain⟨p1,p2⟩:=p
  obtain rfl:ps=[p1,p2]:=by
   rcases ps with _|⟨a,_|⟨b,_|⟨c,r⟩⟩⟩<;>first|(cases e1;done)|(cases e1;rfl)
  obtain⟨a,vs,rfl,h1,h2⟩:=r
  obtain⟨u,w,rfl,r1,r2⟩:=h2.two_of
  cases pd e2
  obtain⟨b,ws,rfl,h3,h4⟩:=r2
  obtain⟨σ',g,I',l1,l2,far⟩:=tR hm.2 (I.setI (de hm.1) r1) h4 e3
  refine⟨σ',L',λQ q=>⟨a,_,rfl,SqT.of (I.sub _ _ h1),rfl,_,_,rfl,_,_,rfl,b,ws,rfl,SqT.of (I.sub _ _ h3),l2.symm,g _ ⟨rfl,q⟩⟩,q,I',by rw[l1,im],λn hn j hj=>?_⟩
  have hn:=b2 hn
  have:=de hn.1
  rw[far n hn.2 j hj,cK ⋯]
theorem Iv.regrow {a:mS}{o o':HO}(I:Iv K { c with pr:=(a,o) :: c.pr } md L σ S H)(h0:c.H0 a=none)(hp:∀ p∈c.pr,p.1≠a)(hz:∀ p∈c.fz,∃ o,(p.2,o)∈c.pr)(nt:sg o'=false:=by first|rfl|exact tE _ _):Iv K { c with pr:=(a,o') :: c.pr } md L σ S (n5 H a o'):=by
 obtain⟨_,sa,na⟩:=I.prs (a,o) dQ
 have oa:∀ j w b,nA md j≠.imm->L[j]?=some (some w)->σ[j]?=some (some (.ref b))->b≠a:=λj w b hm hj hs z=>by
  subst z
  by_cases m:(nA md j).w=true
  ·exact na j w m hj hs
  ·have m:nA md j=.frz:=by cases q:nA md j with|imm=>exact absurd q hm|frz=>rfl|_=>rw[q] at m;exact absurd rfl m
   obtain⟨b',g1⟩:=I.fzm j w m hj
   obtain⟨_,g2,_⟩:=I.fzs _ g1
   rw[hs] at g2;cases g2
   obtain⟨xs,g3⟩:=hz _ g1
   exact hp _ g3 rfl
 refine⟨I.len,I.imm,λj w hm hj=>?_,I.dis,λb u e=>?_,λb u e n n1=>?_,I.s0,I.grow,I.lent,I.fzs,I.fzm,λp hpz=>let ⟨xs,g⟩:=hz p hpz;⟨xs,cI _ g⟩,λp hpr=>?_,λp hpr=>(jN.mp hpr).elim (λz=>by rw[z];exact nt) λz=>I.ntp p (cI _ z),I.lnt1,I.tie⟩
 ·obtain⟨b,e1,⟨g1,ps,xs,g2,g3,g4⟩,g5⟩:=I.own j w hm hj
  exact⟨b,e1,⟨g1,ps,xs,g2,by rw[m9 (oa j w b hm hj e1)];exact g3,g4⟩,g5⟩
 ·rw[m9 λz=>by subst z;rw[sa] at e;cases e];exact I.sub b u e
 ·rw[m9 λz=>by subst z;rw[h0] at e;cases e];exact I.frame b u e n n1
 ·rcases jN.mp hpr with rfl|hpr
  ·exact⟨nz,sa,na⟩
  ·obtain⟨g1,g2,g3⟩:=I.prs p (cI _ hpr)
   exact⟨by rw[m9 (hp p hpr)];exact g1,g2,g3⟩
theorem Iv.unprot {a:mS}{o:HO}(I:Iv K { c with pr:=(a,o) :: c.pr } md L σ S H)(hz:∀ p∈c.fz,∃ o,(p.2,o)∈c.pr):Iv K c md L σ S H :=
 ⟨I.len,I.imm,I.own,I.dis,I.sub,I.frame,I.s0,I.grow,I.lent,I.fzs,I.fzm,hz,λp hp=>I.prs p (cI _ hp),λp hp=>I.ntp p (cI _ hp),I.lnt1,I.tie⟩
theorem Dw:∀ {md:Md}{i:Nat},md.length<=i->nA md i=.imm
 | [],i,_=>rfl
 | a :: md,0,h=>absurd h (by simp)
 | a :: md,i+1,h=>Dw (md:=md) (i:=i) (by simpa using h)
theorem Iv.more (I:Iv K c md L σ S H) (m:Nat):Iv K c md (L++jc m none) (σ++jc m none) S H:=by
 have look:∀ j w,(L++jc m none)[j]?=some (some w)->L[j]?=some (some w)/\(σ++jc m none)[j]?=σ[j]?:=λj w z=>by
  by_cases h:j<L.length
  ·rw[aK h] at z
   exact⟨z,aK (by rw[<- I.len];exact h)⟩
  ·rw[az ⋯,bp] at z
   split at z<;>cases z
 have up:∀ j w,L[j]?=some (some w)->(L++jc m none)[j]?=some (some w)/\(σ++jc m none)[j]?=σ[j]?:=λj w z=>by
  have h:=(aI.mp z).1
  exact⟨by rw[aK h];exact z,aK (by rw[<- I.len];exact h)⟩
 refine⟨by simp[I.len],λj w hm z=>?_,λj w hm z=>?_,λj k w u b m1 m2 z1 z2 y1 y2=>?_,I.sub,I.frame,I.s0,I.grow,λb hb=>?_,λp hp=>?_,λj w hm z=>I.fzm j w hm (look j w z).1,I.fzp,λp hp=>?_,I.ntp,λq hq=>?_,λj k x C dx fs w h1 h2 h3 h4=>?_⟩
 ·obtain⟨z,y⟩:=look j w z;rw[y];exact I.imm j w hm z
 ·obtain⟨z,y⟩:=look j w z;rw[y];exact I.own j w hm z
 ·obtain⟨z1,q1⟩:=look j w z1
  obtain⟨z2,q2⟩:=look k u z2
  rw[q1] at y1;rw[q2] at y2
  exact I.dis j k w u b m1 m2 z1 z2 y1 y2
 ·obtain⟨g1,g2,w,g3⟩:=I.lent b hb
  obtain⟨f1,f2⟩:=up 0 w g3
  exact⟨g1,by rw[f2];exact g2,w,f1⟩
 ·obtain⟨g1,g2,w,g3⟩:=I.fzs p hp
  obtain⟨f1,f2⟩:=up p.1 w g3
  exact⟨g1,by rw[f2];exact g2,w,f1⟩
 ·obtain⟨g1,g2,g3⟩:=I.prs p hp
  refine⟨g1,g2,λj w hm z=>?_⟩
  obtain⟨z,y⟩:=look j w z
  rw[y];exact g3 j w hm z
 ·obtain⟨g1,g2,w,g3⟩:=I.lnt1 q hq
  obtain⟨f1,f2⟩:=up q.1 w g3
  exact⟨g1,by rw[f2];exact g2,w,f1⟩
 ·obtain⟨z4,y4⟩:=look j w h4
  rw[y4]
  exact I.tie j k x C dx fs w h1 h2 (look k _ h3).1 z4
theorem Iv.take {n:Nat}{σ2:L2.St}(I:Iv K c md L σ2 S H)(hmd:md.length<=n)(hs:σ.length=n)(hl:n<=σ2.length)(e:∀ j,j<n->σ2[j]?=σ[j]?):Iv K c md (L.take n) σ S H:=by
 have look:∀ j w,(L.take n)[j]?=some (some w)->L[j]?=some (some w)/\σ[j]?=σ2[j]?:=λj w z=>by
  have h:=(aI.mp z).1
  rw[gi] at h
  rw[aW ⋯] at z
  exact⟨z,(e j ⋯).symm⟩
 have up:∀ j w,nA md j≠.imm->L[j]?=some (some w)->(L.take n)[j]?=some (some w)/\σ[j]?=σ2[j]?:=λj w hm z=>by
  have h:j<n:=by
   by_cases h:j<n
   ·exact h
   ·exact absurd (Dw ⋯) hm
  exact⟨by rw[aW h];exact z,(e j h).symm⟩
 refine⟨by rw[gi,I.len,hs];lia,λj w hm z=>?_,λj w hm z=>?_,λj k w u b m1 m2 z1 z2 y1 y2=>?_,I.sub,I.frame,I.s0,I.grow,λb hb=>?_,λp hp=>?_,λj w hm z=>I.fzm j w hm (look j w z).1,I.fzp,λp hp=>?_,I.ntp,λq hq=>?_,λj k x C dx fs w h1 h2 h3 h4=>?_⟩
 ·obtain⟨z,y⟩:=look j w z;rw[y];exact I.imm j w hm z
 ·obtain⟨z,y⟩:=look j w z;rw[y];exact I.own j w hm z
 ·obtain⟨z1,q1⟩:=look j w z1
  obtain⟨z2,q2⟩:=look k u z2
  rw[q1] at y1;rw[q2] at y2
  exact I.dis j k w u b m1 m2 z1 z2 y1 y2
 ·obtain⟨g1,g2,w,g3⟩:=I.lent b hb
  obtain⟨f1,f2⟩:=up 0 w g1 g3
  exact⟨g1,by rw[f2];exact g2,w,f1⟩
 ·obtain⟨g1,g2,w,g3⟩:=I.fzs p hp
  obtain⟨f1,f2⟩:=up p.1 w (λz=>by rw[g1] at z;cases z) g3
  exact⟨g1,by rw[f2];exact g2,w,f1⟩
 ·obtain⟨g1,g2,g3⟩:=I.prs p hp
  refine⟨g1,g2,λj w hm z=>?_⟩
  obtain⟨z,y⟩:=look j w z
  rw[y];exact g3 j w hm z
 ·obtain⟨g1,g2,w,g3⟩:=I.lnt1 q hq
  obtain⟨f1,f2⟩:=up q.1 w (λz=>by rw[z] at g1;cases g1) g3
  exact⟨g1,by rw[f2];exact g2,w,f1⟩
 ·obtain⟨z4,y4⟩:=look j w h4
  rw[y4]
  exact I.tie j k x C dx fs w h1 h2 (look k _ h3).1 z4
theorem vM {α β:Type}{J:It}{xs:List FV}{n m:Nat}{tg:Tg}{t:BW}{QH:Hp->Prop}{fr:β->Cn}{P:α->β->Hp->Prop}{N:α->Nat}{Cm:List FV->α->mV->Prop}{em:α->mV->(α->mV->Prop)->Prop}{eh:L2.St->Hp->(Hp->Prop)->Prop}{a0:α}{b0:β}
  (I:Iv K (fr b0) md L σ S H)(hJ:EK K c md J xs S)(hL:L.length=n)(hmd:md.length<=n)(ht:qA md tg=true)(hg:xu n tg=true)(p0:P a0 b0 S)(n0:N a0=0)(h:Cm xs a0 L)
  (hU:∀ a b L σ S H,Iv K (fr b) md L σ S H->P a b S->Iv K c md L σ S H)(hP:∀ a b S S',P a b S->Same S S'->P a b S')
  (hC:∀ x xs a L,Cm (x :: xs) a L->gW tg x (L++jc m none) λL1=>t L1 λb L2=>if b=true then em a L2 (λa' L4=>Cm xs a' (L4.take n)) else Cm xs a (L2.take n))
  (hE:∀ a b L3 σ2 S3 H3 K' Z,N a<xs.length->Iv K (fr b) md L3 σ2 S3 H3->P a b S3->em a L3 K'->(∀ a' b' L4 S4 H4,K' a' L4->Iv K (fr b') md L4 σ2 S4 H4->P a' b' S4->Same S3 S4->N a'<=N a+1->Z H4)->eh σ2 H3 Z)
  (k:∀ a b L' S' H',Cm [] a L'->Iv K (fr b) md L' σ S' H'->P a b S'->Same S S'->QH H') :
  ∃ W:Nat->Nat->Hp->Prop,(∃ m,W 0 m H)/\∀ i j H,W i j H ->
   (J.stop i H/\QH H) ∨ (J.go i H/\∀ x H',J.yld i H x H'->gT K tg x (σ++jc m none) H' λσ2 H2=>Wk (σ++jc m none) σ2/\lb K md t σ2 H2 λb H3 =>
    if b=true then eh σ2 H3 λH4=>∃ m',m'<j/\W (i+1) m' H4 else ∃ m',m'<j/\W (i+1) m' H3):=by
 have hl:σ.length=n:=by rw[<- I.len];exact hL
 refine⟨λi j H1=>∃ L S1 a b,j=(xs.drop i).length/\Iv K (fr b) md L σ S1 H1/\P a b S1/\Same S S1/\L.length=n/\N a<=i/\Cm (xs.drop i) a L,⟨_,L,S,a0,b0,rfl,I,p0,Same.refl S,hL,ku n0,by rw[jh];exact h⟩,?_⟩
 rintro i j H1 ⟨L,S1,a,b,rfl,I,r,s,hL,hps,hc⟩
 obtain⟨j1,j2⟩:=hJ i L σ S1 H1 (hU _ _ _ _ _ _ I r) s
 cases hd:xs.drop i with
 | nil =>
  left
  rw[hd] at hc
  exact⟨j1 (aJ.mpr (cL.mp hd)),k a b L S1 H1 hc I r s⟩
 | cons p rest =>
  right
  rw[hd] at hc
  have hi:xs[i]?=some p:=by
   have:=congrArg (·[0]?) hd
   simpa using this
  have hd':xs.drop (i+1)=rest:=by
   have:=congrArg List.tail hd
   simpa[ja] using this
  have hix:i<xs.length:=(aI.mp hi).1
  obtain⟨go,yl⟩:=j2 p hi
  refine⟨go,λx H2 y=>?_⟩
  obtain⟨S2,s2,tr,rx⟩:=yl x H2 y
  have I2:=(tr _ _ _ _ I).more m
  obtain⟨σ2,L2,gq,q2,I2,len2,far⟩:=zx ht I2 rx (hC _ _ _ _ hc)
  have l2:n<=σ2.length:=by rw[len2,dS,hl];lia
  have far':∀ q,q<n->σ2[q]?=σ[q]?:=λq hq=>by rw[far n hg q hq,aK (by rw[hl];exact hq)]
  refine gq _ ⟨⟨len2,λq v hv=>?_⟩,?_⟩
  ·have hq:q<n:=by
    by_cases h:q<σ.length
    ·rw[<- hl];exact h
    ·rw[az ⋯,bp] at hv
     split at hv<;>cases hv
   rw[far n hg q hq];exact hv
  ·refine⟨_,L2,S2,_,I2,q2,λb1 L3 hb3 S3 H3 I3 s3=>?_⟩
   have ln:∀ {c':Cn}{L4:mV}{S4 H4:Hp},Iv K c' md L4 σ2 S4 H4->(L4.take n).length=n:=λI4=>by rw[gi,I4.len];lia
   show ite _ _ _
   cases b1 with
   | false =>
    rw[if_neg eB] at hb3 ⊢
    exact⟨rest.length,by simp,L3.take n,S3,a,b,by rw[hd'],I3.take hmd hl l2 far',hP _ _ _ _ r (s2.trans s3),s.trans (s2.trans s3),ln I3,by lia,by rw[hd'];exact hb3⟩
   | true =>
    rw[if_pos rfl] at hb3 ⊢
    exact hE a b L3 σ2 S3 H3 _ _ ⋯ I3 (hP _ _ _ _ r (s2.trans s3)) hb3 λa' b' L4 S4 H4 hv I4 r4 s4 n4=>⟨rest.length,by simp,L4.take n,S4,a',b',by rw[hd'],I4.take hmd hl l2 far',r4,s.trans (s2.trans (s3.trans s4)),ln I4,by lia,by rw[hd'];exact hv⟩
theorem Iv.newPr {Z8:mS}{o:HO}(I:Iv K { c with pr:=(Z8,o) :: c.pr } md L σ S H)(h0:c.H0 Z8=none)(hp:∀ p∈c.pr,p.1≠Z8)(hz:∀ p∈c.fz,∃ o,(p.2,o)∈c.pr):H Z8=some o/\S Z8=none/\so c md L σ Z8:=by
 obtain⟨g1,g2,g3⟩:=I.prs (Z8,o) dQ
 refine⟨g1,g2,h0,hp,λq w hm hq hs=>?_⟩
 by_cases mo:(nA md q).w=true
 ·exact g3 q w mo hq hs
 ·have mo:nA md q=.frz:=by cases z:nA md q with|imm=>exact absurd z hm|frz=>rfl|_=>rw[z] at mo;exact absurd rfl mo
  obtain⟨b,f1⟩:=I.fzm q w mo hq
  obtain⟨_,f2,_⟩:=I.fzs _ f1
  rw[hs] at f2;cases f2
  obtain⟨ys,f3⟩:=hz _ f1
  exact hp _ f3 rfl
theorem Ek {J:It}{xs:List FV}{n m:Nat}{tg:Tg}{t:BW}{e:EW}{Q:VK}{Q1:List FV->mV->Prop}(I:Iv K c md L σ S H)(hJ:EK K c md J xs S)(hL:L.length=n)(hmd:md.length<=n)(ht:qA md tg=true)(hg:xu n tg=true)(hb:xs.length<=big)(h:pV n m tg t e xs [] L Q1)
  (k:∀ Z8 ps L' S' H',H Z8=none->Q1 ps L'->OwnAt K S' H' Z8 (.lst ps)->so c md L' σ Z8->Iv K c md L' σ S' H'->Same S S'->Q (.ref Z8) H') :
  ∀ Z8,H Z8=none->∃ W:Nat->Nat->Hp->Prop,(∃ m,W 0 m (n5 H Z8 (.lst [])))/\∀ i j H,W i j H ->
   (J.stop i H/\Q (.ref Z8) H) ∨ (J.go i H/\∀ x H',J.yld i H x H'->gT K tg x (σ++jc m none) H' λσ2 H2=>Wk (σ++jc m none) σ2/\lb K md t σ2 H2 λb H3 =>
    if b=true then Qe (lv K md e) Z8 σ2 H3 λH4=>∃ m',m'<j/\W (i+1) m' H4 else ∃ m',m'<j/\W (i+1) m' H3):=by
 intro Z8 hacc
 have h0:=I.h0 hacc
 have hp:∀ p∈c.pr,p.1≠Z8:=(I.fresh hacc).2.1
 have hz:=I.fzp
 have hbl:=oj
 refine vM (fr:=λus=>{ c with pr:=(Z8,.lst us) :: c.pr }) (P:=λps us S=>RVs K S ps us) (N:=kZ) (Cm:=λxs ps L=>pV n m tg t e xs ps L Q1) (em:=λps L3 K'=>e L3 λv L4=>K' (ps++[v]) L4) (a0:=[]) (b0:=[]) ((I.lay hacc _).prot nz (I.sn hacc) λj w hm hj=>(I.fresh hacc).2.2 j w (Mo.w_imm hm) hj) hJ hL hmd ht hg rfl rfl h (λ_ _ _ _ _ _ I _=>I.unprot hz) (λ_ _ _ _ r s=>r.mono s) (λ_ _ _ _ h=>h) (λps us L3 σ2 S3 H3 K' Z hn I3 r hv kz=>?_) λps us L' S' H' q I' r s'=>?_
 ·refine⟨_,L3,S3,_,I3,hv,λv L4 hv u S4 H4 r4 I4 s4=>?_⟩
  have lr:=r.length
  exact⟨us,(I4.prs (Z8,.lst us) dQ).1,by lia,kz _ (us++[u]) L4 S4 _ hv (I4.regrow h0 hp hz) ((r.mono s4).append (RVs.one r4)) s4 (by simp)⟩
 ·obtain⟨g1,g2,f⟩:=I'.newPr h0 hp hz
  exact k Z8 ps L' S' H' hacc q ⟨g2,ps,us,rfl,g1,r⟩ f (I'.unprot hz) s'
end
def DS:Expr->Bool
 | .Set ..=>true
 | _=>false
theorem zy {x:Expr}{env:Env}(h:DS x=false):∀ v,foldedSetIterable x env v=pure v:=by
 intro v
 cases x<;>first|rfl|(cases h;done)
def CC.tn (C:CC) (i:Nat)(x:Str):Bool:=decide (C.N[i]?=some x) && C.loc x
def Ia (outer:List (Str×lX))(names:List (Str×lX)):List (Str×lX) :=
 names.map λ(n,k)=>if (k == NameKind.free && outer.lookup n == some .cell) then (n,NameKind.cell) else (n,k)
def CC.sub (C:CC)(scope:mG)(own:List Str)(md:Md):CC:=⟨C.N.map (se own)++own,Ia C.sc scope.names,C.fns,md,false,scope.names,C.ms,C.fl⟩
def CC.scOk (C:CC)(scope:mG)(own:List Str):Bool :=
 decide (scope.kind=.function) && scope.names.all (λp=>decide (p.2=.cell->scope.names.lookup p.1=some .cell)) && scope.names.all (λp=>decide (p.2=.local->scope.names.lookup p.1=some .local)) &&
 scope.names.all (λp=>decide (p.2=.free->(C.sc.lookup p.1=some .cell ∨ C.sc.lookup p.1=some .free))) && C.N.all (λx=>if own.contains x then decide (scope.names.lookup (Ge x)=none) else decide (scope.names.lookup x≠some .local/\scope.names.lookup x≠some .cell)) && decide ((C.N.map (se own)++own).Nodup)
def FQ:Md->Md->Bool
 | [],_=>true
 | a :: md,[]=>decide (a=.imm) && FQ md []
 | a :: md,b :: md'=>(decide (a=.imm) || !decide (b=.imm)) && FQ md md'
theorem tF:∀ {md md':Md},FQ md md'=true->∀ j,nA md j≠.imm->nA md' j≠.imm
 | [],_,_,j,h=>absurd rfl h
 | a :: md,[],h,0,h0=>absurd (de (b2 h).1) h0
 | a :: md,[],h,j+1,h0=>tF (md:=md) (md':=[]) (b2 h).2 j h0
 | a :: md,b :: md',h,0,h0=>λz=>by
  have h:=(b2 h).1
  have h0:a≠.imm:=h0
  have z:b=.imm:=z
  simp[h0,z] at h
 | a :: md,b :: md',h,j+1,h0=>tF (md:=md) (md':=md') (b2 h).2 j h0
def KQ (X:Cx)(es:List Expr)(is:List Nat):Prop:=M6 X.nox es (Mt is)/\(assignEach es X.env).length=is.length/\(assignEach es X.env).findIdx? (·.1)=none
def Sl (X:Cx)(C:CC)(xs:List Expr)(t:BW):Prop:=PTs X.nox xs (lb X.K C.md t)
section
variable {X:Cx}{C:CC}{n:Nat}{sp:ke->Nat->Sp}{a x:Expr}{xs:List Expr}{pos p:Pos}{i k:Nat}{nx:Str}{is:List Nat}{t u:BW}
theorem Good.ix (G:Good X C n sp){y:Str}(h:decide (C.N[i]?=some y)=true):X.N[i]?=some y:=by rw[G.N];exact de h
theorem Good.nd' (G:Good X C n sp):X.N.Nodup:=by rw[G.N];exact G.nd
theorem Hv (G:Good X C n sp)(h:C.tn i nx=true):FG X (.Name nx p) (.nm i):=by
 have h:=b2 h
 obtain⟨l1,l2⟩:=G.loc h.2
 exact Fl (X:=X.nox) G.nd' (G.ix h.1) l1 l2
theorem NU:KQ X [] []:=⟨Ar,rfl,rfl⟩
theorem Mv (G:Good X C n sp)(h:C.tn i nx=true)(r:KQ X xs is):KQ X (.Name nx p :: xs) (i :: is):=by
 obtain⟨h1,h2,h3⟩:=r
 refine⟨tW (Hv G h) h1 rfl,?_,?_⟩
 ·show (assignEach xs X.env).length+1=is.length+1
  rw[h2]
 ·show ((false,assign (.Name nx p) X.env) :: assignEach xs X.env).findIdx? (·.1)=none
  rw[List.findIdx?_cons]
  simp[h3]
theorem D4 (G:Good X C n sp)(r:KQ X xs is):FG X (.Tuple xs k p) (.tp is):=Dd (X:=X.nox) G.calm r.1 r.2.1 r.2.2
theorem fg_tn (G:Good X C n sp){k2:Nat}{p2 p3:Pos}(h:C.tn i nx=true)(r:KQ X xs is):FG X (.Tuple [.Name nx p3,.Tuple xs k2 p2] k p) (.tn i is) :=
 Dd (X:=X.nox) G.calm (tW (Hv G h) (tW (D4 G r) Ar rfl) rfl) rfl rfl
theorem PTs.imp {e:List Expr}{t u:TT}(h:PTs X e t)(f:∀ σ H Q,u σ H Q->t σ H Q):PTs X e u:=λZ9 s σ H Q I hu=>h Z9 s σ H Q I (f σ H Q hu)
theorem NH:Sl X C [] nP:=PTs.imp An λσ H Q q1=>by obtain⟨c,L,S,Q0,I,h,k⟩:=q1;exact k true L h S H I (Same.refl S)
theorem NG (h1:FB X C a t):Sl X C [a] t:=PTs.imp (C4 h1 (An (X:=X.nox))) λσ H Q q1=>by obtain⟨c,L,S,Q0,I,h,k⟩:=q1;exact
 ⟨c,L,S,_,I,h,λr L1 q S1 H1 I1 s1=>by
  cases r with
  | true=>rw[if_pos rfl];exact k true L1 q S1 H1 I1 s1
  | false=>rw[if_neg eB];exact k false L1 q S1 H1 I1 s1⟩
theorem Good.sub (G:Good X C n sp){scope:mG}{own:List Str}(h:C.scOk scope own=true)(md:Md):CScope X scope own/\∀ fp D s H,Good (rT X scope own fp D s H) (C.sub scope own md) n sp:=by
 simp only[CC.scOk,gF,decide_eq_true_eq,gw] at h
 obtain⟨⟨⟨⟨⟨h1,h2⟩,h3⟩,h4⟩,h5⟩,h6⟩:=h
 refine⟨⟨h1,λp hp=>by simpa using h2 p hp,λp hp=>by simpa using h3 p hp,λp hp hk=>?_,λx hx hw=>?_,λx hx hw=>?_⟩,λfp D s H=>⟨?_,?_,h1,h6,G.calm,(λx z=>z),G.room,G.fns,G.blt,G.mts,G.fls⟩⟩
 ·have:=h4 p hp
  show X.env.scope.names.lookup p.1=_ ∨ X.env.scope.names.lookup p.1=_
  rw[G.sc];exact this hk
 ·have:=h5 x (by rw[<- G.N];exact hx)
  rw[if_neg (by rw[hw];exact eB)] at this
  exact de this
 ·have:=h5 x (by rw[<- G.N];exact hx)
  rw[if_pos hw] at this
  exact de this
 ·show X.N.map (se own)++own=C.N.map (se own)++own
  rw[G.N]
 ·show (relabel scope X.env).names=Ia C.sc scope.names
  unfold relabel Ia
  simp only
  refine c5 λp hp=>?_
  obtain⟨nm,kd⟩:=p
  show (if (kd == NameKind.free && X.env.scope.kind == .function && X.env.scope.names.lookup nm == some .cell)=true then (nm,NameKind.cell) else (nm,kd))=_
  rw[G.kind,G.sc]
  simp
variable {scope:mG}{own:List Str}{Z3 ZY Z5:Expr}{Z4:List Expr}{it:AW}{tg:Tg}{e:EW}{nn m:Nat}{md':Md}
structure CompOk (X:Cx)(C:CC) (n:Nat)(sp:ke->Nat->Sp)(scope:mG)(own:List Str)(Z3 ZY Z5:Expr)(Z4:List Expr) (nn m:Nat)(md':Md)(it:AW)(tg:Tg)(t:BW)(e:EW):Prop where
 st:(C.scOk scope own && decide (C.N.length=nn) && decide (own.length=m) && decide (md'.length<=nn) && FQ C.md md' && qA md' tg && xu nn tg && !DS Z5)=true
 it:FI X C md' ZY Z5 it
 tg:∀ X',Good X' (C.sub scope own md') n sp->FG X' ZY tg
 ts:∀ X',Good X' (C.sub scope own md') n sp->Sl X' (C.sub scope own md') Z4 t
 el:∀ X',Good X' (C.sub scope own md') n sp->FE X' (C.sub scope own md') Z3 e
theorem CompOk.run (G:Good X C n sp)(h:CompOk X C n sp scope own Z3 ZY Z5 Z4 nn m md' it tg t e){σ:L2.St}{H:Hp}{Q:VK}(hq:lf X.K C.md (nU nn m it tg t e) σ H Q):CA (li X.K C.md md' it) (gT X.K tg) (lb X.K md' t) (lv X.K md' e) own.length σ H Q:=by
 have h0:=b2 h.st;have h1:=b2 h0.1;have h2:=b2 h1.1;have h3:=b2 h2.1;have h4:=b2 h3.1;have h5:=b2 h4.1;have h6:=b2 h5.1
 obtain⟨c,L,S,Q0,I,hh,k⟩:=hq
 refine⟨c,L,S,_,I,hh,λxs L1 hx J c' S1 H1 I1 un e0 hJ s1=>?_⟩
 obtain⟨hl,hb,hc⟩:=hx
 rw[de h5.2]
 refine Ek I1 hJ hl (de h4.2) h2.2 h1.2 hb hc λZ8 ps L' S' H' hn q o fr I' s'=>k _ L' q Z8 S' H' o ⟨by rw[<- e0];exact fr.1,((un _ _ _ _ I1).fresh hn).2.1,λj w hm=>fr.2.2 j w (tF h3.2 j hm)⟩ (un _ _ _ _ I') (s1.trans s')
theorem CompOk.blk (G:Good X C n sp)(h:CompOk X C n sp scope own Z3 ZY Z5 Z4 nn m md' it tg t e):CScope X scope own/\(∀ fp D s H,PG (rT X scope own fp D s H) ZY (gT X.K tg)/\PTs (rT X scope own fp D s H) Z4 (lb X.K md' t)/\PE (rT X scope own fp D s H) Z3 (lv X.K md' e))/\∀ v,foldedSetIterable Z5 X.env v=pure v:=by
 have h0:=b2 h.st;have h1:=b2 h0.1;have h2:=b2 h1.1;have h3:=b2 h2.1;have h4:=b2 h3.1;have h5:=b2 h4.1;have h6:=b2 h5.1
 obtain⟨s1,s2⟩:=G.sub h6.1 md'
 exact⟨s1,λfp D s H=>⟨h.tg _ (s2 fp D s H),h.ts _ (s2 fp D s H),h.el _ (s2 fp D s H)⟩,zy (nb h0.2)⟩
theorem nM (G:Good X C n sp)(h:CompOk X C n sp scope own Z3 ZY Z5 Z4 nn m md' it tg t e):FF X C (.ListComp Z3 [⟨ZY,Z5,Z4,0⟩] scope pos) (nU nn m it tg t e):=by
 obtain⟨s1,s2,s3⟩:=h.blk G
 exact PE.imp (At G.calm s1 h.it s2 s3) λσ H Q q=>h.run G q
end
def M4 (K:ke)(c:Cn)(S H:Hp)(v:FV)(x:V):Bool->Prop
 | false=>RV K S v x
 | true=>∃ a,x=.ref a/\OwnAt K S H a v/\c.H0 a=none
def Nb (K:ke)(c:Cn)(fr:Bool)(D:Ends)(σ:L2.St)(S H:Hp):FFl->Prop
 | .next=>D.nx σ H
 | .brk=>D.bk σ H
 | .cont=>D.ct σ H
 | .ret v=>∀ x,M4 K c S H v x fr->D.rt x H
inductive ls (K:ke)(md:Md)(fr:Bool)(s:SW)(D:Ends)(σ:L2.St)(H:Hp):Prop
 | mk (c:_)(L:_)(S:_)(Q0:_)(_:Iv K c md L σ S H)(_:s L Q0)(_:∀ fl L',Q0 fl L'->∀ σ' S' H',Iv K c md L' σ' S' H'->Same S S'->Nb K c fr D σ' S' H' fl):ls K md fr s D σ H
def FS (X:Cx)(C:CC)(fr:Bool)(x:mP)(s:SW):Prop:=PS X.nox x (ls X.K C.md fr s)
def Be (X:Cx)(C:CC)(fr:Bool)(x:List mP)(s:SW):Prop:=PSs X.nox x (ls X.K C.md fr s)
def CC.wmd (C:CC)(md:Md):CC:=⟨C.N,C.sc,C.fns,md,C.top,C.oc,C.ms,C.fl⟩
section
variable {X:Cx}{C:CC}{n:Nat}{sp:ke->Nat->Sp}{fr:Bool}{a b x y:Expr}{e ea eb:EW}{pos p px py:Pos}{i j k:Nat}{nx ny:Str}{is:List Nat}{st:mP}{sts:List mP}{s r:SW}
variable {K:ke}{c:Cn}{md:Md}{L:mV}{σ:L2.St}{S H:Hp}
theorem Good.wmd (G:Good X C n sp)(md:Md):Good X (C.wmd md) n sp:=⟨G.N,G.sc,G.kind,G.nd,G.calm,G.fn,G.room,G.fns,G.blt,G.mts,G.fls⟩
theorem PS.imp {e:mP}{t u:TS}(h:PS X e t)(f:∀ D σ H,u D σ H->t D σ H):PS X e u:=λZ9 s σ H D I hu=>h Z9 s σ H D I (f D σ H hu)
theorem PSs.imp {e:List mP}{t u:TS}(h:PSs X e t)(f:∀ D σ H,u D σ H->t D σ H):PSs X e u:=λZ9 s σ H D I hu=>h Z9 s σ H D I (f D σ H hu)
theorem Pd:Be X C fr [] oM:=PSs.imp Ff λD σ H q1=>by obtain⟨c,L,S,Q0,I,h,k⟩:=q1;exact k .next L h σ S H I (Same.refl S)
theorem oR (h:FS X C fr st s):Be X C fr [st] s:=Fe h
theorem m6 (h:FS X C fr st s)(h2:Be X C fr sts r):Be X C fr (st :: sts) (mZ s r):=PSs.imp (C6 h h2) λD σ H q1=>by obtain⟨c,L,S,Q0,I,h,k⟩:=q1;exact
 ⟨c,L,S,_,I,h,λfl L1 q σ1 S1 H1 I1 s1=>by
  cases fl with
  | next=>exact⟨c,L1,S1,_,I1,q,λfl L2 q σ2 S2 H2 I2 s2=>k fl L2 q σ2 S2 H2 I2 (s1.trans s2)⟩
  | brk=>exact k _ L1 q σ1 S1 H1 I1 s1
  | cont=>exact k _ L1 q σ1 S1 H1 I1 s1
  | ret v=>exact k _ L1 q σ1 S1 H1 I1 s1⟩
def rO:Expr->Bool
 | .ListComp ..=>true
 | .SetComp ..=>true
 | .DictComp ..=>true
 | _=>false
theorem qM {e:Expr}{t:Option Expr}{n:Nat}{env:Env}(h:rO e=false):swapsWith e t n env=pure false:=by
 cases e<;>first|rfl|(cases h;done)
theorem CG {e t:Expr}{n:Nat}{env:Env}(h:rO e=false):swapsWithSole [t] e n env=pure false:=by
 delta swapsWithSole;exact qM h
theorem NM (hc:rO a=false)(h:FE X C a e):FS X C fr (.Expr a pos) (Bw e):=PS.imp (Fg h (qM hc)) λD σ H q1=>by obtain⟨c,L,S,Q0,I,h,k⟩:=q1;exact
 ⟨c,L,S,_,I,h,λv L1 q x S1 H1 r I1 s1=>k .next L1 q σ S1 H1 I1 s1⟩
theorem Pb (h:FE X C a e):FS X C false (.Return (some a) pos) (nq e):=PS.imp (zb h) λD σ H q1=>by obtain⟨c,L,S,Q0,I,h,k⟩:=q1;exact
 ⟨c,L,S,_,I,h,λv L1 q x S1 H1 r I1 s1=>k (.ret v) L1 q σ S1 H1 I1 s1 x r⟩
theorem NL (h:FF X C a e):FS X C true (.Return (some a) pos) (nq e):=PS.imp (zb h) λD σ H q1=>by obtain⟨c,L,S,Q0,I,h,k⟩:=q1;exact
 ⟨c,L,S,_,I,h,λv L1 q l S1 H1 o fr I1 s1=>k (.ret v) L1 q σ S1 H1 I1 s1 _ ⟨l,rfl,o,fr.1⟩⟩
theorem Iv.mine (I:Iv K c md L σ S H){v:FV}{a:mS}(hi:i≠0)(m:nA md i≠.imm)(e:L[i]?=some (some v))(e1:σ[i]?=some (some (.ref a)))(ng:(nA md i).g=false:=by first|rfl|(simp only[*];rfl)):c.H0 a=none:=by
 obtain⟨b,e2,_,h⟩:=I.own i v m e
 rw[e1] at e2;cases e2
 rcases h with h|h|⟨j,h⟩
 ·obtain⟨g1,g2,w,g3⟩:=I.lent a h
  exact absurd (I.dis i 0 v w a m g1 e g3 e1 g2) hi
 ·exact h
 ·obtain⟨g1,g2,w,g3⟩:=I.lnt1 _ h
  have:=I.dis i j v w a m (λz=>by rw[z] at g1;cases g1) e g3 e1 g2
  subst this
  rw[ng] at g1;cases g1
theorem NK (G:Good X C n sp)(h:C.nm i nx=true)(m:(decide (nA C.md i=.own) && decide (i≠0))=true):FS X C true (.Return (some (.Name nx p)) pos) (nq (mT i)):=PS.imp (zb (pY G h)) λD σ H q1=>by
 obtain⟨c,L,S,Q0,I,h,k⟩:=q1
 have m:=b2 m
 have mi:nA C.md i≠.imm:=λz=>by rw[de m.1] at z;cases z
 obtain⟨v,e,q⟩:=oB h
 have e:=(pL _ _ _).mp e
 obtain⟨l,e1,o,_⟩:=I.own i v mi e
 exact⟨_,e1,k (.ret v) L q σ S H I (Same.refl S) _ ⟨l,rfl,o,I.mine (de m.2) mi e e1 (by rw[de m.1];rfl)⟩⟩
theorem fs_if {t:BW}{xa xb:List mP}(h:FB X C a t)(ha:Be X C fr xa s)(hb:Be X C fr xb r):FS X C fr (.If a xa xb pos) (qB t s r):=PS.imp (LP h ha hb) λD σ H q1=>by obtain⟨c,L,S,Q0,I,h,k⟩:=q1;exact
 ⟨c,L,S,_,I,h,λv L1 q S1 H1 I1 s1=>by
  cases v with
  | true=>rw[if_pos rfl] at q ⊢;exact⟨c,L1,S1,_,I1,q,λfl L2 q σ2 S2 H2 I2 s2=>k fl L2 q σ2 S2 H2 I2 (s1.trans s2)⟩
  | false=>rw[if_neg eB] at q ⊢;exact⟨c,L1,S1,_,I1,q,λfl L2 q σ2 S2 H2 I2 s2=>k fl L2 q σ2 S2 H2 I2 (s1.trans s2)⟩⟩
theorem xg {tg:Tg}{te:TE}(ht:qA C.md tg=true)(hte:∀ σ H Q,lv X.K C.md e σ H Q->te σ H Q)(h:PS X.nox st (wj te (gT X.K tg))):FS X C fr st (m7 e tg):=PS.imp h λD σ H ⟨c,L,S,Q0,I,h,k⟩=>hte _ _ _
 ⟨c,L,S,_,I,h,λv L1 q x S1 H1 r I1 s1=>by
  obtain⟨σ',L',g,q,I2,_⟩:=zx ht I1 r q
  exact g _ (k .next L' q σ' S1 H1 I2 s1)⟩
theorem G5 {te:TE}(m:nA C.md i=.imm)(hte:∀ σ H Q,lf X.K C.md e σ H Q->te σ H Q)(h:PS X.nox st (wj te (qE i))):FS X C fr st (m7 e (.nm i)):=PS.imp h λD σ H ⟨c,L,S,Q0,I,h,k⟩=>hte _ _ _
 ⟨c,L,S,_,I,h,λv L1 q l S1 H1 o f I1 s1=>by
  obtain⟨u,hu,I2,r⟩:=Ay I1 o f
  exact k .next _ q _ _ H1 (I2.setI m r) (s1.trans (nH o.1))⟩
theorem G4 {te:TE}(m:(decide (nA C.md i=.own) && decide (i≠0))=true)(hte:∀ σ H Q,lf X.K C.md e σ H Q->te σ H Q)(h:PS X.nox st (wj te (qE i))):FS X C fr st (m7 e (.nm i)):=PS.imp h λD σ H ⟨c,L,S,Q0,I,h,k⟩=>hte _ _ _
 ⟨c,L,S,_,I,h,λv L1 q l S1 H1 o f I1 s1=>by
  have m:=b2 m
  exact k .next _ q _ _ H1 (I1.set (λ_ _=>de m.2) (λz=>by rw[de m.1] at z;cases z) (.inr ⟨de m.1,l,rfl,o,f.1,f.2.1,λj w _ hm hj=>f.2.2 j w hm hj⟩)) s1⟩
theorem C8 (G:Good X C n sp){te:TE}(ht:C.tn i nx=true)(hs:swapsWith a (some (.Name nx px)) pos.line X.env=pure false)(h:PE X.nox a te):PS X.nox (.Assign [.Name nx px] a pos) (wj te (qE i)):=by
 have ht:=b2 ht
 obtain⟨l1,l2⟩:=G.loc ht.2
 exact Iw (X:=X.nox) G.nd' (G.ix ht.1) l1 h hs l2
theorem Pa (G:Good X C n sp)(ht:C.tn i nx=true)(m:nA C.md i=.imm)(hc:rO a=false)(h:FE X C a e):FS X C fr (.Assign [.Name nx px] a pos) (m7 e (.nm i)) :=
 xg (tg:=.nm i) (by simpa[qA] using m) (λ_ _ _ z=>z) (C8 G ht (qM hc) h)
theorem NJ (G:Good X C n sp)(ht:C.tn i nx=true)(m:(decide (nA C.md i=.own) && decide (i≠0))=true)(hc:rO a=false)(h:FF X C a e):FS X C fr (.Assign [.Name nx px] a pos) (m7 e (.nm i)) :=
 G4 m (λ_ _ _ z=>z) (C8 G ht (qM hc) h)
def swC (C:CC)(x:Str)(px:Pos)(scope:mG)(p:Pos):Bool:=decide (C.sc.lookup x=some .local) && (px.line == p.line) && !(scope.names.any λ(n,k)=>n == x && (k == .local || k == .cell))
theorem EY {Z3:Expr}{gs:List Comprehension}{scope:mG}{p px:Pos}{x:Str}{n:Nat}{env:Env}(hk:env.scope.kind=.function) :
  swapsWith (.ListComp Z3 gs scope p) (some (.Name x px)) n env=pure (decide (env.scope.names.lookup x=some .local) && (px.line == p.line) && !(scope.names.any λ(n,k)=>n == x && (k == .local || k == .cell))):=by
 have hb:env.blockKind=.function:=by unfold jU;rw[hk];rfl
 have:(env.kindOf x == some .local)=decide (env.scope.names.lookup x=some .local):=by
  rw[iJ];simp[Env.kindOf]
 unfold swapsWith
 simp only[hb,this]
 rfl
variable {scope:mG}{own:List Str}{Z3 ZY Z5:Expr}{Z4:List Expr}{it:AW}{tg:Tg}{t:BW}{nn m:Nat}{md':Md}
theorem Ej (G:Good X C n sp)(ht:C.tn i nx=true)(h:CompOk X C n sp scope own Z3 ZY Z5 Z4 nn m md' it tg t e):∃ te:TE,(∀ σ H Q,lf X.K C.md (nU nn m it tg t e) σ H Q->te σ H Q)/\PS X.nox (.Assign [.Name nx px] (.ListComp Z3 [⟨ZY,Z5,Z4,0⟩] scope p) pos) (wj te (qE i)):=by
 have hsw:swapsWith (.ListComp Z3 [⟨ZY,Z5,Z4,0⟩] scope p) (some (.Name nx px)) pos.line X.env=pure (swC C nx px scope p):=by rw[EY G.kind,G.sc];rfl
 obtain⟨s1,s2,s3⟩:=h.blk G
 cases hb:swC C nx px scope p with
 | false =>
  rw[hb] at hsw
  exact⟨_,λσ H Q q=>h.run G q,C8 G ht hsw (At G.calm s1 h.it s2 s3)⟩
 | true =>
  rw[hb] at hsw
  have hlo:X.env.scope.names.lookup nx=some .local:=by
   rw[G.sc]
   have hb:=b2 hb
   exact de (b2 hb.1).1
  exact⟨_,λσ H Q q=>h.run G q,za G.calm s1 G.nd' (G.ix (b2 ht).1) hlo h.it s2 hsw s3⟩
theorem sh (G:Good X C n sp)(ht:C.tn i nx=true)(hm:nA C.md i=.imm)(h:CompOk X C n sp scope own Z3 ZY Z5 Z4 nn m md' it tg t e):FS X C fr (.Assign [.Name nx px] (.ListComp Z3 [⟨ZY,Z5,Z4,0⟩] scope p) pos) (m7 (nU nn m it tg t e) (.nm i)) :=
 let ⟨te,h1,h2⟩:=Ej G ht h
 G5 hm h1 h2
def OE:Expr->Bool
 | .Tuple ..=>true
 | _=>false
def sS:Expr->Bool
 | .Starred ..=>true
 | _=>false
theorem O9 (G:Good X C n sp){ts:List Expr}(hm:qA C.md (.tp is)=true)(hn:OE a=false)(hg:KQ X ts is)(h:FE X C a e):FS X C fr (.Assign [.Tuple ts k p] a pos) (m7 e (.tp is)) :=
 xg (tg:=.tp is) hm (λ_ _ _ z=>z) (zc (X:=X.nox) h (D4 G hg) (by cases a<;>rfl) (by cases a<;>first|rfl|(cases hn;done)) rfl)
def zh (sc:List (Str×lX))(t:Expr):Bool:=match t with
 | .Name x _=>!(decide (sc.lookup x=some .local))
 | _=>true
def Ny (env:Env) (l:Nat):Expr->Option Str
 | .Name id pos=>if env.kindOf id == some .local && pos.line == l then some id else none
 | _=>none
def Lr (ts vs:List Expr)(env:Env):Bool:=!(ts.length == 2 || ts.length == 3) || vs.length != ts.length || env.blockKind != .function
def Lq (ts:List Expr)(ns:List Str):Bool:=ns.length != ts.length || ns.eraseDups.length != ns.length
def Ni (ts:List Expr)(env:Env):List Str:=ts.filterMap (Ny env ((ts.head?.map (·.pos.line)).getD 0))
theorem Hb (ts vs:List Expr) (k k2:Nat)(tp tp2:Pos)(env:Env):∃ z,swappedStores [.Tuple ts k tp] (.Tuple vs k2 tp2) env=if Lr ts vs env then pure none else if vs.any sS then pure none else if Lq ts (Ni ts env) then pure none else if vs.all (foldedForSure 8) then pure none else if vs.all (constantsAlone 8) then z else pure (some (Ni ts env)):=⟨_,rfl⟩
theorem Lp {ts vs:List Expr}{k k2:Nat}{tp tp2:Pos}{env:Env}(h:4<=ts.length ∨ ∃ t∈ts,zh env.scope.names t=true):swappedStores [.Tuple ts k tp] (.Tuple vs k2 tp2) env=pure none:=by
 obtain⟨z,e⟩:=Hb ts vs k k2 tp tp2 env
 have c:Lr ts vs env=true ∨ Lq ts (Ni ts env)=true:=by
  rcases h with h|⟨t,ht,hn⟩
  ·left
   have a:(ts.length == 2 || ts.length == 3)=false:=by
    rw[Bool.or_eq_false_iff,beq_eq_false_iff_ne,beq_eq_false_iff_ne];lia
   unfold Lr;rw[a];rfl
  ·right
   have lt:∀ (l:List Expr)(f:Expr->Option Str),t∈l->f t=none->(l.filterMap f).length<l.length:=by
    intro l f
    induction l with
    | nil=>intro h;cases h
    | cons a r ih =>
     intro hm hf
     have le:=List.length_filterMap_le f r
     rcases jN.mp hm with rfl|hm
     ·rw[c8,hf,gm];show (jg f r).length<_;lia
     ·have:=ih hm hf
      rw[c8,gm]
      cases f a with
      | none=>show (jg f r).length<_;lia
      | some b=>show (jg f r).length+1<_;lia
   have:=lt ts (Ny env ((ts.head?.map (·.pos.line)).getD 0)) ht (by
    cases t with
    | Name x p =>
     have hx:(env.kindOf x == some NameKind.local)=false:=by
      rw[beq_eq_false_iff_ne]
      intro q
      have:(!(decide (env.scope.names.lookup x=some .local)))=true:=hn
      rw[show env.scope.names.lookup x=some .local from q] at this
      exact absurd this (by decide)
     show (if env.kindOf x == some .local && _ then some x else none)=none
     rw[hx];rfl
    | _=>rfl)
   unfold Lq
   rw[iI,bne_iff_ne]
   exact .inl (kj this)
 rw[e]
 rcases c with c|c
 ·rw[if_pos c]
 ·rw[c];simp only[if_true,ite_self]
theorem NI (G:Good X C n sp){ts vs:List Expr}{k2:Nat}{p2:Pos}(hm:qA C.md (.tp is)=true)(hn:(decide (4<=ts.length) || ts.any λt=>zh C.sc t)=true)(hg:KQ X ts is)(h:FE X C (.Tuple vs k2 p2) e):FS X C fr (.Assign [.Tuple ts k p] (.Tuple vs k2 p2) pos) (m7 e (.tp is)) :=
 xg (tg:=.tp is) hm (λ_ _ _ z=>z) (zc (X:=X.nox) h (D4 G hg) rfl (Lp (by
  show 4<=ts.length ∨ ∃ t∈ts,zh X.env.scope.names t=true
  rw[G.sc]
  simpa using hn)) rfl)
theorem Lo {ts vs:List Expr}{k k2:Nat}{tp tp2:Pos}{env:Env}{ns:List Str}(h1:Lr ts vs env=false)(h2:vs.any sS=false)(h3:Ni ts env=ns)(h4:Lq ts ns=false)(h5:vs.all (foldedForSure 8)=false)(h6:vs.all (constantsAlone 8)=false):swappedStores [.Tuple ts k tp] (.Tuple vs k2 tp2) env=pure (some ns):=by
 obtain⟨z,e⟩:=Hb ts vs k k2 tp tp2 env
 rw[e,h1,h2,h3,h4,h5,h6];rfl
theorem DH {env:Env}{l:Nat}{x:Str}{p:Pos}(hx:env.scope.names.lookup x=some .local)(hl:(p.line == l)=true):Ny env l (.Name x p)=some x:=by
 show (if env.kindOf x == some .local && p.line == l then some x else none)=some x
 rw[hl,show env.kindOf x=some .local from hx];rfl
theorem F5 {env:Env}(hk:env.scope.kind=.function):env.blockKind=.function:=by unfold jU;rw[hk];rfl
theorem sw2 {x y:Str}{px py pt pt2:Pos}{kt k2:Nat}{a b:Expr}{env:Env}(hk:env.scope.kind=.function)(hx:env.scope.names.lookup x=some .local)(hy:env.scope.names.lookup y=some .local)(hxy:x≠y)(hl:(py.line == px.line)=true)
  (sa:sS a=false)(sb:sS b=false)(hf:(foldedForSure 8 a && foldedForSure 8 b)=false)(hc:(constantsAlone 8 a && constantsAlone 8 b)=false) :
  swappedStores [.Tuple [.Name x px,.Name y py] kt pt] (.Tuple [a,b] k2 pt2) env=pure (some [x,y]):=by
 refine Lo (by unfold Lr;rw[F5 hk];rfl) ?_ ?_ ?_ ?_ ?_
 ·show (sS a || (sS b || false))=false;rw[sa,sb];rfl
 ·show jg (Ny env px.line) [.Name x px,.Name y py]=_
  rw[c8,DH hx (beq_self_eq_true _),c8,DH hy hl];rfl
 ·unfold Lq;simp[List.eraseDups_cons,ma hxy]
 ·show (_ && (_ && true))=false;rw[jY];exact hf
 ·show (_ && (_ && true))=false;rw[jY];exact hc
def LY (C:CC) (i j:Nat)(x y:Str)(px py:Pos)(a b:Expr):Bool:=decide (C.N[i]?=some x) && decide (C.N[j]?=some y) && decide (i≠j) && decide (x≠y) && decide (C.sc.lookup x=some .local) && decide (C.sc.lookup y=some .local) && (py.line == px.line) && !sS a && !sS b && !(foldedForSure 8 a && foldedForSure 8 b) && !(constantsAlone 8 a && constantsAlone 8 b)
theorem Pc (G:Good X C n sp){kt k2:Nat}{pt p2:Pos}(hm:qA C.md (.tp [i,j])=true)(h:LY C i j nx ny px py a b=true)(ha:FE X C a ea)(hb:FE X C b eb):FS X C fr (.Assign [.Tuple [.Name nx px,.Name ny py] kt pt] (.Tuple [a,b] k2 p2) pos) (m7 (oC (mU ea (mU eb mW))) (.tp [i,j])):=by
 have g0:=b2 h;have g1:=b2 g0.1;have g2:=b2 g1.1;have g3:=b2 g2.1;have g4:=b2 g3.1;have g5:=b2 g4.1;have g6:=b2 g5.1;have g7:=b2 g6.1;have g8:=b2 g7.1;have g9:=b2 g8.1
 have lx:X.env.scope.names.lookup nx=some .local:=by rw[G.sc];exact de g6.2
 have ly:X.env.scope.names.lookup ny=some .local:=by rw[G.sc];exact de g5.2
 have sa:nv a=false:=by cases a<;>first|rfl|(exact nb g3.2)
 have sb:nv b=false:=by cases b<;>first|rfl|(exact nb g2.2)
 refine PS.imp (Ix (X:=X.nox) G.calm G.nd' (G.ix g9.1) (G.ix g9.2) (de g8.2) lx ly (nC ha (nC hb n6 (m3 sb)) (m3 sa)) (sw2 (env:=X.env) G.kind lx ly (de g7.2) g4.2 (nb g3.2) (nb g2.2) (nb g1.2) (nb g0.2))) λD σ H q1=>?_;obtain⟨c,L,S,Q0,I,h,k⟩:=q1
 have hm:=b2 (show (decide (nA C.md i=.imm) && (decide (nA C.md j=.imm) && true))=true from hm)
 refine⟨c,L,S,_,I,h,λv L1 q x S1 H1 r1 I1 s1=>⟨c,L1,S1,_,I1,q,λw L2 q y S2 H2 r2 I2 s2=>⟨x,y,rfl,?_⟩⟩⟩
 exact k .next _ q.2 _ S2 H2 ((I2.setI (de hm.1) (r1.mono s2)).setI (de (b2 hm.2).1) r2) (s1.trans s2)
theorem CO {xo xi : Expr} {p : Pos} {env : Env} (h : rz xi = false) : ∀ v, assign (.Subscript xo xi p) env v = (do
      let ov <- holding [v] (eval xo env)
      let iv <- holding [v,ov] (eval xi env)
      standAt p
      holding [v,ov,iv] (setItem ov iv v)
      release [v,ov,iv] []):=by
  intro v
  cases xi<;>first|rfl|(cases h;done)
theorem fs_ix (G:Good X C n sp)(hn:C.nm i nx=true)(m:nA C.md i=.own)(hc:(!rO a && !rz b)=true)(ha:FE X C a ea)(hb:FE X C b eb):FS X C fr (.Assign [.Subscript (.Name nx px) b p] a pos) (wv i eb ea):=by
 have hc:=b2 hc
 refine PS.imp (zc (X:=X.nox) ha (IC (pY (pos:=px) G hn) hb CP (CO (nb hc.2))) (CG (nb hc.1)) rfl rfl) λD σ H ⟨c,L,S,Q0,I,h,k⟩=>?_
 have mi:nA C.md i≠.imm:=λz=>by rw[m] at z;cases z
 obtain⟨v0,e,h⟩:=oB h
 obtain⟨l,e1,_⟩:=I.own i v0 mi ((pL _ _ _).mp e)
 refine⟨c,L,S,_,I,h,λv L1 q x S1 H1 r1 I1 s1=>⟨_,e1,c,L1,S1,_,I1,q,λw L2 q y S2 H2 r2 I2 s2=>?_⟩⟩
 obtain⟨v1,e2,q2⟩:=oB q
 obtain⟨z,e3,q3⟩:=oB q2
 have e2:=(pL _ _ _).mp e2
 obtain⟨l',f1,⟨o1,ps,us,e9,o2,o3⟩,_⟩:=I2.own i v1 mi e2
 rw[e1] at f1;cases f1
 obtain⟨xs,g1,e3⟩:=oz e3
 obtain⟨nn,g2,e3⟩:=oz e3
 obtain⟨pp,g3,rfl⟩:=rE e3
 cases p5 g1
 cases e9
 obtain rfl:w=.int nn:=by cases w<;>cases g2;rfl
 obtain rfl:y=.int nn:=r2
 refine⟨l,us,nn,pp,rfl,rfl,o2,by rw[<- o3.length];exact g3,?_⟩
 exact k .next _ q3 σ S2 _ (I2.write m e2 e1 (o3.set pp (r1.mono s2))) (s1.trans s2)
def yO (f:Int->Int->Int):FV->FV->Option FV
 | .int a,.int b=>some (.int (f a b))
 | _,_=>none
theorem G1 {f:Int->Int->Int}{v w z:FV}(h:yO f v w=some z):∃ a b,v=.int a/\w=.int b/\z=.int (f a b):=by
 obtain⟨a,rfl⟩:∃ a,v=.int a:=by cases v<;>first|exact⟨_,rfl⟩|cases h
 cases w<;>first|(cases h;exact⟨_,_,rfl,rfl,rfl⟩)|cases h
theorem KJ {f:Int->Int->Int}(m:nA C.md i=.imm)(h:PS X.nox st (tAug i (lv X.K C.md e) (ipI f))):FS X C fr st (yZ (yO f) i e):=PS.imp h λD σ H q1=>by
 obtain⟨c,L,S,Q0,I,h,k⟩:=q1
 obtain⟨v,e0,h⟩:=oB h
 obtain⟨x,e1,r⟩:=I.imm i v m ((pL _ _ _).mp e0)
 refine⟨x,e1,c,L,S,_,I,h,λw L1 q y S1 H1 r1 I1 s1=>?_⟩
 obtain⟨z,e2,q⟩:=oB q
 obtain⟨a,b,rfl,rfl,rfl⟩:=G1 e2
 exact⟨a,b,r,r1,k .next _ q _ S1 H1 (I1.setI (v:=.int _) m rfl) s1⟩
theorem Pe (G:Good X C n sp)(ht:C.tn i nx=true)(m:nA C.md i=.imm)(h:FE X C a e):FS X C fr (.AugAssign (.Name nx px) .Add a pos) (yZ (yO λi j=>i+j) i e):=by
 have ht:=b2 ht
 obtain⟨l1,l2⟩:=G.loc ht.2
 exact KJ m (Iz (X:=X.nox) G.nd' (G.ix ht.1) l1 h Ji l2)
theorem Gh {J:It}{xs:List FV}{D:Ends}{Q0:FFl->mV->Prop}(I:Iv K c md L σ S H)(hJ:EK K c md J xs S)(ht:qA md tg=true)(h:u6 tg s xs L Q0)
  (k:∀ fl L',Q0 fl L'->∀ σ' S' H',Iv K c md L' σ' S' H'->Same S S'->Nb K c fr D σ' S' H' fl) :
  ∃ W:Nat->Nat->L2.St->Hp->Prop,(∃ m,W 0 m σ H)/\∀ i m σ H,W i m σ H ->
   (J.stop i H/\D.nx σ H) ∨ (J.go i H/\∃ N:L2.St->Hp->Prop,(∀ σ' H',N σ' H'->∃ m',m'<m/\W (i+1) m' σ' H')/\∀ x H',J.yld i H x H'->gT K tg x σ H' λσ2 H2=>ls K md fr s { D with nx:=N,ct:=N,bk:=D.nx } σ2 H2):=by
 let W:Nat->Nat->L2.St->Hp->Prop:=λi j σ1 H1=>∃ L S1,j=(xs.drop i).length/\Iv K c md L σ1 S1 H1/\Same S S1/\u6 tg s (xs.drop i) L Q0
 refine⟨W,⟨_,L,S,rfl,I,Same.refl S,by rw[jh];exact h⟩,?_⟩
 rintro i m σ1 H1 ⟨L,S1,rfl,I,s1,h⟩
 obtain⟨j1,j2⟩:=hJ i L σ1 S1 H1 I s1
 cases hd:xs.drop i with
 | nil =>
  rw[hd] at h
  exact .inl ⟨j1 (aJ.mpr (cL.mp hd)),k .next L h σ1 S1 H1 I s1⟩
 | cons p rest =>
  right
  rw[hd] at h
  have hi:xs[i]?=some p:=by
   have:=congrArg (·[0]?) hd
   simpa using this
  have hd':xs.drop (i+1)=rest:=by
   have:=congrArg List.tail hd
   simpa[ja] using this
  obtain⟨go,yl⟩:=j2 p hi
  refine⟨go,λσ' H'=>∃ m',m'<rest.length+1/\W (i+1) m' σ' H',λσ' H' h=>h,λx H2 y=>?_⟩
  obtain⟨S2,s2,tr,rx⟩:=yl x H2 y
  have I2:=tr _ _ _ _ I
  obtain⟨σ2,L2,g,q,I3,_⟩:=zx ht I2 rx h
  refine g _ ⟨c,L2,S2,_,I3,q,λfl L3 q σ3 S3 H3 I4 s3=>?_⟩
  have ss:=s1.trans (s2.trans s3)
  cases fl with
  | next=>exact⟨_,f7 _,L3,S3,by rw[hd'],I4,ss,by rw[hd'];exact q⟩
  | cont=>exact⟨_,f7 _,L3,S3,by rw[hd'],I4,ss,by rw[hd'];exact q⟩
  | brk=>exact k .next L3 q σ3 S3 H3 I4 ss
  | ret v=>exact k (.ret v) L3 q σ3 S3 H3 I4 ss
theorem oS (G:Good X C n sp){body:List mP}(hc:(qA md' tg && !DS Z5)=true)(hi:FI X C md' ZY Z5 it)(hg:FG X ZY tg)(hb:Good X (C.wmd md') n sp->Be X (C.wmd md') fr body s):FS X C fr (.For ZY Z5 body [] pos) (ql it tg s):=by
 have hc:=b2 hc
 refine PS.imp (Iy (X:=X.nox) gV G.calm hi hg (hb (G.wmd md')) (zy (nb hc.2))) λD σ H q1=>?_;obtain⟨c,L,S,Q0,I,h,k⟩:=q1
 refine⟨c,L,S,_,I,h,λxs L1 q J c' S1 H1 I1 un e0 hJ s1=>?_⟩
 refine Gh I1 hJ hc.1 q λfl L2 q σ2 S2 H2 I2 s2=>?_
 have:=k fl L2 q σ2 S2 H2 (un _ _ _ _ I2) (s1.trans s2)
 cases fl with
 | next=>exact this
 | brk=>exact this
 | cont=>exact this
 | ret v =>
  intro x r
  refine this x ?_
  cases fr with
  | false=>exact r
  | true =>
   obtain⟨a,r1,r2,r3⟩:=r
   exact⟨a,r1,r2,by rw[<- e0];exact r3⟩
theorem O8 {body:List mP}(hc:FB X C a t)(hb:Be X C fr body s):FS X C fr (.While a body [] pos) (yY t s):=by
 refine PS.imp (C7 (X:=X.nox) gV hc hb) λD σ H q1=>?_;obtain⟨c,L,S,Q0,I,⟨m,h⟩,k⟩:=q1
 refine⟨λm σ1 H1=>∃ L S1,Iv X.K c C.md L σ1 S1 H1/\Same S S1/\Bm t s m L Q0,⟨m,L,S,I,Same.refl S,h⟩,?_⟩
 rintro m σ1 H1 ⟨L,S1,I1,s1,h⟩
 cases m with
 | zero=>exact h.elim
 | succ m =>
  refine⟨c,L,S1,_,I1,h,λv L1 q S2 H2 I2 s2=>?_⟩
  cases v with
  | false =>
   rw[if_neg eB] at q ⊢
   exact k .next L1 q σ1 S2 H2 I2 (s1.trans s2)
  | true =>
   rw[if_pos rfl] at q ⊢
   refine⟨λσ' H'=>∃ m',m'<m+1/\∃ L S1,Iv X.K c C.md L σ' S1 H'/\Same S S1/\Bm t s m' L Q0,λσ' H' h=>h,c,L1,S2,_,I2,q,λfl L3 q σ3 S3 H3 I4 s3=>?_⟩
   have ss:=s1.trans (s2.trans s3)
   cases fl with
   | next=>exact⟨m,f7 _,L3,S3,I4,ss,q⟩
   | cont=>exact⟨m,f7 _,L3,S3,I4,ss,q⟩
   | brk=>exact k .next L3 q σ3 S3 H3 I4 ss
   | ret v=>exact k (.ret v) L3 q σ3 S3 H3 I4 ss
end
structure Df where
 name:String
 st:mP
 ps:List Str
 N:List Str
 md:Md
structure Fns where
 f:List Str
 ms:List (Str×mS×Str)
 fl:List (mS×Str)
def Df.cc (d:Df)(fns:Fns):CC:=⟨d.N,(nJ d.st).names,fns.f,d.md,true,[],fns.ms,fns.fl⟩
def LZ (io:Bool)(md:Md) (np:Nat):Bool:=(lL np).all λi=>decide (nA md i=if (io && decide (i=0))=true then .own else .imm)
def Df.ok (d:Df) (np ns:Nat)(io:Bool):Bool :=
 decide ((nJ d.st).kind=.function) && !(nJ d.st).isCoroutine && !(nJ d.st).isGenerator && decide (d.N.Nodup) && decide (d.N.take d.ps.length=d.ps) && d.ps.all (λx=>decide ((nJ d.st).names.lookup x=some .local ∨ (nJ d.st).names.lookup x=some .cell)) &&
 (nJ d.st).names.all (λp=>decide (p.2≠.free)) && decide (np=d.ps.length) && decide (ns=d.N.length) && LZ io d.md np
def spT (K:ke)(tb:List FD)(call:CW) (f:Nat):Sp:=match tb[f]? with
 | some fd=>He K call fd.io fd.fr f
 | none=>λ_ _ _ _=>False
def HR (tb:List FD)(call:CW)(K:ke):Nat->Sp:=spT K tb call
theorem Df.sc {d:Df}{np ns:Nat}{io:Bool}(h:d.ok np ns io=true):FnScope d.N d.ps (nJ d.st)/\np=d.ps.length/\ns=d.N.length/\∀ i,i<np->nA d.md i=if (io && decide (i=0))=true then .own else .imm:=by
 have h0:=b2 h;have h1:=b2 h0.1;have h2:=b2 h1.1;have h3:=b2 h2.1;have h4:=b2 h3.1;have h5:=b2 h4.1;have h6:=b2 h5.1;have h7:=b2 h6.1;have h8:=b2 h7.1
 exact⟨⟨de h8.1,nb h8.2,nb h7.2,de h6.2,de h5.2,λx hx=>de (gw.mp h4.2 x hx),λy hy=>de (gw.mp h3.2 y hy)⟩,de h2.2,de h1.2,λi hi=>de (gw.mp h0.2 i (je.mpr hi))⟩
section
variable {P:l8}{w:mD}{K:ke}{mg:Str->Option mF}{base:mQ}{tb:List FD}{fns:Fns}
theorem ArgsOk.len {S H:Hp}{args:List FV}{vs:List V}{io:Bool}(h:ArgsOk K S H args vs io):args.length=vs.length:=by
 cases io with
 | false=>exact RVs.length h
 | true =>
  obtain⟨v,r,a,us,rfl,rfl,_,h⟩:=h
  rw[gm,gm,h.length]
theorem DO {S H:Hp}{args:List FV}{vs:List V}{io:Bool}{md:Md}{N:List Str}{np ns:Nat}(h:ArgsOk K S H args vs io)(hs:Same S H)(hn:args.length=np)(hN:ns=N.length)(hm:∀ i,i<np->nA md i=if (io && decide (i=0))=true then .own else .imm) :
  Iv K ⟨H,S,wK vs io,[],[],[]⟩ md (args.map some++jc (ns-np) none) (L2.start N vs) S H:=by
 have hl:=h.len
 have look:∀ i v,(args.map some++jc (ns-np) none)[i]?=some (some v)->args[i]?=some v/\i<np:=λi v e=>by
  by_cases hi:i<args.length
  ·rw[aK (by rw[iq];exact hi),fx] at e
   cases ea:args[i]? with
   | none=>rw[ea] at e;cases e
   | some q=>rw[ea] at e;cases e;exact⟨rfl,by lia⟩
  ·rw[az (by rw[iq];lia),bp] at e
   split at e<;>cases e
 have st:∀ i,i<np->(L2.start N vs)[i]?=vs[i]?.map some:=λi hi=>by
  unfold L2.start
  rw[aK (by rw[iq];lia),fx]
 have own:∀ i v,nA md i≠.imm->(args.map some++jc (ns-np) none)[i]?=some (some v)->i=0/\io=true/\nA md 0=.own:=λi v hm' e=>by
  obtain⟨_,hi⟩:=look i v e
  have:=hm i hi
  cases io with
  | false=>exact absurd (by simpa using this) hm'
  | true =>
   by_cases h0:i=0
   ·subst h0;exact⟨rfl,rfl,by simpa using this⟩
   ·exact absurd (by simpa[h0] using this) hm'
 have lent:∀ a,wK vs io=some a->io=true/\0<np/\nA md 0=.own/\vs[0]?=some (.ref a)/\∃ v,args[0]?=some v/\OwnAt K S H a v:=λa e=>by
  cases io with
  | false=>cases e
  | true =>
   obtain⟨v,r,a',us,rfl,rfl,o,_⟩:=h
   cases e
   have hp:0<np:=by rw[<- hn];exact Nat.succ_pos _
   exact⟨rfl,hp,by simpa using hm 0 hp,rfl,v,rfl,o⟩
 refine⟨?_,λi v hm' e=>?_,λi v hm' e=>?_,λi j v w a m1 m2 e1 e2 _ _=>?_,hs,λa o e _ _=>e,Same.refl S,λa o e=>.inl e,λa e=>?_,λp hp=>absurd hp gc,λi v hf e=>?_,λp hp=>absurd hp gc,λp hp=>absurd hp gc,λp hp=>absurd hp gc,λq hq=>absurd hq gc,λj i x C dx fs v h1 h2 h3 h4=>?_⟩
 ·unfold L2.start
  rw[dS,dS,iq,iq,cf,cf,hN]
  lia
 ·obtain⟨ea,hi⟩:=look i v e
  rw[st i hi]
  cases io with
  | false =>
   obtain⟨x,e1,r⟩:=RVs.get (show RVs K S args vs from h) ea
   exact⟨x,by rw[e1];rfl,r⟩
  | true =>
   obtain⟨v0,r,a',us,rfl,rfl,o,hr⟩:=h
   cases i with
   | zero=>rw[show nA md 0=.own by simpa using hm 0 hi] at hm';cases hm'
   | succ i =>
    obtain⟨x,e1,r1⟩:=RVs.get hr (by simpa using ea)
    exact⟨x,by simp[e1],r1⟩
 ·obtain⟨rfl,rfl,m0⟩:=own i v hm' e
  obtain⟨ea,hi⟩:=look 0 v e
  obtain⟨v0,r,a',us,rfl,rfl,o,hr⟩:=h
  cases ea
  exact⟨a',by rw[st 0 hi];rfl,o,.inl rfl⟩
 ·rw[(own i v m1 e1).1,(own j w m2 e2).1]
 ·obtain⟨rfl,hp,m0,e1,v,ea,_⟩:=lent a e
  refine⟨λz=>(nomatch (m0.symm.trans z)),by rw[st 0 hp,e1];rfl,v,?_⟩
  rw[aK (by rw[iq];lia),fx,ea];rfl
 ·have:=own i v (λz=>by rw[z] at hf;cases hf) e
  rw[this.1,this.2.2] at hf;cases hf
 ·have:=own j v (λz=>by rw[z] at h1;cases h1) h4
  rw[this.1,this.2.2] at h1;cases h1
theorem wU {d f:Nat}{fa:mS}{fdd:l0}{df:Df}{fd:FD}{nm qu:Str}(F:Fun K nm qu df.st fa fdd)(hf:tb[f]?=some fd)(hok:df.ok fd.np fd.ns fd.io=true)
  (hb:∀ X call n,Good X (df.cc fns) n (HR tb call)->Be X (df.cc fns) fd.fr (oN df.st) (fd.body call))
  (fnsOk:∀ (f:Nat)(x:Str),fns.f[f]?=some x->∃ fa fd ps,mg x=some (.ref fa)/\i6 K (.ref fa)=true/\Binds K fd ps []/\FnOk P w K mg base EF d fa fd ps (spT K tb (callW tb d) f))
  (blt:∀ b∈bltNames,mg (j9 b)=none)(mtsOk:∀ (k:Nat)(c:Str)(Ca:mS)(m:Str),fns.ms[k]?=some (c,Ca,m)->MtOk P w K mg base d (spT K tb (callW tb d) (fns.f.length+k)) c Ca m)(fl:∀ p∈fns.fl,Cls K p.1/\xk K p.1 p.2):FnOk P w K mg base EF (d+1) fa fdd df.ps (spT K tb (callW tb (d+1)) f):=by
 obtain⟨S,hnp,hns,hmd⟩:=Df.sc hok
 have e0:spT K tb (callW tb (d+1)) f=He K (callW tb (d+1)) fd.io fd.fr f:=by unfold spT;rw[hf]
 have run:∀ {args:List FV}{Q:FV×FV->Prop},callW tb (d+1) f args Q->args.length=fd.np/\fd.body (callW tb d) (args.map some++jc (fd.ns-fd.np) none) (sO fd.io fd.fr Q):=λ{args Q} h=>by
  have h:(match tb[f]? with
   | none=>False
   | some fd=>args.length=fd.np/\fd.body (callW tb d) (args.map some++jc (fd.ns-fd.np) none) (sO fd.io fd.fr Q)):=h
  rw[hf] at h;exact h
 rw[e0]
 refine F.ok S (λvs H Q E h=>?_) (λcdv A outer s H vs Q E hr h=>?_)
 ·obtain⟨S0,args,Q0,_,ao,hc,_⟩:=h
  rw[<- ao.len,(run hc).1,hnp]
 ·obtain⟨S0,args,Q0,hs,ao,hc,k⟩:=h
  obtain⟨hl,hc⟩:=run hc
  have G:Good (zI EF P w K mg base df.N qu (nJ df.st) fa cdv A outer s H E) (df.cc fns) d (HR tb (callW tb d)) :=
   ⟨rfl,rfl,S.kind,S.nd,rfl,λ_ _=>rfl,hr,fnsOk,blt,mtsOk,fl⟩
  refine⟨_,hb _ _ _ G,_,_,S0,_,DO ao hs hl hns hmd,hc,λfl L' q σ' S' H' I s'=>?_⟩
  have kp:∀ w,(fd.io=true->lk L' 0=some w)->Kept K S0 H S' H' (wK vs fd.io) w:=λw hw=>⟨s',I.sub,I.grow,λa o e n=>I.frame a o e n (λ_=>gc),λa e=>by
   have hio:fd.io=true:=by
    cases z:fd.io with
    | true=>rfl
    | false=>rw[z] at e;cases e
   obtain⟨m0,e1,v,e2⟩:=I.lent a e
   obtain⟨b,e3,o,_⟩:=I.own 0 v m0 e2
   rw[e1] at e3;cases e3
   have:=(pL _ _ _).mp (hw hio)
   rw[e2] at this;cases this
   exact o⟩
  have fin:∀ v x,sO fd.io fd.fr Q0 (.ret v) L'->EC K S' H' H v x fd.fr->Q x H':=λv x q r=>by
   cases hio:fd.io with
   | true =>
    rw[hio] at q
    obtain⟨w,e1,q⟩:=oB q
    exact k _ q x S' H' (kp w λ_=>e1) r
   | false =>
    rw[hio] at q
    exact k (v,.non) q x S' H' (kp .non λz=>by rw[hio] at z;cases z) r
  cases fl with
  | next =>
   cases hfr:fd.fr with
   | true=>rw[hfr] at q;exact q.elim
   | false=>rw[hfr] at q;exact fin .non .non (by rw[hfr];exact q) (by rw[hfr];exact rfl)
  | ret v =>
   intro x r
   refine fin v x q ?_
   cases hfr:fd.fr with
   | true=>rw[hfr] at r;exact r
   | false=>rw[hfr] at r;exact r
  | brk=>exact q.elim
  | cont=>exact q.elim
theorem Ba (blt:∀ b∈bltNames,mg (j9 b)=none)(fl:∀ p∈fns.fl,Cls K p.1/\xk K p.1 p.2)
  (D:∀ (f:Nat)(x:Str),fns.f[f]?=some x->∃ df fd fa fdd,tb[f]?=some fd/\Df.ok df fd.np fd.ns fd.io=true/\(∀ X call n,Good X (df.cc fns) n (HR tb call)->Be X (df.cc fns) fd.fr (oN df.st) (fd.body call))/\Fun K (j9 df.name) (j9 df.name) df.st fa fdd/\mg x=some (.ref fa)/\Binds K fdd df.ps [])
  (DM:∀ (k:Nat)(c:Str)(Ca:mS)(m:Str),fns.ms[k]?=some (c,Ca,m)->∃ df fd fa fdd nm qu,tb[fns.f.length+k]?=some fd/\Df.ok df fd.np fd.ns fd.io=true/\(∀ X call n,Good X (df.cc fns) n (HR tb call)->Be X (df.cc fns) fd.fr (oN df.st) (fd.body call))/\Fun K nm qu df.st fa fdd/\mg c=some (.ref Ca)/\Cls K Ca/\(m=("__init__":Str)->Mk K Ca fa)/\(m≠("__init__":Str)->Meth K Ca m fa)/\Binds K fdd df.ps []) :
  ∀ d:Nat,(∀ (f:Nat)(x:Str),fns.f[f]?=some x->∃ fa fd ps,mg x=some (.ref fa)/\i6 K (.ref fa)=true/\Binds K fd ps []/\FnOk P w K mg base EF d fa fd ps (spT K tb (callW tb d) f))/\∀ (k:Nat)(c:Str)(Ca:mS)(m:Str),fns.ms[k]?=some (c,Ca,m)->MtOk P w K mg base d (spT K tb (callW tb d) (fns.f.length+k)) c Ca m
 | 0=>by
  have no:∀ {f fd} vs H Q E,tb[f]?=some fd->¬ spT K tb (callW tb 0) f vs H Q E:=λvs H Q E h1 z=>by
   unfold spT at z
   rw[h1] at z
   obtain⟨_,_,_,_,_,k,_⟩:=z
   exact k
  refine⟨λf x h=>?_,λk c Ca m h=>?_⟩
  ·obtain⟨df,fd,fa,fdd,h1,h2,h6,h3,h4,h5⟩:=D f x h
   exact⟨fa,fdd,df.ps,h4,h3.kp,h5,λvs H Q E z=>absurd z (no vs H Q E h1),λA outer s H args us vs Q E _ _ _ _ z=>absurd z (no vs H Q E h1)⟩
  ·obtain⟨df,fd,fa,fdd,nm,qu,h1,h2,h6,h3,h4,h5,h7,h8,h9⟩:=DM k c Ca m h
   exact⟨fa,fdd,df.ps,h4,h5,h7,h8,h9,λvs H Q E z=>absurd z (no vs H Q E h1),λA outer s H args us vs Q E _ _ _ _ z=>absurd z (no vs H Q E h1)⟩
 | d+1=>by
  obtain⟨r1,r2⟩:=Ba blt fl D DM d
  refine⟨λf x h=>?_,λk c Ca m h=>?_⟩
  ·obtain⟨df,fd,fa,fdd,h1,h2,h6,h3,h4,h5⟩:=D f x h
   exact⟨fa,fdd,df.ps,h4,h3.kp,h5,wU h3 h1 h2 h6 r1 blt r2 fl⟩
  ·obtain⟨df,fd,fa,fdd,nm,qu,h1,h2,h6,h3,h4,h5,h7,h8,h9⟩:=DM k c Ca m h
   exact⟨fa,fdd,df.ps,h4,h5,h7,h8,h9,wU h3 h1 h2 h6 r1 blt r2 fl⟩
theorem law_sp {d f:Nat}{H:Hp}{a:mS}{ns:List Int}{fd:FD}(hf:tb[f]?=some fd)(hio:fd.io=false)(hfr:fd.fr=false)(hO:G9 H)(hS:SqL K H a (ns.map V.int))(h:callW tb d f [.scr ns] λz=>z.1=.bl true) :
  spT K tb (callW tb d) f [.ref a] H (λv _=>v=.bl true) λ_ _ _=>False:=by
 have e0:spT K tb (callW tb d) f=He K (callW tb d) false false f:=by unfold spT;rw[hf];show He K (callW tb d) fd.io fd.fr f=_;rw[hio,hfr]
 rw[e0]
 refine⟨H,[.scr ns],_,Same.refl H,RVs.one ⟨a,rfl,?_⟩,h,λz e x S' H' _ r=>?_⟩
 ·rcases hS with (h|⟨o,h⟩)|h
  ·rcases hO a with z|⟨o,xs,z⟩
   ·rw[z] at h;cases h
   ·rw[z] at h;cases h
  ·exact .inl ⟨o,h⟩
  ·exact .inr (.inr h)
 ·have r:RV K S' z.1 x:=r
  rw[e] at r;exact r
end
def EachI {α:Type}(P:Nat->α->Prop):Nat->List α->Prop
 | _,[]=>True
 | i,x :: xs=>P i x/\EachI P (i+1) xs
theorem EachI.get {α:Type}{P:Nat->α->Prop}:∀ {xs:List α}{k:Nat},EachI P k xs->∀ (f:Nat)(x:α),xs[f]?=some x->P (k+f) x
 | _ :: _,_,h,0,x,e=>(gX e) ▸ h.1
 | _ :: xs,k,h,f+1,x,e=>by
  have:=EachI.get h.2 f x e
  rw[Nat.add_assoc,kA 1 f] at this
  exact this
theorem KS {P:List mF->Prop}{us:List mF}{n:Nat}(h:us.length=n+1)(H:∀ a r,r.length=n->P (a :: r)):P us:=by
 cases us with
 | nil=>cases h
 | cons a r=>exact H a r (Nat.succ.inj h)
theorem EG {P:List mF->Prop}{us:List mF}(h:us.length=1)(H:∀ a,P [a]):P us:=KS h λa r hr=>by rw[List.length_eq_zero_iff.mp hr];exact H a
theorem rM {P:List mF->Prop}{us:List mF}(h:us.length=2)(H:∀ a b,P [a,b]):P us:=KS h λa r hr=>EG (P:=λr=>P (a :: r)) hr λb=>H a b
theorem Ck {P:List mF->Prop}{us:List mF}(h:us.length=3)(H:∀ a b c,P [a,b,c]):P us:=KS h λa r hr=>rM (P:=λr=>P (a :: r)) hr λb c=>H a b c
theorem KU {P:List mF->Prop}{us:List mF}(h:us.length=4)(H:∀ a b c d,P [a,b,c,d]):P us:=KS h λa r hr=>Ck (P:=λr=>P (a :: r)) hr λb c d=>H a b c d
theorem us5 {P:List mF->Prop}{us:List mF}(h:us.length=5)(H:∀ a b c d e,P [a,b,c,d,e]):P us:=KS h λa r hr=>KU (P:=λr=>P (a :: r)) hr λb c d e=>H a b c d e
theorem us6 {P:List mF->Prop}{us:List mF}(h:us.length=6)(H:∀ a b c d e f,P [a,b,c,d,e,f]):P us:=KS h λa r hr=>us5 (P:=λr=>P (a :: r)) hr λb c d e f=>H a b c d e f
end Kq
namespace Kq
open PySem PySem.Spec PySem.Calls PyProof.Rows L2 PySem.W
theorem t8:∀ {K:mR}{a:mS}{o:Obj},K.lookup a=some o->(a,o)∈K
 | [],a,o,h=>by simp at h
 | (b,u) :: K,a,o,h=>by
  rw[gh] at h
  split at h
  ·rename_i e;cases h;rw[beq_iff_eq.mp e];exact dQ
  ·exact cI _ (t8 h)
theorem BS {K:mR}{a:mS}{o:Obj}(h:(a,o)∈K):∃ u,K.lookup a=some u:=by
 induction K with
 | nil=>exact absurd h gc
 | cons p K ih =>
  obtain⟨b,u⟩:=p
  rw[gh]
  split
  ·exact⟨_,rfl⟩
  ·rename_i e
   rcases jN.mp h with z|z
   ·rw[(Prod.mk.inj z).1,beq_self_eq_true] at e;cases e
   ·exact ih z
def AllIn (K:mR)(h:mQ):Prop:=∀ p∈K,h.get? p.1=some p.2
theorem AllIn.to {K:mR}{h:mQ}(x:AllIn K h):K.In h:=λa o e=>x _ (t8 e)
theorem AllIn.look {K:mR}{h:mQ}(x:AllIn K h){a:mS}{o:Obj}(m:(a,o)∈K):K.lookup a=some o:=by
 obtain⟨u,e⟩:=BS m
 have h1:=x _ (t8 e)
 rw[show h.get? a=some o from x _ m] at h1
 cases h1;exact e
def CIn (K:mR)(cd:mF)(q:Str):Prop:=∃ c oc vs t,cd=.ref c/\(c,oc)∈K/\oc.data=.fields vs/\vs[1]?=some (.str q t)
def DIn (K:mR)(mg:Str->Option mF)(d:mB):Prop:=∃ fa o pm cd doc,mg d.name=some (.ref fa)/\(fa,o)∈K/\o.data=.func (docDef d.name d.params d.body d.scope pm cd doc)/\CIn K cd d.name
theorem DIn.more {K K':mR}{mg:Str->Option mF}{d:mB}(s:∀ p∈K,p∈K')(x:DIn K mg d):DIn K' mg d:=by
 obtain⟨fa,o,pm,cd,doc,h1,h2,h3,c,oc,vs,t,h4,h5,h6⟩:=x
 exact⟨fa,o,pm,cd,doc,h1,s _ h2,h3,c,oc,vs,t,h4,s _ h5,h6⟩
theorem AZ {q:l8}{loose:List Str}{mean:ExcName->Option mF}{mg mb:Str->Option mF}{h:mQ}(T:Top q loose mean mg mb h):∀ ds:List mB,(∀ d∈ds,d∈recsOf q)->∃ K:mR,AllIn K h/\∀ d∈ds,DIn K mg d
 | [],_=>⟨[],λ_ m=>absurd m gc,λ_ m=>absurd m gc⟩
 | d :: ds,hm=>by
  obtain⟨K,h1,h2⟩:=AZ T ds λe m=>hm e (cI _ m)
  obtain⟨a,o,pm,cd,doc,g1,g2,g3,c,oc,vs,t,g4,g5,g6⟩:=T.fn d (hm d dQ)
  refine⟨(a,o) :: (c,oc) :: K,λp m=>?_,λe m=>?_⟩
  ·rcases jN.mp m with z|z
   ·cases z;exact g2
   ·rcases jN.mp z with z|z
    ·cases z;exact g5
    ·exact h1 p z
  ·rcases jN.mp m with z|z
   ·cases z
    exact⟨a,o,pm,cd,doc,g1,dQ,g3,c,oc,vs,t,g4,cI _ dQ,g6⟩
   ·exact (h2 e z).more λp m=>cI _ (cI _ m)
theorem DIn.fn {K:mR}{h:mQ}(A:AllIn K h){mg:Str->Option mF}{x:Str}{st:mP}{pos:Pos}(D:DIn K mg ⟨x,rC st,oN st,nJ st,pos⟩):∃ fa fd,mg x=some (.ref fa)/\Fun K x x st fa fd:=by
 obtain⟨fa,o,pm,cd,doc,h1,h2,h3,c,oc,vs,t,rfl,h5,h6,h7⟩:=D
 have l:=A.look h2
 have lc:=A.look h5
 obtain⟨k1,k2,k3,k4⟩:=o
 obtain⟨j1,j2,j3,j4⟩:=oc
 cases h3;cases h6
 refine⟨fa,_,h1,Jk (kV:=.none) (doc:=doc) (pm:=pm) (an:=none) (cdv:=.ref c) (ct:=.none) l ?_ ?_⟩
 ·show (match K.lookup c with|some ⟨_,_,.fields vs,_⟩=>_|_=>_)=true
  rw[lc]
  obtain⟨l⟩:=vs
  match l,h7 with
  | [],h7=>simp at h7
  | [a],h7=>simp at h7
  | a :: b :: r,h7 =>
   simp at h7;subst h7
   exact beq_self_eq_true _
 ·show (match K.lookup fa with|some ⟨_,_,.func _,_⟩=>true|some ⟨_,_,.cls _,_⟩=>_|_=>false)=true
  rw[l]
theorem Gf {q:l8}{loose:List Str}{mean:ExcName->Option mF}{mg mb:Str->Option mF}{h:mQ}(T:Top q loose mean mg mb h){x:Str}(e:freeIn q loose x=true):mg x=none:=by
 unfold freeIn at e
 simp only[gF,Bool.not_eq_true',List.contains_eq_mem,decide_eq_false_iff_not] at e
 exact T.free x e.1.1.1.1 e.1.1.1.2 e.1.1.2 e.1.2 e.2
theorem walk2 {l:l9}{n k:Nat}{q:l8}{XP:(Str->Option mF)->mQ->Prop}{YP:mD->mQ->Prop}{d:mB}{ds:List mB}{x:Str}{sp:mR->Sp}
  (hn:l.most=some n)(hn2:n<=sizeLine)(hdf:d.params.defaults=[])(hr:Room k callerA)(hds:ds=recsOf q)(hfree:(bltNames.all λb=>freeIn q (looseW q []) (j9 b))=true)
  (F:∀ (w:mD)(K:mR)(mg:Str->Option mF)(fa:mS)(h:mQ),AllIn K h->(∀ d∈ds,DIn K mg d)->(∀ b∈bltNames,mg (j9 b)=none)->mg d.name=some (.ref fa) ->
   ∃ fd:l0,(∀ (s:mn)(u:mF),ml s fd ⟨[u],[]⟩ [(x,u)])/\∀ base:mQ,FnOk l.prog w K mg base EF k fa fd [x] (sp K))
  (hsp:∀ (K:mR)(H:Hp)(a:mS)(ns:List Int),ns.length<=n->G9 H->SqL K H a (ns.map V.int)->sp K [.ref a] H (λv _=>v=.bl true) λ_ _ _=>False) :
  WalkO q [] XP YP l.row.toRowW d [] (λf vs=>lF f vs):=by
 refine Att.attach_call hn hdf λw s₀ s₁ mg mb fa o pm cd doc a vs ns G Y ho hd hcd hmg hobj hints hlen hg=>?_
 obtain⟨K,hK,hD⟩:=AZ G.T ds λd m=>hds ▸ m
 obtain⟨fd,hb,hF⟩:=F w K mg fa _ hK hD (λb hb=>Gf G.T (gw.mp hfree b hb)) hmg
 exact DL hK.to G.T.g G.T.b G.T.builtins G.T.nolimit hg hobj hints (kq hlen hn2) hr (λbase _ _=>hF base) hb (λH hO hS=>hsp K H a ns hlen hO hS) λH e s' z=>z
theorem row_holds {l:l9}{q:l8}{d:mB}{N:Nat}(said:l.wellSaid=true)(left:LeftO l.prog q [] (λs=>xlAt q [] s && recOk (RowW.records l.row.toRowW) s) (λ_=>()) (λ_=>()) N)
  (hdef:defOf q l.name=some (d,[]))(hp:l.prog.theDef l.name=some (d.params,d.body,d.scope))(hk:kwWritten? d.params.kwonlyargs d.params.kw_defaults=some [])(hwr:(!l.writes || l.row.records.isEmpty)=true)
  (ok:(chainsOk q && opensWell l.prog && (frees l.row.toRowW && l.row.within.isEmpty))=true)(hb:l.prog.bare)(hw:l.row.toRowW.promised)
  (call:WalkO q [] (XL q []) (λ_ _=>True) l.row.toRowW d [] λf vs=>lF f vs):l.Holds :=
 holds_law said λk1=>holds_open (r:=l.row) left (λ_ _ _=>trivial) (λ_ _ _ _ _=>trivial) (λs e=>xl_of s (cP.mp e).1) XL.keeps hdef hp hk (λs e=>recFacts_of (cP.mp e).2) hwr k1 ok hb hw call
end Kq
set_option maxHeartbeats 1000000
namespace Kq
@[scoped simp ↓] theorem oo {α:Type}(x:α)(Q:α->Prop):wp (some x) Q=Q x:=propext mf
@[scoped simp ↓] theorem Ng {α:Type}(Q:α->Prop):wp (none:Option α) Q=False:=propext mf
theorem o9 {α β:Type}(r:Option α)(f:α->Option β)(Q:β->Prop):wp (r.bind f) Q↔wp r (λx=>wp (f x) Q):=by cases r<;>rfl
@[scoped simp ↓] theorem oQ {α β:Type}(r:Option α)(f:α->β)(Q:β->Prop):wp (r.map f) Q↔wp r (λx=>Q (f x)):=by cases r<;>rfl
@[scoped simp ↓] theorem pS {α:Type}(c:Prop) [Decidable c] (a:α)(Q:α->Prop):wp (if c then some a else none) Q↔c/\Q a:=by
 by_cases h:c<;>simp[h]
@[scoped simp ↓] theorem Ol (i:Nat)(L:mV)(Q:FV->mV->Prop):mT i L Q=(wp (lk L i) λx=>Q x L):=propext mf
@[scoped simp ↓] theorem eC_eq (v:FV)(L:mV)(Q:FV->mV->Prop):eC v L Q=(Q v L):=propext mf
@[scoped simp ↓] theorem Qg (f:FV->Option FV)(a:EW)(L:mV)(Q:FV->mV->Prop):nE f a L Q=(a L λx L1=>wp (f x) λz=>Q z L1):=propext mf
@[scoped simp ↓] theorem Qj (f:FV->FV->Option FV)(a b:EW)(L:mV)(Q:FV->mV->Prop):mX f a b L Q=(a L λx L1=>b L1 λy L2=>wp (f x y) λz=>Q z L2):=propext mf
@[scoped simp ↓] theorem Oq (f:FV->FV->Option FV) (i:Nat)(b:EW)(L:mV)(Q:FV->mV->Prop):rR f i b L Q=(wp (lk L i) λ_=>b L λy L1=>wp (lk L1 i) λx=>wp (f x y) λz=>Q z L1):=propext mf
@[scoped simp ↓] theorem K4 (f g:FV->FV->Option FV)(a b c:EW)(L:mV)(Q:FV->mV->Prop):uA f g a b c L Q=(a L λx L1=>b L1 λy L2=>wp (f x y) λr=>wp (MV r) λr=>if r=true then c L2 λz L3=>wp (g y z) λq=>Q q L3 else Q (.bl false) L2):=propext mf
@[scoped simp ↓] theorem Ot (a b:EW)(L:mV)(Q:FV->mV->Prop):pX a b L Q=(a L λx L1=>wp (sv x) λr=>if r=true then b L1 Q else Q x L1):=propext mf
@[scoped simp ↓] theorem Qi (a b:EW)(L:mV)(Q:FV->mV->Prop):Op a b L Q=(a L λx L1=>wp (sv x) λr=>if r=true then Q x L1 else b L1 Q):=propext mf
@[scoped simp ↓] theorem Qm (c:BW)(a b:EW)(L:mV)(Q:FV->mV->Prop):AT c a b L Q=(c L λr L1=>if r=true then a L1 Q else b L1 Q):=propext mf
@[scoped simp ↓] theorem Ov (a:EW)(L:mV)(Q:Bool->mV->Prop):nk a L Q=(a L λx L1=>wp (sv x) λb=>Q b L1):=propext mf
@[scoped simp ↓] theorem Ox (a b:BW)(L:mV)(Q:Bool->mV->Prop):zR a b L Q=(a L λr L1=>if r=true then b L1 Q else Q false L1):=propext mf
@[scoped simp ↓] theorem Sd (a b:BW)(L:mV)(Q:Bool->mV->Prop):tI a b L Q=(a L λr L1=>if r=true then Q true L1 else b L1 Q):=propext mf
@[scoped simp ↓] theorem Ow (a:BW)(L:mV)(Q:Bool->mV->Prop):pP a L Q=(a L λr L1=>Q (!r) L1):=propext mf
@[scoped simp ↓] theorem MZ (L:mV)(Q:Bool->mV->Prop):nP  L Q=(Q true L):=propext mf
@[scoped simp ↓] theorem Oz (L:mV)(Q:List FV->mV->Prop):mW  L Q=(Q [] L):=propext mf
@[scoped simp ↓] theorem M3 (a:EW)(r:AW)(L:mV)(Q:List FV->mV->Prop):mU a r L Q=(a L λx L1=>r L1 λxs L2=>Q (x :: xs) L2):=propext mf
@[scoped simp ↓] theorem Om (a:AW)(L:mV)(Q:FV->mV->Prop):oC a L Q=(a L λxs L1=>xs.length<=big/\Q (.tup xs) L1):=propext mf
@[scoped simp ↓] theorem Os (a:AW)(L:mV)(Q:FV->mV->Prop):oy a L Q=(a L λxs L1=>xs.length<=big/\Q (.lst xs) L1):=propext mf
@[scoped simp ↓] theorem Mg (L:mV)(Q:Option Int->mV->Prop):nW  L Q=(Q none L):=propext mf
@[scoped simp ↓] theorem Mf (a:EW)(L:mV)(Q:Option Int->mV->Prop):nF a L Q=(a L λx L1=>wp (pM x) λi=>Q (some i) L1):=propext mf
@[scoped simp ↓] theorem Qh (a:EW)(l h:OW)(L:mV)(Q:FV->mV->Prop):rB a l h L Q=(a L λx L1=>l L1 λi L2=>h L2 λj L3=>wp (sB x i j) λz=>Q z L3):=propext mf
@[scoped simp ↓] theorem MJ (call:CW) (f:Nat)(a:AW)(L:mV)(Q:FV->mV->Prop):m4 call f a L Q=(a L λxs L1=>call f xs λz=>Q z.1 L1):=propext mf
@[scoped simp ↓] theorem K5 (call:CW) (f i:Nat)(a:AW)(L:mV)(Q:FV->mV->Prop):m5 call f i a L Q=(wp (lk L i) λ_=>a L λxs L1=>wp (lk L1 i) λx=>call f (x :: xs) λz=>Q z.1 (L1.set i (some z.2))):=propext mf
@[scoped simp ↓] theorem MH (f:FV->FV->Option FV) (i:Nat)(a:EW)(L:mV)(Q:FV->mV->Prop):uz f i a L Q=(wp (lk L i) λv=>wp (t6 v) λ_=>a L λy L1=>wp (lk L1 i) λx=>wp (f x y) λz=>Q .non (L1.set i (some z))):=propext mf
@[scoped simp ↓] theorem ND (a:EW)(L:mV)(Q:List FV->mV->Prop):qU a L Q=(a L λx L1=>wp (oV x) λxs=>Q xs L1):=propext mf
@[scoped simp ↓] theorem NE (a:EW)(L:mV)(Q:List FV->mV->Prop):qV a L Q=(a L λx L1=>wp (pM x) λj=>oJ j=true/\Q (sQ 0 j.toNat) L1):=propext mf
@[scoped simp ↓] theorem Mp (a b:EW)(L:mV)(Q:List FV->mV->Prop):iRng2 a b L Q=(a L λx L1=>b L1 λy L2=>wp (pM x) λi=>wp (pM y) λj=>(oJ i && oJ j)=true/\Q (sQ i (j-i).toNat) L2):=propext mf
@[scoped simp ↓] theorem NC (a b:EW)(L:mV)(Q:List FV->mV->Prop):wQ a b L Q=(a L λx L1=>b L1 λy L2=>wp (oV x) λxs=>wp (oV y) λys=>Q (oX xs ys) L2):=propext mf
@[scoped simp ↓] theorem Ms (a:EW)(L:mV)(Q:List FV->mV->Prop):vD a L Q=(a L λx L1=>wp (oV x) λxs=>Q (oX (sQ 0 xs.length) xs) L1):=propext mf
@[scoped simp ↓] theorem MI (n m:Nat)(it:AW)(tg:Tg)(t:BW)(e:EW)(L:mV)(Q:FV->mV->Prop):nU n m it tg t e L Q=(it L λxs L1=>L1.length=n/\xs.length<=big/\pV n m tg t e xs [] L1 λys L2=>Q (.lst ys) L2):=propext mf
@[scoped simp ↓] theorem Nn (L:mV)(Q:FFl->mV->Prop):oM  L Q=(Q .next L):=propext mf
@[scoped simp ↓] theorem Nl (s r:SW)(L:mV)(Q:FFl->mV->Prop):mZ s r L Q=(s L (K7 (λL1=>r L1 Q) Q)):=propext mf
@[scoped simp ↓] theorem Nu (e:EW)(tg:Tg)(L:mV)(Q:FFl->mV->Prop):m7 e tg L Q=(e L λx L1=>gW tg x L1 λL2=>Q .next L2):=propext mf
@[scoped simp ↓] theorem Nk (k:Nat)(i e:EW)(L:mV)(Q:FFl->mV->Prop):wv k i e L Q=(wp (lk L k) λ_=>e L λx L1=>i L1 λj L2=>wp (lk L2 k) λy=>wp (HV y j x) λz=>Q .next (L2.set k (some z))):=propext mf
@[scoped simp ↓] theorem Nt (f:FV->FV->Option FV) (i:Nat)(e:EW)(L:mV)(Q:FFl->mV->Prop):yZ f i e L Q=(wp (lk L i) λa=>e L λx L1=>wp (f a x) λz=>Q .next (L1.set i (some z))):=propext mf
@[scoped simp ↓] theorem Nm (e:EW)(L:mV)(Q:FFl->mV->Prop):nq e L Q=(e L λx L1=>Q (.ret x) L1):=propext mf
@[scoped simp ↓] theorem Nq (e:EW)(L:mV)(Q:FFl->mV->Prop):Bw e L Q=(e L λ_ L1=>Q .next L1):=propext mf
@[scoped simp ↓] theorem OU (c:BW)(a b:SW)(L:mV)(Q:FFl->mV->Prop):qB c a b L Q=(c L λr L1=>if r=true then a L1 Q else b L1 Q):=propext mf
@[scoped simp ↓] theorem Np (it:AW)(tg:Tg)(b:SW)(L:mV)(Q:FFl->mV->Prop):ql it tg b L Q=(it L λxs L1=>u6 tg b xs L1 Q):=propext mf
@[scoped simp ↓] theorem Nj (c:BW)(b:SW)(L:mV)(Q:FFl->mV->Prop):yY c b L Q=(∃ n,Bm c b n L Q):=propext mf
@[scoped simp ↓] theorem Mi (x:Option FV)(L:mV)(Q:FV->Prop):wp (lk (x :: L) 0) Q=wp x Q:=propext mf
@[scoped simp ↓] theorem Mj (x:Option FV)(L:mV) (n:Nat)(Q:FV->Prop):wp (lk (x :: L) (n+1)) Q=wp (lk L n) Q:=propext mf
@[scoped simp ↓] theorem gw_nm (i:Nat)(v:FV)(L:mV)(Q:mV->Prop):gW (.nm i) v L Q=Q (L.set i (some v)):=propext mf
@[scoped simp ↓] theorem gw_tp (is:List Nat)(v:FV)(L:mV)(Q:mV->Prop):gW (.tp is) v L Q=wp (qL v) λxs=>wp (r6 L is xs) Q:=propext mf
@[scoped simp ↓] theorem gw_tn (i:Nat)(is:List Nat)(v:FV)(L:mV)(Q:mV->Prop):gW (.tn i is) v L Q=wp (qL v) λxs=>wp (Dn xs) λp=>wp (qL p.2) λys=>wp (r6 (L.set i (some p.1)) is ys) Q:=propext mf
@[scoped simp ↓] theorem pr_2 (a b:FV)(Q:FV×FV->Prop):wp (Dn [a,b]) Q=Q (a,b):=propext mf
@[scoped simp ↓] theorem sa_n (L:mV)(Q:mV->Prop):wp (r6 L [] []) Q=Q L:=propext mf
@[scoped simp ↓] theorem sa_c (L:mV) (i:Nat)(is:List Nat)(v:FV)(vs:List FV)(Q:mV->Prop):wp (r6 L (i :: is) (v :: vs)) Q=wp (r6 (L.set i (some v)) is vs) Q:=propext mf
section
variable (L:mV)(k:mV->Prop)(Q:FFl->mV->Prop)
@[scoped simp ↓] theorem Oy:K7 k Q .next L=k L:=propext mf
@[scoped simp ↓] theorem Se (v:FV):K7 k Q (.ret v) L=Q (.ret v) L:=propext mf
@[scoped simp ↓] theorem tq_n:rZ k Q .next L=k L:=propext mf
@[scoped simp ↓] theorem tq_r (v:FV):rZ k Q (.ret v) L=Q (.ret v) L:=propext mf
end
@[scoped simp ↓] theorem en_rt (fr:Bool)(Q:FV×FV->Prop)(v:FV)(L:mV):sO true fr Q (.ret v) L=wp (lk L 0) λx=>Q (v,x):=propext mf
@[scoped simp ↓] theorem en_rf (fr:Bool)(Q:FV×FV->Prop)(v:FV)(L:mV):sO false fr Q (.ret v) L=Q (v,.non):=propext mf
section
variable (Q:FV->Prop)(B:Bool->Prop)(i j:Int)
@[scoped simp ↓] theorem tr_b (b:Bool):wp (sv (.bl b)) B=B b:=propext mf
@[scoped simp ↓] theorem tr_n:wp (sv .non) B=B false:=propext mf
@[scoped simp ↓] theorem tr_t (xs:List FV):wp (sv (.tup xs)) B=B (!xs.isEmpty):=propext mf
@[scoped simp ↓] theorem in_i (Q:Int->Prop):wp (pM (.int i)) Q=Q i:=propext mf
@[scoped simp ↓] theorem bl_b (b:Bool):wp (MV (.bl b)) B=B b:=propext mf
@[scoped simp ↓] theorem tp_t (xs:List FV)(Q:List FV->Prop):wp (qL (.tup xs)) Q=Q xs:=propext mf
@[scoped simp ↓] theorem ls_l (xs:List FV)(Q:List FV->Prop):wp (t6 (.lst xs)) Q=Q xs:=propext mf
@[scoped simp ↓] theorem OR (xs:List FV)(Q:List FV->Prop):wp (oV (.tup xs)) Q=Q xs:=propext mf
@[scoped simp ↓] theorem Bs (xs:List FV)(Q:List FV->Prop):wp (oV (.lst xs)) Q=Q xs:=propext mf
@[scoped simp ↓] theorem li_l (xs:List FV)(Q:List FV->Prop):wp (oF (.lst xs)) Q=Q xs:=propext mf
@[scoped simp ↓] theorem HA:wp (m8 (.int i) (.int j)) Q=Q (.int (i+j)):=propext mf
@[scoped simp ↓] theorem b_sub:wp (uV (.int i) (.int j)) Q=Q (.int (i-j)):=propext mf
@[scoped simp ↓] theorem b_mul:wp (pR (.int i) (.int j)) Q↔(small i || small j)=true/\Q (.int (i*j)):=pS _ _ _
@[scoped simp ↓] theorem Sa:wp (vF (.int i) (.int j)) Q↔(0<j/\j<1073741824)/\Q (.int (i / j)):=pS _ _ _
@[scoped simp ↓] theorem b_mod:wp (t5 (.int i) (.int j)) Q↔0<j/\Q (.int (i % j)):=pS _ _ _
@[scoped simp ↓] theorem b_pow:wp (ze (.int i) (.int j)) Q↔(0<=j/\j<=1000/\small i=true)/\Q (.int (i ^ j.toNat)):=pS _ _ _
@[scoped simp ↓] theorem Sb (xs ys:List FV):wp (m8 (.tup xs) (.tup ys)) Q↔xs.length+ys.length<=big/\Q (.tup (xs++ys)):=pS _ _ _
@[scoped simp ↓] theorem Sc (xs ys:List FV):wp (m8 (.lst xs) (.lst ys)) Q↔xs.length+ys.length<=big/\Q (.lst (xs++ys)):=pS _ _ _
@[scoped simp ↓] theorem b_rep (xs:List FV) (k:Int):wp (pR (.lst xs) (.int k)) Q↔(-(2 ^ 63)<=k/\k<2 ^ 63/\xs.length*k.toNat<=big)/\Q (.lst (jc k.toNat xs).flatten):=pS _ _ _
@[scoped simp ↓] theorem Nx {f:FV->FV->Option FV}(v w:FV):wp (rm f v w) Q↔wp (f v w) λz=>wp (t6 z) λxs=>Q (.lst xs):=by unfold rm;rw[o9];simp only[oQ]
@[scoped simp ↓] theorem k_eq (a b:FV):wp (qI a b) Q↔wp (sU a b) λr=>Q (.bl r):=oQ _ _ _
@[scoped simp ↓] theorem k_ne (a b:FV):wp (uY a b) Q↔wp (sU a b) λr=>Q (.bl (!r)):=oQ _ _ _
@[scoped simp ↓] theorem k_lt:wp (BR (.int i) (.int j)) Q=Q (.bl (decide (i<j))):=propext mf
@[scoped simp ↓] theorem k_le:wp (Ht (.int i) (.int j)) Q=Q (.bl (decide (i<=j))):=propext mf
@[scoped simp ↓] theorem k_gt:wp (EI (.int i) (.int j)) Q=Q (.bl (decide (j<i))):=propext mf
@[scoped simp ↓] theorem k_ge:wp (D0 (.int i) (.int j)) Q=Q (.bl (decide (j<=i))):=propext mf
@[scoped simp ↓] theorem e_ii:wp (sU (.int i) (.int j)) B=B (i == j):=propext mf
@[scoped simp ↓] theorem e_ss (a b:String):wp (sU (.str a) (.str b)) B=B (a == b):=propext mf
@[scoped simp ↓] theorem e_bb (a b:Bool):wp (sU (.bl a) (.bl b)) B=B (a == b):=propext mf
@[scoped simp ↓] theorem e_sh (d:D):wp (sU (.shn d) (.shn d)) B=B true:=by rw[show sU (.shn d) (.shn d) = @ite _ (d=d) (bx _) (some true) none from rfl,if_pos rfl];rfl
@[scoped simp ↓] theorem yk (v:FV):wp (nK v (.int i)) Q↔wp (oV v) λxs=>wp (vW xs i) Q:=by
 show wp ((oV v).bind _) Q↔_;rw[o9]
@[scoped simp ↓] theorem f_min:wp (vo (.int i) (.int j)) Q=Q (.int (if j<i then j else i)):=propext mf
@[scoped simp ↓] theorem f_max:wp (AA (.int i) (.int j)) Q=Q (.int (if j > i then j else i)):=propext mf
@[scoped simp ↓] theorem f_not (b:Bool):wp (FH (.bl b)) Q=Q (.bl (!b)):=propext mf
@[scoped simp ↓] theorem f_neg:wp (BM (.int i)) Q=Q (.int (-i)):=propext mf
@[scoped simp ↓] theorem f_len (v:FV):wp (ox v) Q↔wp (oV v) λxs=>Q (.int xs.length):=oQ _ _ _
@[scoped simp ↓] theorem f_abs:wp (Ey (.int i)) Q=Q (.int (if i<0 then -i else i)):=propext mf
@[scoped simp ↓] theorem Qd (b:Bool):wp (sx (.bl b)) Q=Q (.int (if b then 1 else 0)):=propext mf
@[scoped simp ↓] theorem f_all (v:FV):wp (u7 v) Q↔wp (oF v) λxs=>wp (rS xs) λbs=>Q (.bl (bs.all id)):=by
 show wp ((oF v).bind _) Q↔_;rw[o9];simp only[oQ]
@[scoped simp ↓] theorem P9 (v:FV):wp (xZ v) Q↔wp (oF v) λxs=>wp (Dv xs) Q:=o9 _ _ _
@[scoped simp ↓] theorem Oj (v:FV):wp (oZ v) Q↔wp (oV v) λxs=>Q (.tup xs):=oQ _ _ _
@[scoped simp ↓] theorem Qb (v:FV):wp (pw v) Q↔wp (oV v) λxs=>Q (.lst xs):=oQ _ _ _
@[scoped simp ↓] theorem f_isi (t:Ty)(v:FV):wp (qd t v) Q↔wp (qe v t) λb=>Q (.bl b):=oQ _ _ _
@[scoped simp ↓] theorem y_non (t:Ty):wp (qe .non t) B=B false:=propext mf
@[scoped simp ↓] theorem y_bl (b:Bool)(t:Ty):wp (qe (.bl b) t) B=B (t == .int || t == .bool):=propext mf
@[scoped simp ↓] theorem y_int (t:Ty):wp (qe (.int i) t) B=B (t == .int):=propext mf
@[scoped simp ↓] theorem y_str (b:String)(t:Ty):wp (qe (.str b) t) B=B (t == .str):=propext mf
@[scoped simp ↓] theorem y_tup (b:List FV)(t:Ty):wp (qe (.tup b) t) B=B (t == .tuple):=propext mf
@[scoped simp ↓] theorem y_lst (b:List FV)(t:Ty):wp (qe (.lst b) t) B=B (t == .list):=propext mf
@[scoped simp ↓] theorem iN_n:wp (qr .non) Q=Q (.bl true):=propext mf
@[scoped simp ↓] theorem iN_b (b:Bool):wp (qr (.bl b)) Q=Q (.bl false):=propext mf
@[scoped simp ↓] theorem iN_i:wp (qr (.int i)) Q=Q (.bl false):=propext mf
@[scoped simp ↓] theorem nN_n:wp (qR .non) Q=Q (.bl false):=propext mf
@[scoped simp ↓] theorem nN_i:wp (qR (.int i)) Q=Q (.bl true):=propext mf
@[scoped simp ↓] theorem nB_b (b c:Bool):wp (wD c (.bl b)) Q=Q (.bl (b != c)):=propext mf
@[scoped simp ↓] theorem m_app (xs:List FV)(v:FV):wp (Ex (.lst xs) v) Q↔xs.length<big/\Q (.lst (xs++[v])):=pS _ _ _
@[scoped simp ↓] theorem m_ext (xs ys:List FV):wp (JW (.lst xs) (.lst ys)) Q↔xs.length+ys.length<=big/\Q (.lst (xs++ys)):=pS _ _ _
@[scoped simp ↓] theorem s_t (xs:List FV)(lo hi:Option Int):wp (sB (.tup xs) lo hi) Q=Q (.tup (nT xs lo hi)):=propext mf
@[scoped simp ↓] theorem s_l (xs:List FV)(lo hi:Option Int):wp (sB (.lst xs) lo hi) Q=Q (.lst (nT xs lo hi)):=propext mf
@[scoped simp ↓] theorem st_l (xs:List FV)(v:FV):wp (HV (.lst xs) (.int j) v) Q↔wp (ixN xs.length j) λp=>Q (.lst (xs.set p v)):=oQ _ _ _
@[scoped simp ↓] theorem au_f (f:Int->Int->Int):wp (yO f (.int i) (.int j)) Q=Q (.int (f i j)):=propext mf
end
theorem nN {xs:List FV}{i:Int}{n:Nat}{v:FV}{Q:FV->Prop}(h:i=n)(hv:xs[n]?=some v):wp (vW xs i) Q↔Q v:=by
 subst h
 have:=(aI.mp hv).1
 simp only[vW,ixN,Int.natCast_nonneg,if_true,Int.ofNat_lt,this,fY,fC,hv,oo]
@[scoped simp ↓] theorem at_0 (x:FV)(r:List FV)(Q:FV->Prop):wp (vW (x :: r) 0) Q↔Q x:=nN (n:=0) rfl rfl
@[scoped simp ↓] theorem at_1 (x y:FV)(r:List FV)(Q:FV->Prop):wp (vW (x :: y :: r) 1) Q↔Q y:=nN (n:=1) rfl rfl
@[scoped simp ↓] theorem at_2 (x y z:FV)(r:List FV)(Q:FV->Prop):wp (vW (x :: y :: z :: r) 2) Q↔Q z:=nN (n:=2) rfl rfl
theorem sK {n:Nat}{i:Int}{j:Nat}{Q:Nat->Prop}(h:i=j)(hj:j<n):wp (ixN n i) Q↔Q j:=by
 subst h;simp[ixN,hj]
theorem oT {xs:List FV}{u:Int}{Q:FV->Prop}(h0:0<=u)(h1:u<xs.length)(h:∀ x∈xs,Q x):wp (vW xs u) Q:=by
 have hu:u.toNat<xs.length:=by lia
 rw[nN (show u=u.toNat by lia) (aX hu)]
 exact h _ (gn hu)
theorem ou {α:Type}(p:α->Bool):∀ xs:List α,rS (xs.map λx=>.bl (p x))=some (xs.map p)
 | []=>rfl
 | x :: r=>by show (rS (r.map λx=>.bl (p x))).map (p x :: ·)=_;rw[ou p r];rfl
theorem ints_map:∀ ns:List Int,nR (ns.map .int)=some ns
 | []=>rfl
 | x :: r=>by show (nR (r.map .int)).map (x :: ·)=_;rw[ints_map r];rfl
@[scoped simp] theorem ty_01:(Ty.int == Ty.bool)=false:=by decide
@[scoped simp] theorem ty_02:(Ty.int == Ty.str)=false:=by decide
@[scoped simp] theorem ty_03:(Ty.int == Ty.list)=false:=by decide
@[scoped simp] theorem ty_04:(Ty.int == Ty.tuple)=false:=by decide
@[scoped simp] theorem ty_10:(Ty.bool == Ty.int)=false:=by decide
@[scoped simp] theorem ty_12:(Ty.bool == Ty.str)=false:=by decide
@[scoped simp] theorem ty_13:(Ty.bool == Ty.list)=false:=by decide
@[scoped simp] theorem ty_14:(Ty.bool == Ty.tuple)=false:=by decide
@[scoped simp] theorem ty_20:(Ty.str == Ty.int)=false:=by decide
@[scoped simp] theorem ty_21:(Ty.str == Ty.bool)=false:=by decide
@[scoped simp] theorem ty_23:(Ty.str == Ty.list)=false:=by decide
@[scoped simp] theorem ty_24:(Ty.str == Ty.tuple)=false:=by decide
@[scoped simp] theorem ty_30:(Ty.list == Ty.int)=false:=by decide
@[scoped simp] theorem ty_31:(Ty.list == Ty.bool)=false:=by decide
@[scoped simp] theorem ty_32:(Ty.list == Ty.str)=false:=by decide
@[scoped simp] theorem ty_34:(Ty.list == Ty.tuple)=false:=by decide
@[scoped simp] theorem ty_40:(Ty.tuple == Ty.int)=false:=by decide
@[scoped simp] theorem ty_41:(Ty.tuple == Ty.bool)=false:=by decide
@[scoped simp] theorem ty_42:(Ty.tuple == Ty.str)=false:=by decide
@[scoped simp] theorem ty_43:(Ty.tuple == Ty.list)=false:=by decide
theorem mY {tb:List FD}{d f:Nat}{args:List FV}{fd:FD}{Q:FV×FV->Prop}(h:tb[f]?=some fd)(hl:args.length=fd.np)
  (H:fd.body (callW tb d) (args.map some++jc (fd.ns-fd.np) none) (sO fd.io fd.fr Q)):callW tb (d+1) f args Q:=by
 show (match tb[f]? with
  | none=>False
  | some fd=>args.length=fd.np/\fd.body (callW tb d) (args.map some++jc (fd.ns-fd.np) none) (sO fd.io fd.fr Q))
 rw[h];exact⟨hl,H⟩
theorem pW {tb:List FD}{d f:Nat}{args:List FV}{fd:FD}{Q:FV×FV->Prop}(h:tb[f]?=some fd)(hl:args.length=fd.np) :
  callW tb (d+1) f args Q↔fd.body (callW tb d) (args.map some++jc (fd.ns-fd.np) none) (sO fd.io fd.fr Q):=by
 show (match tb[f]? with
  | none=>False
  | some fd=>args.length=fd.np/\fd.body (callW tb d) (args.map some++jc (fd.ns-fd.np) none) (sO fd.io fd.fr Q))↔_
 rw[h];exact⟨λz=>z.2,λz=>⟨hl,z⟩⟩
theorem qf {α:Type}{tg:Tg}{b:SW}{f:α->FV}{I:List α->mV->Prop}{Q:FFl->mV->Prop}(all:List α) :
  ∀ (rest done:List α)(L:mV),all=done++rest->I done L ->
  (∀ d x r L (K:mV->Prop),all=d++x :: r->I d L->(∀ L',I (d++[x]) L'->K L')->gW tg (f x) L λL1=>b L1 (rZ K Q)) ->
  (∀ L,I all L->Q .next L)->u6 tg b (rest.map f) L Q
 | [],done,L,e,h,_,E=>by
  rw[iA] at e
  exact E L (e ▸ h)
 | x :: rest,done,L,e,h,B,E=>B done x rest L _ e h λL' h'=>qf all rest (done++[x]) L' (by simp[e]) h' B E
theorem oH {tg:Tg}{b:SW}{I:Nat->mV->Prop}{Q:FFl->mV->Prop}:∀ (n i:Nat)(L:mV),I i L ->
  (∀ j L (K:mV->Prop),i<=j->j<i+n->I j L->(∀ L',I (j+1) L'->K L')->gW tg (.int (j:Int)) L λL1=>b L1 (rZ K Q)) ->
  (∀ L,I (i+n) L->Q .next L)->u6 tg b (sQ (i:Int) n) L Q
 | 0,i,L,h,_,E=>E L h
 | n+1,i,L,h,B,E=>B i L _ (kW _) ⋯ h λL' h'=>by
  have:=oH n (i+1) L' h' (λj L K hj hj'=>B j L K ⋯ ⋯) (λL h=>E L (by rw[show i+(n+1)=i+1+n by lia];exact h))
  simpa using this
theorem rX {c:BW}{b:SW}{I:Nat->mV->Prop}{Q:FFl->mV->Prop}(B:∀ m L (K:mV->Prop),I m L->(∀ m' L',m'<m->I m' L'->K L')->c L λt L1=>if t=true then b L1 (rZ K Q) else Q .next L1){m:Nat}{L:mV}(h:I m L):yY c b L Q:=by
 have go:∀ n m L,m<n->I m L->Bm c b n L Q:=by
  intro n
  induction n with
  | zero=>intro m L hm;lia
  | succ n ih=>intro m L hm h;exact B m L _ h λm' L' h1 h2=>ih m' L' ⋯ h2
 exact⟨m+1,go _ m L (f7 _) h⟩
theorem qj {α:Type}{tg:Tg}{n m:Nat}{t:BW}{e:EW}{f:α->FV}{I:List α->List FV->mV->Prop}{Q:List FV->mV->Prop}(all:List α) :
  ∀ (rest done:List α)(Z8:List FV)(L:mV),all=done++rest->I done Z8 L ->
  (∀ d x r Z8 L (K:List FV->mV->Prop),all=d++x :: r->I d Z8 L->(∀ acc' L',I (d++[x]) acc' L'->K acc' L')->gW tg (f x) (L++jc m none) λL1=>t L1 λb L2=>if b=true then e L2 λv L3=>K (Z8++[v]) (L3.take n) else K Z8 (L2.take n)) ->
  (∀ ys L,I all ys L->Q ys L)->pV n m tg t e (rest.map f) Z8 L Q
 | [],done,Z8,L,e,h,_,E=>by
  rw[iA] at e
  exact E Z8 L (e ▸ h)
 | x :: rest,done,Z8,L,e,h,B,E=>B done x rest Z8 L (λacc' L'=>pV _ _ _ _ _ (rest.map f) acc' L' Q) e h λacc' L' h'=>qj all rest (done++[x]) acc' L' (by simp[e]) h' B E
theorem nD {α:Type}{tg:Tg}{n m:Nat}{e:EW}{f:α->FV}{g:α->FV}{Q:List FV->mV->Prop}{L:mV}:∀ (xs:List α)(Z8:List FV),
  (∀ x∈xs,∀ K:FV->mV->Prop,K (g x) L->gW tg (f x) (L++jc m none) λL1=>e L1 λv L3=>K v (L3.take n))->Q (Z8++xs.map g) L->pV n m tg nP e (xs.map f) Z8 L Q
 | [],Z8,_,E=>by
  show Q Z8 L
  simpa using E
 | x :: xs,Z8,B,E=>B x dQ (λv L'=>pV n m tg nP e (xs.map f) (Z8++[v]) L' Q) (nD xs (Z8++[g x]) (λy hy=>B y (cI _ hy)) (by simpa using E))
theorem qZ {α:Type}{tg:Tg}{n m:Nat}{t:BW}{e:EW}{f:α->FV}{g:α->FV}{p:α->Bool}{Q:List FV->mV->Prop}{L:mV}:∀ (xs:List α)(Z8:List FV),
  (∀ x∈xs,∀ (K:FV->mV->Prop)(N:mV->Prop),(p x=true->K (g x) L)->(p x=false->N L)->gW tg (f x) (L++jc m none) λL1=>t L1 λb L2=>if b=true then e L2 λv L3=>K v (L3.take n) else N (L2.take n))->Q (Z8++(xs.filter p).map g) L->pV n m tg t e (xs.map f) Z8 L Q
 | [],Z8,_,E=>by
  show Q Z8 L
  simpa using E
 | x :: xs,Z8,B,E=>B x dQ (λv L'=>pV n m tg t e (xs.map f) (Z8++[v]) L' Q) (λL'=>pV n m tg t e (xs.map f) Z8 L' Q)
   (λhp=>qZ xs (Z8++[g x]) (λy hy=>B y (cI _ hy)) (by rw[List.filter_cons_of_pos hp] at E;simpa using E))
   (λhp=>qZ xs Z8 (λy hy=>B y (cI _ hy)) (by rw[List.filter_cons_of_neg (by simp[hp])] at E;exact E))
theorem yP:∀ n lo:Nat,sQ (lo:Int) n=(kX lo n).map λi:Nat=>FV.int i
 | 0,lo=>rfl
 | n+1,lo=>by simp only[sQ,gb,jQ];rw[<- yP n (lo+1)];simp
theorem oU (n:Nat):sQ 0 n=(lL n).map λi:Nat=>FV.int i:=by
 have:=yP n 0
 rw[cC];exact_mod_cast this
theorem nI {c A B:Prop} [Decidable c] (h1:c->A)(h2:¬ c->B):if c then A else B:=by
 by_cases h:c
 ·rw[if_pos h];exact h1 h
 ·rw[if_neg h];exact h2 h
end Kq
set_option maxHeartbeats 4000000
namespace Kq
open PySem PySem.Spec PyProof.Rows L2
section
variable {X:Cx}{C:CC}{n:Nat}{sp:ke->Nat->Sp}{a:Expr}{ea:EW}{p p2 p3 p4 pos:Pos}
theorem Kf:nO X (.builtin "isinstance") (λxs H Q=>∃ v d c c' b b' T,xs=[v,.ref d]/\H d=some (.tup [.ty c,.ty c'])/\TyOf X.K H v (.type T)/\iY X.K (.type T) (.type c)=some b/\iY X.K (.type T) (.type c')=some b'/\Q (.bl (b || b')) H):=by
 intro Z9 s σ H xs us Q I r hh
 obtain⟨v,d,c,c',b,b',T,rfl,hd,h1,h2,h3,q⟩:=hh
 obtain⟨u,u',rfl,ru,ru'⟩:=vals2 r
 obtain rfl:u'=.ref d:=ru'
 obtain⟨_,Z7,rv,o,ho,hcl,nn,hdt⟩:=(show ObjOk X.prog X.w H s.heap d (.tup [.ty c,.ty c']) from I.hok d _ hd)
 obtain⟨w1,w2,rfl,rw1,rw2⟩:=vals2 rv
 obtain rfl:w1=.type c:=rw1
 obtain rfl:w2=.type c':=rw2
 have fin:∀ tk,EP X Z9 σ Q (.bool (b || b')) { s with toks:=tk }:=λtk=>⟨.bl (b || b'),H,I.tok _,rfl,q⟩
 have hany:iZ X.K (.type T) [.type c,.type c']=some (b || b'):=by
  show (match iY X.K (.type T) (.type c) with|some true=>some true|some false=>iZ X.K (.type T) [.type c']|none=>none)=_
  rw[h2]
  cases b with
  | true=>rfl
  | false =>
   show (match iY X.K (.type T) (.type c') with|some true=>some true|some false=>iZ X.K (.type T) []|none=>none)=_
   rw[h3];cases b'<;>rfl
 obtain⟨oc,od,odt,osl⟩:=o
 simp only at hcl hdt
 subst hcl hdt
 cases h1 with
 | non=>cases (show u=Value.none from ru);exact gQ eX I.kIn True.intro ho hany (λz=>nomatch z) fin
 | bl y=>cases (show u=Value.bool y from ru);exact gQ fb I.kIn True.intro ho hany (λz=>nomatch z) fin
 | int i=>obtain⟨t,rfl⟩:=(show ∃ t,u=Value.int i t from ru);exact gQ fU I.kIn True.intro ho hany (λz=>nomatch z) fin
 | str y=>obtain⟨t,rfl⟩:=(show ∃ t,u=Value.str y t from ru);exact gQ fT I.kIn True.intro ho hany (λz=>nomatch z) fin
 | flt y=>obtain⟨t,rfl⟩:=(show ∃ t,u=Value.float y t from ru);exact gQ dC I.kIn True.intro ho hany (λz=>nomatch z) fin
 | @lst a xs ea =>
  cases (show u=Value.ref a from ru)
  obtain⟨_,_,n,_,h1⟩:=(show ObjOk X.prog X.w H s.heap a (.lst xs) from I.hok a _ ea)
  exact gQ eY I.kIn ⟨_,h1,rfl⟩ ho hany (λz=>nomatch z) fin
 | @frz a ob xs ea =>
  cases (show u=Value.ref a from ru)
  obtain⟨_,_,_,n,_,h1⟩:=(show ObjOk X.prog X.w H s.heap a (.frz ob (.lst xs)) from I.hok a _ ea)
  exact gQ eY I.kIn ⟨_,h1,rfl⟩ ho hany (λz=>nomatch z) fin
 | @tup a xs ea =>
  cases (show u=Value.ref a from ru)
  obtain⟨_,_,_,o,h1,h2,_⟩:=(show ObjOk X.prog X.w H s.heap a (.tup xs) from I.hok a _ ea)
  exact gQ dB I.kIn ⟨o,h1,h2⟩ ho hany (λz=>nomatch z) fin
 | @dK a Z6 ea =>
  cases (show u=Value.ref a from ru)
  obtain⟨_,_,vs,_,o,es,ep,h1,h2,_⟩:=(show ObjOk X.prog X.w H s.heap a (.dK Z6) from I.hok a _ ea)
  exact gQ eZ I.kIn ⟨o,h1,h2.1⟩ ho hany (λz=>nomatch z) fin
 | @dT a Z6 ea =>
  cases (show u=Value.ref a from ru)
  obtain⟨_,_,xs,_,o,es,ep,h1,h2,_⟩:=(show ObjOk X.prog X.w H s.heap a (.dT Z6) from I.hok a _ ea)
  exact gQ eZ I.kIn ⟨o,h1,h2.1⟩ ho hany (λz=>nomatch z) fin
theorem Oa {t t':Ty}{tn tn':Str}{m:Nat}(G:Good X C n sp)(hg:C.gl (j9 "isinstance")=true)(ht:tn=j9 (pG t))(ht':tn'=j9 (pG t'))(hg2:(C.gl tn && C.gl tn')=true)(hs:nv a=false)(ha:FR X C a ea) :
  FE X C (.Call (.Name (j9 "isinstance") p) [a,.Tuple [.Name tn p2,.Name tn' p3] m p4] [] pos) (nE (ym t t') ea):=by
 subst ht ht'
 have hg2:=b2 hg2
 have tt:∀ (t:Ty)(p2:Pos),C.gl (j9 (pG t))=true->PE X.nox (.Name (j9 (pG t)) p2) (tC (.ty (pG t))):=λt p2 hg=>by
  cases t<;>exact Au (G.gl hg) (G.blt _ (by decide)) (by nofun) rfl (by nofun) (by nofun)
 have tup:=Dh (x1:=m) (pos:=p4) (nC (tt t p2 hg2.1) (nC (tt t' p3 hg2.2) n6 rfl) rfl)
 refine PE.imp (qQ Kf (G.gl hg) (G.blt "isinstance" (by decide)) (by nofun) (nC ha (nC tup n6 rfl) (m3 hs)) (by nofun) (by nofun) (m3 hs) rfl) λσ H Q q1=>?_;obtain⟨c,L,S,Q0,I,h,k⟩:=q1;refine
  ⟨c,L,S,_,I,h,λv L1 hv x S1 H1 r1 I1 s1=>?_⟩
 refine⟨by show 2<=sizeLine;decide,λd hd=>?_⟩
 obtain⟨z,e,q⟩:=oB hv
 obtain⟨r,e1,e2⟩:=oz e
 obtain⟨r',e3,rfl⟩:=rE e2
 have I2:=I1.lay hd (.tup [.ty (pG t),.ty (pG t')])
 have rr:RH X.K S1 (n5 H1 d (.tup [.ty (pG t),.ty (pG t')])) v x:=by
  rcases r1 with r1|⟨b,rfl,o1,ps,us,e4,o2,o3⟩
  ·exact .inl r1
  ·exact .inr ⟨b,rfl,o1,ps,us,e4,by rw[m9 (nQ o2 hd)];exact o2,o3⟩
 obtain⟨T,t1,t2⟩:=tK I2.sub rr e1
 obtain⟨T',t3,t4⟩:=tK I2.sub rr e3
 have hT:T=T':=by cases t1<;>cases t3<;>first|rfl|(simp_all)
 subst hT
 exact⟨x,d,_,_,_,_,T,rfl,nz,t1,t2,t4,k _ L1 q _ S1 _ rfl I2 s1⟩
end
@[scoped simp ↓] theorem Qc (t u:Ty)(v:FV)(Q:FV->Prop):wp (ym t u v) Q↔wp (qe v t) λa=>wp (qe v u) λb=>Q (.bl (a || b)):=by
 unfold ym;rw[o9];simp only[oQ]
def Sk (lo:Int) (n:Nat):It:=⟨λi _=>i<n,λi H x H'=>H'=H/\x=.int (lo-i),λi _=>n<=i⟩
theorem Bp {P:l8}{w:mD}{K:ke}{tg:Expr}(it:mS) (lo:Int) (n:Nat):Turn P w K tg (Sk lo n) [it] it (λi h=>k6 h it (lo+(i:Nat)*(-1)) ((n:Int)-(i:Nat)) (-1)) where
 mem:=by simp
 obj:=λi h st b hb=>by
  have e:b=it:=by simpa using hb
  subst e
  exact⟨_,st,λv z=>by
   have z':Data.fields _=Data.cell v:=z
   cases z'⟩
 keep:=λi h h' st k=>k it (by simp) _ st
 item:=by
  intro X hP hw hK hc i Z9 s σ H E I hf st hg
  subst hP hw hK
  obtain⟨f0,f1,f2,f3,f4,f5⟩:=hf it (by simp)
  have W:=Walks.range (prog:=X.prog) (w:=X.w) (I.ok.hd hc) it lo (-1) n
  refine W.item i s _ _ hg st λv h' tk hv st' kk=>?_
  obtain⟨t,rfl⟩:=hv
  have I1:Inv X Z9 σ H { s with heap:=h',toks:=tk }:=I.turned (λb o hb e=>kk b o (by simpa using hb) e) f0 f1 f3 f4 f5
  refine⟨_,rfl,AM (s:={ s with heap:=h',toks:=tk }) (n:="range_iterator") st' rfl rfl (by decide) ⟨.int (lo-i),H,I1,⟨t,?_⟩,⟨rfl,rfl⟩,st',λb hb=>(hf b hb).1⟩⟩
  rw[Int.mul_neg,Int.mul_one,Int.sub_eq_add_neg]
 done:=by
  intro X hP hw hK hc i Z9 s σ H E I hf st hg
  subst hP hw hK
  obtain⟨f0,f1,f2,f3,f4,f5⟩:=hf it (by simp)
  exact bA (I.ok.hd hc) st (by have:n<=i:=hg;lia) λh' eb=>⟨rfl,I.turned (t':=s.toks) (λb o hb e=>eb b o hb e) f0 f1 f3 f4 f5⟩
 self:=λ_ _ _ _ _ st h=>bB st h
def p6 (hi:Int):Nat->List FV
 | 0=>[]
 | n+1=>.int hi :: p6 (hi-1) n
theorem vJ:∀ (n:Nat) (lo:Int) (i:Nat),(p6 lo n)[i]?=if i<n then some (.int (lo-i)) else none
 | 0,lo,i=>by simp[p6]
 | n+1,lo,0=>by simp[p6]
 | n+1,lo,i+1=>by
  show (p6 (lo-1) n)[i]?=_
  rw[vJ n (lo-1) i]
  have e:lo-1-(i:Int)=lo-((i+1:Nat):Int):=by lia
  simp[e]
section
variable {K:ke}{c:Cn}{md:Md}
theorem Ga {lo:Int}{m:Nat}{S1:Hp}:EK K c md (Sk lo m) (p6 lo m) S1:=by
 intro i L σ S H I s
 rw[vJ]
 by_cases h:i<m
 ·rw[if_pos h]
  refine⟨λe=>(nomatch e),λp e=>?_⟩
  cases e
  exact⟨h,λv H' q1=>by obtain⟨e1,e2⟩:=q1;exact⟨S,Same.refl S,by rw[e1];exact λ_ _ _ _ I=>I,e2⟩⟩
 ·rw[if_neg h]
  exact⟨λ_=>show m<=i by lia,λp e=>(nomatch e)⟩
end
end Kq
namespace PySem
open PySem.Spec
theorem F.sub_rit_reversed:isSubtype (.type "range_iterator") (.type "reversed")=pure false:=by rw[iS];kernel_rfl
theorem Bz (r:mS) (a b c:Int)(t u v:Tok)(hc0:¬(!(ap a && ap b && ap c && ap (-c) && ap (a-c) && ap (bz a b c)))=true) :
  mJ (mh.«range.__reversed__» ⟨[.ref r],[]⟩) (λ_ R s=>s.heap.get? r=some { cls:=.type "range",dict:=none,data:=.fields #[.int a t,.int b u,.int c v],slots:=#[] }/\R (.ok (.ret (Value.ref s.heap.objs.size))) { s with heap:=s.heap.push { cls:=Value.type (if (ap a && ap b && ap c && ap (-c) && ap (a-c) && ap (bz a b c))=true then "range_iterator" else "longrange_iterator"),data:=Data.fields #[rawInt (a+(bz a b c-1)*c),rawInt (bz a b c),rawInt (-c)] },toks:=s.toks }) :=
 .of_wp λprog w A R s h=>by obtain⟨hp,g,d,tk,os⟩:=s;obtain⟨hl,h⟩:=h;wp_walk;exact⟨_,rfl,h⟩
section
variable {prog:l8}{w:mD}{A:mC}{E:mF->mn->Prop}{s:mn}
def r9 (a n:Int):Obj:={ cls:=.type "range_iterator",data:=.fields #[rawInt a,rawInt n,rawInt (-1)] }
theorem uJ {r:mS}{b:Int}{t u v:Tok}{Q:mF->mn->Prop}(hr:IsRange s.heap r 0 b 1 t u v)(h1:-(2 ^ 62)<=b)(h2:b<2 ^ 62)
  (h:Q (.ref s.heap.objs.size) { s with heap:=s.heap.push (r9 ((b.toNat:Int)-1) b.toNat) }):wpAny (model prog w) A (call (.builtin "range.__reversed__") [.ref r]) Q E s:=by
 have hT:s.TypeIs (.ref r) "range":=⟨_,hr,rfl⟩
 have hn:bz 0 b 1=(b.toNat:Int):=by rw[jw];split<;>lia
 have hs:(ap 0 && ap b && ap 1 && ap (-1) && ap (0-1) && ap (bz 0 b 1))=true:=by
  rw[hn]
  simp only[ap,gF,decide_eq_true_eq]
  lia
 refine lA cm hT F.entry_range_reversed (F.args_range_reversed_1 _) (Bz r 0 b 1 t u v (by rw[hs];decide)) ⟨hr,?_⟩
 rw[hs,if_pos rfl,hn]
 have e:(0:Int)+((b.toNat:Int)-1)*1=(b.toNat:Int)-1:=by lia
 rw[e]
 exact h
theorem uD {r:mS}{b:Int}{t u v:Tok}{Q₁:mF->mn->Prop}(hr:IsRange s.heap r 0 b 1 t u v)(h1:-(2 ^ 62)<=b)(h2:b<2 ^ 62)
  (h:Q₁ (.ref s.heap.objs.size) { s with heap:=s.heap.push (r9 ((b.toNat:Int)-1) b.toNat) }) :
  codeAny (model prog w) A (.call (.builtin "reversed.__new__") ⟨[.type "reversed",.ref r],[]⟩) (wants Q₁ E) s:=by
 have hT:s.TypeIs (.ref r) "range":=⟨_,hr,rfl⟩
 refine gO ?_
 show wpAny _ A.in1 (do checkBuiltinCall "reversed.__new__" ⟨[.type "reversed",.ref r],[]⟩;again (.builtin "reversed.__new__" ⟨[.type "reversed",.ref r],[]⟩)) _ _ s
 refine lq (kM (F.newCall_reversed_1 _) (lg ⟨jx cM _,gP F.entry_reversed_new ?_⟩))
 rw[cS cM _]
 unfold mh.«reversed.__new__»
 refine lq (kM (newClass_reversed _) ?_)
 try dsimp only
 refine lq (kM (a:=()) (by first|rfl|kernel_rfl) ?_)
 refine lq (kM (a:=()) (by first|rfl|kernel_rfl) ?_)
 try dsimp only
 refine lq (gH hT cm.lookup ?_)
 try dsimp only
 refine lq (kM (cm.bind _) ?_)
 try dsimp only
 first
 | rw[if_neg (show ¬ ((Value.builtin "range.__reversed__" == Value.none)=true) from eB)]
 | (show wpAny _ _ (if (Value.builtin "range.__reversed__" == Value.none)=true then _ else _) _ _ _;rw[if_neg (show ¬ ((Value.builtin "range.__reversed__" == Value.none)=true) from eB)])
 refine lq (k9 ?_)
 refine lq (m:=runValue (.call (.builtin "range.__reversed__") ⟨[.ref r],[]⟩)) (show wpAny _ _ (call (.builtin "range.__reversed__") [.ref r]) _ _ _ from uJ hr h1 h2 ?_)
 first
 | exact lg h
 | exact lq (lg (lg h))
theorem uI {r:mS}{b:Int}{t u v:Tok}{Q:mF->mn->Prop}(hr:IsRange s.heap r 0 b 1 t u v)(h1:-(2 ^ 62)<=b)(h2:b<2 ^ 62)
  (h:Q (.ref s.heap.objs.size) { s with heap:=s.heap.push (r9 ((b.toNat:Int)-1) b.toNat) }):wpAny (model prog w) A (call (.type "reversed") [.ref r]) Q E s:=by
 refine callType_other (U:="range_iterator") (Q₁:=λobj s₁=>obj=.ref s.heap.objs.size/\s₁ = { s with heap:=s.heap.push (r9 ((b.toNat:Int)-1) b.toNat) }) (by nofun) F.create_reversed ⟨_,_,F.mro_reversed⟩ F.made_reversed F.sub_rit_reversed (F.typeCall_reversed_1 _) (uD hr h1 h2 ⟨rfl,rfl⟩) ?_
 rintro obj s₁ ⟨rfl,rfl⟩
 exact⟨⟨_,da _ rfl,rfl⟩,h⟩
end
end PySem
namespace Kq
open PySem PySem.Spec PyProof.Rows L2
section
variable {X:Cx}{tg:Expr}
theorem Fk {a:Expr}{ta:TA}{p p2 pos pos2:Pos}(hg:Gl X "range")(hm:X.mg "range" = none)(hg2:Gl X "reversed")(hm2:X.mg "reversed" = none)(ha:PA X [a] ta)(hs:starEach [a] X.env=[(false,eval a X.env)]) :
  PI X tg (.Call (.Name "reversed" p) [.Call (.Name "range" p2) [a] [] pos2] [] pos) (λσ H R=>ta σ H λvs H1=>∃ j:Int,vs=[.int j]/\-(2 ^ 62)<=j/\j<2 ^ 62/\R (Sk ((j.toNat:Int)-1) j.toNat) H1):=by
 intro Z9 s σ H R I h
 refine mO (pH I hg2 hm2 (by nofun) (aj (T:="reversed") ?_ rfl rfl))
 show wpAny _ _ (spliced ((false,eval (.Call (.Name "range" p2) [a] [] pos2) X.env) :: backTo pos [])) _ _ s
 refine eA (mO (pH I hg hm lB (aj (nV (ha pos2 Z9 s σ H _ I h) λus s1 ⟨vs,H1,I1,r1,q1⟩=>?_) hs rfl)))
 obtain⟨j,e,q1,q2,q⟩:=q1
 subst e
 cases r1 with
 | cons r rr =>
  cases rr
  obtain⟨t,rfl⟩:=r
  refine call_range_1 (fI (uI (IsRange.new ..) q1 q2 ?_))
  let h0:mQ:=s1.heap.push { cls:=.type "range",data:=.fields #[.int 0 s1.toks,.int j t,.int 1 (s1.toks+1)] }
  have I2:Inv X Z9 σ H1 { s1 with heap:=h0,toks:=s1.toks+1+1 }:=I1.kept λb o e=>bQ _ e
  have st:k6 (h0.push (r9 ((j.toNat:Int)-1) j.toNat)) h0.objs.size ((j.toNat:Int)-1) j.toNat (-1):=da _ rfl
  refine bB st ?_
  refine⟨h0.objs.size,[h0.objs.size],_,_,H1,rfl,I2.kept (t':=s1.toks+1+1) λb o e=>bQ _ e,Bp _ ((j.toNat:Int)-1) j.toNat,?_,λb hb=>?_,q⟩
  ·have e1:((j.toNat:Int)-1)+((0:Nat):Int)*(-1)=(j.toNat:Int)-1:=by simp
   have e2:((j.toNat:Nat):Int)-((0:Nat):Int)=j.toNat:=by simp
   rw[e1,e2]
   exact st
  ·have e:b=h0.objs.size:=by simpa using hb
   subst e
   exact I2.fpOk (kW _) (I2.hok.fresh (kW _))
end
def AL (a:EW):AW:=λL Q=>a L λx L1=>wp (pM x) λj=>oJ j=true/\Q (p6 ((j.toNat:Int)-1) j.toNat) L1
@[scoped simp ↓] theorem Mr (a:EW)(L:mV)(Q:List FV->mV->Prop):AL a L Q=(a L λx L1=>wp (pM x) λj=>oJ j=true/\Q (p6 ((j.toNat:Int)-1) j.toNat) L1):=propext mf
theorem NS {X:Cx}{C:CC}{n:Nat}{sp:ke->Nat->Sp}{a tg:Expr}{ea:EW}{p p2 pos pos2:Pos}(G:Good X C n sp)(hg:(C.gl (j9 "range") && C.gl (j9 "reversed"))=true)(hs:nv a=false)(ha:FE X C a ea):FI X C C.md tg (.Call (.Name (j9 "reversed") p) [.Call (.Name (j9 "range") p2) [a] [] pos2] [] pos) (AL ea) :=
 PI.imp (Fk (G.gl (b2 hg).1) (G.blt "range" (by decide)) (G.gl (b2 hg).2) (G.blt "reversed" (by decide)) (nC ha n6 (m3 hs)) (m3 hs)) λσ H R q1=>by obtain⟨c,L,S,Q0,I,h,k⟩:=q1;exact
 ⟨c,L,S,_,I,h,λv L1 hv x S1 H1 r1 I1 s1=>by
  obtain⟨j,e,hb,q⟩:=oB hv
  cases nL e
  have h1:=de hb
  exact⟨j,by rw[show x=.int j from r1],h1.1,h1.2,k _ L1 q _ c S1 H1 I1 (λ_ _ _ _ I=>I) rfl Ga s1⟩⟩
theorem yz:∀ n:Nat,p6 ((n:Int)-1) n=(lL n).reverse.map λi:Nat=>FV.int i
 | 0=>rfl
 | n+1=>by
  have:=yz n
  rw[ic,List.reverse_append,il,<- this]
  simp[p6]
def ED (P:l8)(w:mD)(A:mC)(I:Nat->mF->Prop)(bt:Nat->Nat->Bool)(h0:mQ) (N:Nat):Prop :=
 ∀ i j u v (s:mn)(Q:mF->mn->Prop)(E:mF->mn->Prop),L2.Kept h0 s.heap N->I i u->I j v->Q (.bool (bt i j)) s->wpAny (model P w) A (richCompare .Gt u v) Q E s
theorem vX (a d:mF):argsOk "max" ⟨[a],[(j9 "default",d)]⟩:=by unfold argsOk;kernel_rfl
section
variable {P:l8}{w:mD}{A:mC}{R:mq->mn->Prop}{it S N:mS}{fp wr:List mS}{n:Nat}{V:Nat->mF->Prop}{St:Nat->mQ->Prop}{bt:Nat->Nat->Bool}{h0:mQ}{kw:List (Str×mF)}
theorem BP (W:mE P w A.in1 it fp wr n V St)(C:ED P w A.in1 V bt h0 N)(sf:S ∉ fp)(nw:∀ b∈wr,N<=b)(nS:N<=S) :
  ∀ (k j:Nat)(s:mn)(best:mF) (c:Nat),n-(j+1)=k->j+1<=n->St (j+1) s.heap->V (argBest bt j) best->L2.Kept h0 s.heap N->s.heap.get? S=some { cls:=.type "list",dict:=none,data:=.seq #[best,best] c,slots:=#[] } ->
  (∀ v h' tk,V (argBest bt (n-1)) v->(∀ b o,b ∉ wr->b≠S->s.heap.get? b=some o->h'.get? b=some o)->R (.ok (.ret v)) { s with heap:=h',toks:=tk })->codeAny (model P w) A (.builtin "max.loop" ⟨[.ref it,.none,.ref S],kw⟩) R s:=by
 have sw:S ∉ wr:=λh=>sf (W.sub _ h)
 have nm:(toString "max"++toString ".loop":String) = "max.loop":=by decide
 have low:∀ {b:mS},b<N->b ∉ wr/\b≠S:=λ{b} hb=>⟨λz=>absurd (nw b z) (lJ.mpr hb),λz=>absurd nS (by rw[<- z];exact lJ.mpr hb)⟩
 intro k
 induction k with
 | zero =>
  intro j s best c hk hj hst hV kp hS hR
  have en:j+1=n:=by lia
  refine gP gD ?_;rw[ax gA _]
  show wpAny _ A.in1 (seqItems? (.ref S) >>= _) _ _ s;refine lq (iM hS rfl ?_)
  show wpAny _ A.in1 (tryCatch (pyNext (.ref it)) _ >>= _) _ _ s;refine lq (iK (W.done s _ _ (en ▸ hst) λg tk kk=>?_))
  have S1:=kk S _ sw hS
  show wpAny _ A.in1 (updateSeq S (λ_=>#[]) >>= _) _ _ _;refine lq (gG S1 rfl (lq (kN (lg ?_))))
  exact hR best _ tk (by rw[<- en];exact hV) λb o c1 c2 e=>(bP _ _ (ma c2)).trans (kk b o c1 e)
 | succ k ih =>
  intro j s best c hk hj hst hV kp hS hR
  have lt:j+1<n:=by lia
  refine gP gD ?_;rw[ax gA _]
  show wpAny _ A.in1 (seqItems? (.ref S) >>= _) _ _ s;refine lq (iM hS rfl ?_)
  show wpAny _ A.in1 (tryCatch (pyNext (.ref it)) _ >>= _) _ _ s;refine lq (iK (W.item (j+1) s _ _ lt hst λv g tk vP st1 kk=>?_))
  have S1:=kk S _ sw hS
  have kp1:L2.Kept h0 g N:=λb o hb e=>kk b o (low hb).1 (kp b o hb e)
  show wpAny _ A.in1 (tryCatch (holding [v,v] (richCompare .Gt v best >>= _)) _ >>= _) _ _ _
  refine lq (iK (jq (lq (C (j+1) (argBest bt j) v best _ _ _ kp1 vP hV (lq (jq (eG (lq (kN (lg ?_))))))))))
  cases hb:bt (j+1) (argBest bt j) with
  | true =>
   simp only[if_true];refine lq (gG S1 rfl (lq (kN ?_)));rw[nm]
   refine lg ⟨jx gA _,ih (j+1) _ v _ ⋯ lt (W.frame _ _ _ st1 λb bf o e=>(bP _ _ (λh:S=b=>sf (by rw[h];exact bf))).trans e) (by simp only[argBest,hb,if_true];exact vP)
    (λb o l e=>(bP _ _ (ma (low l).2)).trans (kp1 b o l e)) (ck _ S1 rfl) λv' g' tk' p' k'=>?_⟩
   exact hR v' g' tk' p' λb o c1 c2 e=>k' b o c1 c2 ((bP _ _ (ma c2)).trans (kk b o c1 e))
  | false =>
   simp only[eD,if_false];refine lq (kN ?_);rw[nm]
   refine lg ⟨jx gA _,ih (j+1) _ best c ⋯ lt st1 (by simp only[argBest,hb,eD,if_false];exact hV) kp1 S1 λv' g' tk' p' k'=>?_⟩
   exact hR v' g' tk' p' λb o c1 c2 e=>k' b o c1 c2 (kk b o c1 e)
theorem zk (W:mE P w A.in1 it fp wr n V St)(C:ED P w A.in1 V bt h0 N)(sf:S ∉ fp)(nw:∀ b∈wr,N<=b)(nS:N<=S)(hn:0<n){s:mn}{c:Nat}(hst:St 0 s.heap)(kp:L2.Kept h0 s.heap N)
  (hS:s.heap.get? S=some { cls:=.type "list",dict:=none,data:=.seq #[] c,slots:=#[] })
  (hR:∀ v h' tk,V (argBest bt (n-1)) v->(∀ b o,b ∉ wr->b≠S->s.heap.get? b=some o->h'.get? b=some o)->R (.ok (.ret v)) { s with heap:=h',toks:=tk }):codeAny (model P w) A (.builtin "max.loop" ⟨[.ref it,.none,.ref S],kw⟩) R s:=by
 have sw:S ∉ wr:=λh=>sf (W.sub _ h)
 have nm:(toString "max"++toString ".loop":String) = "max.loop":=by decide
 have low:∀ {b:mS},b<N->b ∉ wr/\b≠S:=λ{b} hb=>⟨λz=>absurd (nw b z) (lJ.mpr hb),λz=>absurd nS (by rw[<- z];exact lJ.mpr hb)⟩
 refine gP gD ?_;rw[ax gA _]
 show wpAny _ A.in1 (seqItems? (.ref S) >>= _) _ _ s;refine lq (iM hS rfl ?_)
 show wpAny _ A.in1 (tryCatch (pyNext (.ref it)) _ >>= _) _ _ s;refine lq (iK (W.item 0 s _ _ hn hst λv g tk vP st1 kk=>?_))
 have S1:=kk S _ sw hS
 show wpAny _ A.in1 (updateSeq S (λ_=>#[v,v]) >>= _) _ _ _;refine lq (gG S1 rfl ?_);rw[nm]
 refine lg ⟨jx gA _,BP W C sf nw nS _ 0 _ v _ rfl hn (W.frame _ _ _ st1 λb bf o e=>(bP _ _ (λh:S=b=>sf (by rw[h];exact bf))).trans e) vP
  (λb o l e=>(bP _ _ (ma (low l).2)).trans (kk b o (low l).1 (kp b o l e))) (ck _ S1 rfl) λv' g' tk' p' k'=>?_⟩
 exact hR v' g' tk' p' λb o c1 c2 e=>k' b o c1 c2 ((bP _ _ (ma c2)).trans (kk b o c1 e))
end
theorem sm {prog:l8}{w:mD}{A:mC}{E:mF->mn->Prop}{s:mn}{id:String}{b:mh}{args:List mF}{kw:List (Str×mF)}{Q:mF->mn->Prop}(hk:builtinKind id=none)(hp:plainId id=true)
  (hb:entryFor table id=some b)(ha:argsOk id ⟨args,kw⟩)
  (hc:wpAny (model prog w) A.in1 (b ⟨args,kw⟩) (λfin s'=>match fin with
   | .done f=>(match (Except.ok f:mq) with|.ok (.ret v)=>Q v s'|.ok _=>False|.error e=>E e s')
   | .again c'=>c'.quiet=true/\codeAny (model prog w) A c' (λr s'=>match r with|.ok (.ret v)=>Q v s'|.ok _=>False|.error e=>E e s') s') E s):wpAny (model prog w) A (call (.builtin id) args kw) Q E s:=by
 refine lm (cx hp hb ?_)
 simp only[checkBuiltinCall,hk]
 cases hsig:Manifest.signature? id with
 | none=>exact lg hc
 | some sig =>
  have ha':Bind.checkArgs id sig ⟨args,kw⟩=pure ():=by simpa only[argsOk,hsig] using ha
  simp only[ha']
  exact lg hc
section
variable {P:l8}{w:mD}{A:mC}{E:mF->mn->Prop}{s:mn}
theorem Cg {l:mS}{xs:Array mF}{bt:Nat->Nat->Bool}{d:mF}{Q:mF->mn->Prop}(hh:A.in1.handled=none)(hl:s.heap.IsList l xs)(hn:0<xs.size)(C:ED P w A.in1 (λi v=>xs[i]?=some v) bt s.heap s.heap.objs.size)
  (K:∀ v h' tk,xs[argBest bt (xs.size-1)]?=some v->(∀ b o,s.heap.get? b=some o->h'.get? b=some o)->Q v { s with heap:=h',toks:=tk }):wpAny (model P w) A (call (.builtin "max") [.ref l] [(j9 "default",d)]) Q E s:=by
 have nm:(toString "max"++toString ".loop":String) = "max.loop":=by decide
 have ll:l<s.heap.objs.size:=by obtain⟨_,e,_⟩:=hl;exact kI e
 refine sm F.kind_max F.plain_max F.entry_max (vX _ _) ?_
 show wpAny _ A.in1 (au "max" ["key","default"] 0 ⟨[],[(j9 "default",d)]⟩ >>= _) _ _ s
 refine lq (kM (show au "max" ["key","default"] 0 ⟨[],[(j9 "default",d)]⟩=pure [none,some d] from rfl) (lq (lg (lq (eM hl ?_)))))
 have W:=lC (prog:=P) (w:=w) hh s.heap.objs.size l (kj ll) xs
 refine lq (eO ?_)
 rw[nm]
 have z1:(s.heap.push { cls:=.type "list_iterator",data:=.fields #[.ref l,.int 0 0] }).objs.size=s.heap.objs.size+1:=jl ..
 refine lg ⟨jx gA _,zk (S:=(s.heap.push { cls:=.type "list_iterator",data:=.fields #[.ref l,.int 0 0] }).objs.size) W C ?_ ?_ ?_ hn ⟨⟨_,bQ _ (da _ rfl),rfl,rfl⟩,(hl.push _).push _⟩
  (λb o hb e=>bQ _ (bQ _ e)) (da _ rfl) λv h' tk hv hk=>?_⟩
 ·rw[z1];intro z;simp only[jN,gc,or_false] at z;rcases z with z|z
  ·exact absurd z (kl (f7 _))
  ·exact absurd z (kl (fh ll))
 ·intro b hb;simp at hb;rw[hb];exact kW _
 ·rw[z1];exact kU _
 ·refine K v h' tk hv λb o e=>hk b o (by simp;exact kj (kI e)) ?_ (bQ _ (bQ _ e))
  rw[z1];exact kj (fh (kI e))
end
section
variable {P:l8}{w:mD}{A:mC}{E:mF->mn->Prop}{s:mn}
theorem zN {l:mS}{xs:Array mF}{d:mF}{Q:mF->mn->Prop}(hh:A.in1.handled=none)(hl:s.heap.IsList l xs)(hn:xs.size=0)
  (K:∀ h' tk,(∀ b o,s.heap.get? b=some o->h'.get? b=some o)->Q d { s with heap:=h',toks:=tk }):wpAny (model P w) A (call (.builtin "max") [.ref l] [(j9 "default",d)]) Q E s:=by
 have nm:(toString "max"++toString ".loop":String) = "max.loop":=by decide
 have ll:l<s.heap.objs.size:=by obtain⟨_,e,_⟩:=hl;exact kI e
 refine sm F.kind_max F.plain_max F.entry_max (vX _ _) ?_
 show wpAny _ A.in1 (au "max" ["key","default"] 0 ⟨[],[(j9 "default",d)]⟩ >>= _) _ _ s
 refine lq (kM (show au "max" ["key","default"] 0 ⟨[],[(j9 "default",d)]⟩=pure [none,some d] from rfl) (lq (lg (lq (eM hl ?_)))))
 have W:=lC (prog:=P) (w:=w) hh s.heap.objs.size l (kj ll) xs
 refine lq (eO ?_)
 rw[nm]
 have z1:(s.heap.push { cls:=.type "list_iterator",data:=.fields #[.ref l,.int 0 0] }).objs.size=s.heap.objs.size+1:=jl ..
 refine lg ⟨jx gA _,?_⟩
 refine gP gD ?_;rw[ax gA _]
 have st0:0=xs.size:=hn.symm
 show wpAny _ A.in1 (seqItems? (.ref (s.heap.push { cls:=.type "list_iterator",data:=.fields #[.ref l,.int 0 0] }).objs.size) >>= _) _ _ _;refine lq (iM (da _ rfl) rfl ?_)
 show wpAny _ A.in1 (tryCatch (pyNext (.ref s.heap.objs.size)) _ >>= _) _ _ _;refine lq (iK (W.done _ _ _ (by rw[<- st0];exact⟨⟨_,bQ _ (da _ rfl),rfl,rfl⟩,(hl.push _).push _⟩) λg tk kk=>?_))
 show wpAny _ A.in1 (rule "max.default" >>= _) _ _ _
 exact lq (k9 (lg (K g tk λb o e=>kk b o (by simp;exact kj (kI e)) (bQ _ (bQ _ e)))))
end
def qC (b:Int):List Int->Int
 | []=>b
 | x :: r=>qC (if b<x then x else b) r
def Az (d:Int):List Int->Int
 | []=>d
 | n :: r=>qC n r
def x8 (v w:FV):Option FV:=(oF v).bind λxs=>(nR xs).bind λns=>(pM w).bind λd=>some (.int (Az d ns))
theorem vm:∀ (xs:List Int) (b x:Int),qC b (xs++[x])=if qC b xs<x then x else qC b xs
 | [],b,x=>rfl
 | y :: ys,b,x=>by
  show qC (if b<y then y else b) (ys++[x])=_
  rw[vm ys];rfl
theorem xW (n:Int)(r:List Int):∀ k,k<=r.length->(n :: r)[argBest (λi j=>decide ((n :: r).getD j 0<(n :: r).getD i 0)) k]?=some (qC n (r.take k))
 | 0,_=>rfl
 | k+1,h=>by
  have ih:=xW n r k ⋯
  have hk:k<r.length:=h
  have e1:(n :: r).getD (argBest (λi j=>decide ((n :: r).getD j 0<(n :: r).getD i 0)) k) 0=qC n (r.take k):=by rw[aA,ih];rfl
  have e2:(n :: r).getD (k+1) 0=r[k]:=by simp[lP,hk]
  rw[ae hk,vm]
  simp only[argBest,e1,e2,decide_eq_true_eq]
  split
  ·simp[hk]
  ·exact ih
section
variable {X:Cx}
theorem Kd (hc:X.calm=true){Z9:List (mS×Obj)}{s:mn}{σ:L2.St}{S H:Hp}{x y:V}{u u':mF}{v w z:FV}{Q:VK}(I:Inv X Z9 σ H s)(r1:RelV x u)(r2:RelV y u')(hs:Same S H)(rv:RH X.K S H v x)(rw':RH X.K S H w y)(e:x8 v w=some z)(k:NewOr X.K S H Q z) :
  wpAny (model X.prog X.w) X.A (call (.builtin "max") [u] [(j9 "default",u')]) (EP X Z9 σ Q) X.xe s:=by
 obtain⟨ps,e1,e2⟩:=oz e
 obtain⟨ns,e3,e4⟩:=oz e2
 obtain⟨d,e5,e6⟩:=oz e4
 cases nL e5
 cases e6
 cases rw'.int
 obtain⟨td,rfl⟩:∃ t,u'=.int d t:=r2
 obtain⟨a,ys,rfl,hq,ry⟩:=rv.list hs e1
 cases (show u=Value.ref a from r1)
 obtain⟨Z7,r',pl,hz'⟩:=I.list hq
 have hh:X.A.in1.handled=none:=I.ok.hd hc
 have hlen:ys.length=Z7.length:=r'.length
 cases nY ry e3
 cases ns with
 | nil =>
  refine zN hh pl.isList (by simpa using hlen.symm) λh' tk hk=>?_
  exact⟨.int d,H,I.kept (t':=tk) hk,⟨td,rfl⟩,k.int⟩
 | cons n r =>
  have hl2:Z7.length=r.length+1:=by rw[<- hlen];simp
  have it:∀ (i:Nat)(v:mF),Z7.toArray[i]?=some v->∃ t,v=Value.int ((n :: r).getD i 0) t:=λi v hv=>by
   have hv:Z7[i]?=some v:=by simpa using hv
   have hi:=(aI.mp hv).1
   obtain⟨t,e⟩:=Vals.mapInt r' i (by simp;lia)
   rw[hv] at e
   exact⟨t,gX e⟩
  refine Cg (bt:=λi j=>decide ((n :: r).getD j 0<(n :: r).getD i 0)) hh pl.isList (by simp;lia) (λi j u v s1 Q1 E1 _ hi hj q1=>?_) λv h' tk hv hk=>?_
  ·obtain⟨t1,rfl⟩:=it i u hi
   obtain⟨t2,rfl⟩:=it j v hj
   exact PyProof.Rows.gt_int q1
  ·have hv:Z7[argBest (λi j=>decide ((n :: r).getD j 0<(n :: r).getD i 0)) (Z7.toArray.size-1)]?=some v:=by simpa using hv
   have hb:=xW n r r.length (kW _)
   rw[ga] at hb
   have hsz:Z7.toArray.size-1=r.length:=by simp;lia
   rw[hsz] at hv
   generalize argBest (λi j=>decide ((n :: r).getD j 0<(n :: r).getD i 0)) r.length=z at hv hb
   obtain⟨t,rfl⟩:=it z v (by simpa using hv)
   rw[aA,hb]
   exact⟨.int (qC n r),H,I.kept (t':=tk) hk,⟨t,rfl⟩,k.int⟩
variable {x:Str}{p pos kp:Pos}{e v:Expr}{t:TA}{tv:TE}{id:String}{kn:Str}{r:V->V->Hp->VK->Prop}
theorem BG (hc:∀ (Z9:List (mS×Obj))(s:mn)(σ:L2.St)(H:Hp)(x y:V)(u u':mF)(Q:VK),Inv X Z9 σ H s->RelV x u->RelV y u'->r x y H Q->wpAny (model X.prog X.w) X.A (call (.builtin id) [u] [(kn,u')]) (EP X Z9 σ Q) X.xe s)
  (hg:Gl X x)(hm:X.mg x=none)(hv:bootBuiltins x=some (.builtin id))(ha:PA X [e] t)(hd:PE X v tv)(hn:x≠"__name__")(hdb:(x == ("__debug__":Str))=false)(he:starEach [e] X.env=(false,eval e X.env) :: starEach [] X.env) :
  PE X (.Call (.Name x p) [e] [⟨some kn,v,kp⟩] pos) (λσ H Q=>t σ H λvs H1=>tv σ H1 λy H2=>∃ x,vs=[x]/\r x y H2 Q):=by
 intro Z9 s σ H Q I h
 refine dq (pH I hg hm hv ?_ hn hdb)
 refine PyProof.Rows.callWith_kw (nV (ha pos Z9 s σ H _ I h) λus s1 ⟨vs,H1,I1,r1,q1⟩=>PyProof.Rows.kws_cons (nV (hd Z9 s1 σ H1 _ I1 q1) λu' s2 ⟨y,H2,I2,r2,q2⟩=>PyProof.Rows.kws_nil ?_)) (by rw[he];rfl) (by rw[he];rfl) rfl rfl
 obtain⟨x,rfl,q⟩:=q2
 obtain⟨u,rfl,ru⟩:=vals1 r1
 exact hc Z9 s2 σ H2 x y u u' Q I2 ru r2 q
end
section
variable {X:Cx}{C:CC}{n:Nat}{sp:ke->Nat->Sp}{a b:Expr}{ea eb:EW}{pos p kp:Pos}
theorem N6 (G:Good X C n sp)(hg:C.gl (j9 "max")=true)(hs:nv a=false)(ha:FE X C a ea)(hb':FR X C b eb):FE X C (.Call (.Name (j9 "max") p) [a] [⟨some (j9 "default"),b,kp⟩] pos) (mX x8 ea eb) :=
 PE.imp (BG (r:=λx y H Q=>∃ S v w z,Same S H/\RH X.K S H v x/\RH X.K S H w y/\x8 v w=some z/\NewOr X.K S H Q z) (λZ9 s σ H x y u u' Q I r1 r2 q1=>by obtain⟨S,v,w,z,h1,h2,h3,h4,h5⟩:=q1;exact Kd (X:=X.nox) G.calm I r1 r2 h1 h2 h3 h4 h5) (G.gl hg) (G.blt "max" (by decide)) (by nofun) (nC ha n6 (m3 hs)) hb' (by nofun) (by nofun) (m3 hs)) λσ H Q q2=>by obtain⟨c,L,S,Q0,I,h,k⟩:=q2;exact
 ⟨c,L,S,_,I,h,λv L1 hv x S1 H1 r1 I1 s1=>⟨c,L1,S1,_,I1,hv,λw L2 hw y S2 H2 r2 I2 s2=>by
  obtain⟨z,e,q⟩:=oB hw
  exact⟨x,rfl,S2,v,w,z,I2.sub,.inl (r1.mono s2),r2,e,qS I2 λx S' H' r I' s'=>k z L2 q x S' H' r I' (s1.trans (s2.trans s'))⟩⟩⟩
end
section
variable (Q:FV->Prop)
@[scoped simp ↓] theorem Qa (v:FV) (d:Int):wp (x8 v (.int d)) Q↔wp (oF v) λxs=>wp (nR xs) λns=>Q (.int (Az d ns)):=by
 show wp ((oF v).bind _) Q↔_;simp only[o9];rfl
end
end Kq
namespace PySem
def KP (A:mC)(s:mn)(x y:mF)(b:Bool):Prop :=
 ∀ (prog:l8)(w:mD)(E:mF->mn->Prop)(Q:mF->mn->Prop),Q (.bool b) s->wpAny (model prog w) A (richCompare .Lt x y) Q E s
inductive LexAt (A:mC)(s:mn):List mF->List mF->Bool->Prop
 | nn:LexAt A s [] [] false
 | nc {y ys}:LexAt A s [] (y :: ys) true
 | cn {x xs}:LexAt A s (x :: xs) [] false
 | eq {x y xs ys r}:lE A s x y true->LexAt A s xs ys r->LexAt A s (x :: xs) (y :: ys) r
 | ne {x y xs ys r}:lE A s x y false->KP A s x y r->LexAt A s (x :: xs) (y :: ys) r
section
open PySem.SeqAt
open PySem.AutoSeq1 (wpAny_loadPart')
open PySem.MeetsSeq PySem.MeetsSeq2 PySem.MeetsSeq3
theorem wa (l b:mS)(items ZX:Array mF) (n n2:Nat)(dd dd2:Option mS)(sl sl2:Array (Option mF)) :
  mJ (mh.«tuple.__lt__» ⟨[.ref l,.ref b],[]⟩)
   (λA R s=>s.heap.get? l=some { cls:=.type "tuple",dict:=dd,data:=.seq items n,slots:=sl }/\s.heap.get? b=some { cls:=.type "tuple",dict:=dd2,data:=.seq ZX n2,slots:=sl2 } /\
    ∃ r,LexAt A.in1 s items.toList ZX.toList r/\R (.ok (.ret (.bool r))) s) :=
 .of_wp λprog w A R s h=>by
  obtain⟨hp,g,d,tk,os⟩:=s;obtain⟨hl,hb,r,hlex,h⟩:=h
  have f2:=bd
  wp_walk using gJ hl,gJ hb,fN _ (λrest b s'=>b.1=none/\s'=⟨hp,g,d,tk,os⟩/\∃ (vs ws:List mF),rest=vs.zip ws /\
   LexAt A.in1 ⟨hp,g,d,tk,os⟩ vs ws r/\vs.length+ZX.size=ws.length+items.size) _
  case turn =>
   rintro⟨y,x⟩ rest b s' ⟨hb',rfl,vs,ws,hz,hlx,hlen⟩
   cases hlx with
   | nn=>cases hz
   | nc=>cases hz
   | cn=>rw[dJ] at hz;cases hz
   | eq he hr =>
    rw[dL] at hz
    injection hz with hyx hrest
    injection hyx with hy hx
    subst hy hx
    simp only[gm] at hlen
    refine lq (he prog w _ _ ?_)
    wp_walk
    exact⟨rfl,rfl,_,_,hrest,hr,by lia⟩
   | ne he hr =>
    rw[dL] at hz
    injection hz with hyx hrest
    injection hyx with hy hx
    subst hy hx
    refine lq (he prog w _ _ ?_)
    have hri:=hr prog w
    wp_walk using hri
    exact⟨_,rfl,by simpa using h⟩
  case fin =>
   rintro⟨b1,b2⟩ s' ⟨hb',rfl,vs,ws,hz,hlx,hlen⟩
   simp only at hb'
   subst hb'
   have hv:r=decide (items.size<ZX.size):=by
    cases hlx with
    | nn=>simp only[ip] at hlen;exact (decide_eq_false ⋯).symm
    | nc=>simp only[ip,gm] at hlen;exact (decide_eq_true ⋯).symm
    | cn=>simp only[ip,gm] at hlen;exact (decide_eq_false ⋯).symm
    | eq=>rw[dL] at hz;cases hz
    | ne=>rw[dL] at hz;cases hz
   rw[hv] at h
   wp_walk
   exact⟨_,rfl,by simpa[ag] using h⟩
  case h =>
   exact⟨rfl,rfl,items.toList,ZX.toList,rfl,hlex,by simp;lia⟩
end
theorem Dz {A:mC}{s:mn}{l b:mS}{o o2:Obj}{items ZX:Array mF}{n n2:Nat}{r:Bool}(h1:s.heap.get? l=some o)(h2:o.cls=.type "tuple")(h3:o.data=.seq items n)(g1:s.heap.get? b=some o2)(g2:o2.cls=.type "tuple")(g3:o2.data=.seq ZX n2)
  (hlex:LexAt A.in1 s items.toList ZX.toList r)(hu:A.units<cLine):KP A s (.ref l) (.ref b) r:=by
 intro prog w E Q h
 obtain⟨cls,dd,data,sl⟩:=o
 obtain⟨cls2,dd2,data2,sl2⟩:=o2
 simp only at h2 h3 g2 g3
 subst h2 h3 g2 g3
 exact bD (op:=.Lt) ⟨_,h1,rfl⟩ ⟨_,g1,rfl⟩ bW bH (bm _ _) (wa l b items ZX n n2 dd dd2 sl sl2)
  ⟨h1,g1,r,hlex,show Value.bool r≠Value.notImplemented/\Q (.bool r) s from ⟨(λx=>nomatch x),h⟩⟩ hu
end PySem
namespace Kq
open PySem PySem.Spec PyProof.Rows L2
def strLt (a b:String):Bool:=decide ((j9 a).cps.toList<(j9 b).cps.toList)
mutual
noncomputable def Dy:D->D->Option Bool
 | .int a,y=>match y with|.int b=>some (decide (a<b))|_=>none
 | .str a,y=>match y with|.str b=>some (strLt a b)|_=>none
 | .tup a,y=>match y with|.tup b=>ltDs a b|_=>none
 | .non,_=>none|.bl _,_=>none|.lst _,_=>none
noncomputable def ltDs:List D->List D->Option Bool
 | [],[]=>some false
 | [],_ :: _=>some true
 | _ :: _,[]=>some false
 | a :: r,b :: q=>if D.eqv a b=true then ltDs r q else Dy a b
end
mutual
theorem DA:∀ (x y:D)(A:mC)(s:mn)(v u:mF)(as bs:List mS)(r:Bool),mH s.heap v (qh x) as->mH s.heap u (qh y) bs->Dy x y=some r->A.units+(qh x).depth<cLine->KP A s v u r
 | .int a,y,A,s,v,u,as,bs,r,h1,h2,e,hu=>by
  cases y with
  | int b =>
   cases e
   simp only[qh] at h1 h2
   cases h1;cases h2
   exact λprog w E Q h=>cX h
  | _=>cases e
 | .str a,y,A,s,v,u,as,bs,r,h1,h2,e,hu=>by
  cases y with
  | str b =>
   cases e
   simp only[qh] at h1 h2
   cases h1;cases h2
   exact λprog w E Q h=>PySem.P.lt_str h
  | _=>cases e
 | .tup xs,y,A,s,v,u,as,bs,r,h1,h2,e,hu=>by
  cases y with
  | tup ys =>
   simp only[qh] at h1 h2
   simp only[qh,kh] at hu
   cases h1 with
   | tuple a1 a2 a3 a4 =>
    cases h2 with
    | tuple b1 b2 b3 b4 =>
     exact Dz a1 a2 a3 b1 b2 b3 (lexAt_D xs ys A.in1 s _ _ _ _ r a4 b4 e (by show A.units+1+_<_;lia)) ⋯
  | _=>cases e
 | .non,y,A,s,v,u,as,bs,r,h1,h2,e,hu=>by cases y<;>cases e
 | .bl _,y,A,s,v,u,as,bs,r,h1,h2,e,hu=>by cases y<;>cases e
 | .lst _,y,A,s,v,u,as,bs,r,h1,h2,e,hu=>by cases y<;>cases e
theorem lexAt_D:∀ (xs ys:List D)(A:mC)(s:mn)(vs us:List mF)(as bs:List mS)(r:Bool),lV s.heap vs (dPys xs) as->lV s.heap us (dPys ys) bs->ltDs xs ys=some r->A.units+gU (dPys xs)<cLine->LexAt A s vs us r
 | [],[],A,s,vs,us,as,bs,r,h1,h2,e,hu=>by cases h1;cases h2;cases e;exact .nn
 | [],y :: ys,A,s,vs,us,as,bs,r,h1,h2,e,hu=>by cases h1;cases h2;cases e;exact .nc
 | x :: xs,[],A,s,vs,us,as,bs,r,h1,h2,e,hu=>by cases h1;cases h2;cases e;exact .cn
 | x :: xs,y :: ys,A,s,vs,us,as,bs,r,h1,h2,e,hu=>by
  simp only[dPys] at h1 h2
  simp only[dPys,gU] at hu
  cases h1 with
  | cons a1 a2 =>
   cases h2 with
   | cons b1 b2 =>
    have he:=PySem.SeqAt.eqAt_reads _ _ A s _ _ _ _ a1 b1 (qF x) (qF y) ⋯
    rw[yC] at he
    replace e:(if D.eqv x y=true then ltDs xs ys else Dy x y)=some r:=e
    split at e
    ·rename_i hq
     rw[hq] at he
     exact .eq he (lexAt_D xs ys A s _ _ _ _ r a2 b2 e ⋯)
    ·rename_i hq
     have hq:D.eqv x y=false:=by simpa using hq
     rw[hq] at he
     exact .ne he (DA x y A s _ _ _ _ r a1 b1 e ⋯)
end
end Kq
namespace Kq
open PySem PySem.Spec PyProof.Rows L2
theorem ya {α β:Type}{f:α->Option β}:∀ {xs:List α}{ys:List β},pN f xs=some ys->∀ (i:Nat)(x:α),xs[i]?=some x->∃ y,ys[i]?=some y/\f x=some y
 | [],ys,h,i,x,e=>by simp at e
 | a :: r,ys,h,i,x,e=>by
  obtain⟨b,h1,h2⟩:=oz h
  obtain⟨q,h3,rfl⟩:=rE h2
  cases i with
  | zero=>simp at e;subst e;exact⟨b,rfl,h1⟩
  | succ i=>exact ya h3 i x (by simpa using e)
def Er (ds:List D) (i j:Nat):Bool:=(Dy (ds.getD i .non) (ds.getD j .non)).getD false
open Classical in
def vn (v:FV):Option FV:=(oF v).bind λxs=>(pN (fD nB) xs).bind λds =>
 if 0<ds.length/\(∀ x∈ds,∀ y∈ds,(Dy x y).isSome=true)/\∀ ps,xs[argBest (Er ds) (ds.length-1)]?≠some (.lst ps) then xs[argBest (Er ds) (ds.length-1)]? else none
section
variable {X:Cx}
theorem Kb (hc:X.calm=true)(hu:X.A.units+64<cLine):nO X (.builtin "min") (Rc X.K vn):=by
 rintro Z9 s σ H xs us Q I r ⟨S,v,x,z,rfl,hs,rv,e,k⟩
 obtain⟨qs,e1,e2⟩:=oz e
 obtain⟨ds,e3,e4⟩:=oz e2
 obtain⟨⟨hpos,hall,hnl⟩,e5⟩:(0<ds.length/\(∀ x∈ds,∀ y∈ds,(Dy x y).isSome=true)/\∀ ps,qs[argBest (Er ds) (ds.length-1)]?≠some (.lst ps))/\qs[argBest (Er ds) (ds.length-1)]?=some z:=by
  split at e4
  ·rename_i h;exact⟨h,e4⟩
  ·cases e4
 obtain⟨a,ys,rfl,hq,ry⟩:=rv.list hs e1
 obtain⟨u,rfl,ru⟩:=vals1 r
 cases (show u=Value.ref a from ru)
 obtain⟨Z7,r',pl,hz'⟩:=I.list hq
 have hh:X.A.in1.handled=none:=I.ok.hd hc
 have hlen:ys.length=Z7.length:=r'.length
 have hql:=ry.length
 have hdl:=x9 e3
 have hl2:Z7.length=ds.length:=by rw[<- hlen,<- hql,hdl]
 have it:∀ (i:Nat)(v:mF),Z7.toArray[i]?=some v->∃ (p:FV)(y:V)(d:D),qs[i]?=some p/\ds[i]?=some d/\fD nB p=some d/\RV X.K S p y/\RelV y v:=λi v hv=>by
  have hv:Z7[i]?=some v:=by simpa using hv
  have hi:=(aI.mp hv).1
  have hi':i<qs.length:=by lia
  obtain⟨d,f3,f4⟩:=ya e3 i qs[i] (aX hi')
  obtain⟨y,f1,f2⟩:=ry.get (i:=i) (aX hi')
  obtain⟨u,g1,g2⟩:=r'.get f1
  rw[hv] at g1;cases g1
  exact⟨_,y,d,aX hi',f3,f4,f2,g2⟩
 refine uK (bt:=Er ds) hh pl.isList (by simp;lia) (λi j u v s1 Q1 E1 kp hi hj q1=>?_) λv h' tk hv hk=>?_
 ·obtain⟨p1,y1,d1,a1,a2,a3,a4,a5⟩:=it i u hi
  obtain⟨p2,y2,d2,b1,b2,b3,b4,b5⟩:=it j v hj
  obtain⟨as,ra⟩:=pT I hs (.inl a4) a5 a3
  obtain⟨bs,rb⟩:=pT I hs (.inl b4) b5 b3
  have hk:∀ b o,s.heap.get? b=some o->s1.heap.get? b=some o:=λb o e=>kp b o (kI e) e
  have hcmp:=hall d1 (cG a2) d2 (cG b2)
  cases hr:Dy d1 d2 with
  | none=>rw[hr] at hcmp;cases hcmp
  | some c =>
   have hb:Er ds i j=c:=by simp only[Er,aA,a2,b2,fW,hr]
   rw[hb] at q1
   have hd:=qX a3
   unfold nB at hd
   exact DA d1 d2 X.A.in1 s1 u v as bs c (aT hk ra) (aT hk rb) hr (by show X.A.units+1+_<_;lia) X.prog X.w _ _ q1
 ·have hv:Z7[argBest (Er ds) (Z7.toArray.size-1)]?=some v:=by simpa using hv
  have hsz:Z7.toArray.size-1=ds.length-1:=by simp;lia
  rw[hsz] at hv
  obtain⟨p,y,d,a1,a2,a3,a4,a5⟩:=it _ v (by simpa using hv)
  rw[e5] at a1;cases a1
  exact⟨y,H,I.kept (t':=tk) hk,a5,k.old _ (λps hz=>hnl ps (by rw[e5,hz])) a4⟩
end
section
variable {X:Cx}{C:CC}{n:Nat}{sp:ke->Nat->Sp}{a:Expr}{ea:EW}{pos p:Pos}
theorem N4 (G:Good X C n sp)(hg:C.gl (j9 "min")=true)(hs:nv a=false)(ha:FR X C a ea):FE X C (.Call (.Name (j9 "min") p) [a] [] pos) (nE vn ea):=uy (Kb G.calm G.room.units) G (by decide) (by nofun) (by nofun) (by nofun) hg hs ha
end
def nX {α:Type}(lt:α->α->Bool):α->List α->α
 | b,[]=>b
 | b,x :: r=>nX lt (if lt x b=true then x else b) r
theorem sT {α:Type}(lt:α->α->Bool):∀ (xs:List α)(b x:α),nX lt b (xs++[x])=if lt x (nX lt b xs)=true then x else nX lt b xs
 | [],b,x=>rfl
 | y :: ys,b,x=>by
  show nX lt (if lt y b=true then y else b) (ys++[x])=_
  rw[sT lt ys];rfl
theorem ui {α:Type}(lt:α->α->Bool)(bt:Nat->Nat->Bool)(n:α)(r:List α)(h:∀ i j x y,(n :: r)[i]?=some x->(n :: r)[j]?=some y->bt i j=lt x y):∀ k,k<=r.length->(n :: r)[argBest bt k]?=some (nX lt n (r.take k))
 | 0,_=>rfl
 | k+1,hk=>by
  have ih:=ui lt bt n r h k ⋯
  have hk:k<r.length:=hk
  have e2:(n :: r)[k+1]?=some r[k]:=by simp[hk]
  rw[ae hk,sT]
  simp only[argBest,h (k+1) (argBest bt k) _ _ e2 ih]
  split
  ·exact e2
  ·exact ih
theorem FP {α:Type}(enc:α->FV)(encD:α->D)(lt:α->α->Bool)(h1:∀ a,fD nB (enc a)=some (encD a))(h2:∀ a b,Dy (encD a) (encD b)=some (lt a b))(h3:∀ a ps,enc a≠.lst ps)(n:α)(r:List α)(Q:FV->Prop):wp (vn (.lst ((n :: r).map enc))) Q↔Q (enc (nX lt n r)):=by
 have hm:∀ xs:List α,pN (fD nB) (xs.map enc)=some (xs.map encD):=by
  intro xs
  induction xs with
  | nil=>rfl
  | cons x r ih=>rw[jQ,jQ,show pN (fD nB) (enc x :: r.map enc)=(fD nB (enc x)).bind λy=>(pN (fD nB) (r.map enc)).map (y :: ·) from rfl,h1,ih];rfl
 have hb:∀ i j x y,(n :: r)[i]?=some x->(n :: r)[j]?=some y->Er ((n :: r).map encD) i j=lt x y:=λi j x y hx hy=>by
  simp only[Er,aA,fx,hx,hy,gY,fW,h2]
 have ha:=ui lt _ n r hb r.length (kW _)
 rw[ga] at ha
 have hx:((n :: r).map enc)[argBest (Er ((n :: r).map encD)) (((n :: r).map encD).length-1)]?=some (enc (nX lt n r)):=by
  rw[iq,gm,dI,fx,ha];rfl
 have he:vn (.lst ((n :: r).map enc))=some (enc (nX lt n r)):=by
  show ((some ((n :: r).map enc)).bind λxs=>(pN (fD nB) xs).bind _)=_
  rw[fY,hm,fY,if_pos,hx]
  refine⟨by simp,?_,?_⟩
  ·intro x hx y hy
   obtain⟨a,-,rfl⟩:=kC.mp hx
   obtain⟨b,-,rfl⟩:=kC.mp hy
   rw[h2];rfl
  ·intro ps z
   rw[hx] at z
   exact h3 _ ps (gX z)
 rw[he];exact mf
def oW {κ α:Type} [DecidableEq κ] (ks:List κ)(vs:List α)(k:κ)(v:α):List κ×List α :=
 if k∈ks then (ks,kB (λk' v'=>if k'=k then v else v') ks vs) else (ks++[k],vs++[v])
def o6 {κ α:Type} [DecidableEq κ]:List κ->List α->κ->Option α
 | k' :: ks,v :: vs,k=>if k'=k then some v else o6 ks vs k
 | _,_,_=>none
theorem AJ {a b:List Int}(h:a.map (Sum.inl:Int->Int ⊕ Option Str)=b.map Sum.inl):a=b:=by
 induction a generalizing b with
 | nil=>cases b with|nil=>rfl|cons=>cases h
 | cons x r ih=>cases b with
  | nil=>cases h
  | cons y q =>
   simp only[jQ,iz,Sum.inl.injEq] at h
   rw[h.1,ih h.2]
theorem wS:∀ (ks:List (List Int))(us:List V)(k:List Int),rD ((oA ks).zip us) (k.map Sum.inl)=o6 ks us k
 | [],us,k=>by cases us<;>rfl
 | k' :: ks,[],k=>rfl
 | k' :: ks,u :: us,k=>by
  show rD ((k'.map Sum.inl,u) :: (oA ks).zip us) (k.map Sum.inl)=if k'=k then some u else o6 ks us k
  by_cases e:k'=k
  ·subst e;rw[qJ rfl,if_pos rfl]
  ·rw[qK λz=>e (AJ z),if_neg e];exact wS ks us k
theorem qW {κ α:Type} [DecidableEq κ]:∀ {ks:List κ}{vs:List α}(k:κ),ks.length=vs.length->((o6 ks vs k).isSome=true↔k∈ks)
 | [],vs,k,h=>⟨λz=>gE (show false=true from z),λz=>nomatch z⟩
 | k' :: ks,[],k,h=>by simp at h
 | k' :: ks,v :: vs,k,h=>by
  show (if k'=k then some v else o6 ks vs k).isSome=true↔_
  by_cases e:k'=k
  ·simp[e]
  ·simp only[e,if_false,jN,ma e,false_or]
   rw[qW k (by simpa using h)]
theorem Al (ks:List (List Int))(us:List V)(k:List Int)(u:V)(hl:ks.length=us.length):qG ((oA ks).zip us) (k.map Sum.inl) u=(oA (oW ks us k u).1).zip (oW ks us k u).2:=by
 have hany:(((oA ks).zip us).any λkv=>decide (kv.1=k.map Sum.inl))=true↔k∈ks:=by
  rw[rY,wS,qW k hl]
 unfold qG oW
 by_cases e:k∈ks
 ·rw[if_pos (hany.mpr e),if_pos e]
  clear e hany
  induction ks generalizing us with
  | nil=>cases us<;>rfl
  | cons k' ks ih=>cases us with
   | nil=>rfl
   | cons u' us =>
    have:=ih us (by simpa using hl)
    show (if k'.map Sum.inl=k.map Sum.inl then (k'.map Sum.inl,u) else (k'.map Sum.inl,u')) :: ((oA ks).zip us).map _=(k'.map Sum.inl,if k'=k then u else u') :: (oA ks).zip _
    rw[this]
    congr 1
    by_cases e:k'=k
    ·subst e;simp
    ·rw[if_neg λz=>e (AJ z),if_neg e]
 ·rw[if_neg λz=>e (hany.mp z),if_neg e]
  show _=(oA (ks++[k])).zip (us++[u])
  have:oA (ks++[k])=oA ks++[k.map Sum.inl]:=by simp[oA]
  rw[this,hZ (by simpa[oA] using hl)];rfl
theorem qP {κ α:Type} [DecidableEq κ] (ks:List κ)(vs:List α)(k:κ)(v:α)(h:ks.length=vs.length):(oW ks vs k v).1.length=(oW ks vs k v).2.length/\(oW ks vs k v).1.length<=ks.length+1:=by
 unfold oW
 split
 ·simp[h]
 ·simp[h]
section
variable {K:ke}{S H:Hp}
theorem Am {κ:Type} [DecidableEq κ] {k:κ}{v:FV}{u:V}(r2:RV K S v u):∀ {ks:List κ}{vs:List FV}{us:List V},RVs K S vs us->RVs K S (kB (λk' v'=>if k'=k then v else v') ks vs) (kB (λk' v'=>if k'=k then u else v') ks us)
 | [],vs,us,_=>rfl
 | k' :: ks,[],us,r=>by cases (show us=[] from r);rfl
 | k' :: ks,p :: vs,us,q1=>by
  obtain⟨x,q,e,h1,h2⟩:=q1
  subst e
  refine⟨_,_,rfl,?_,Am r2 h2⟩
  by_cases e:k'=k
  ·simp only[e,if_true];exact r2
  ·simp only[e,if_false];exact h1
theorem tU {κ:Type} [DecidableEq κ] {ks:List κ}{vs:List FV}{us:List V}{k:κ}{v:FV}{u:V}(r:RVs K S vs us)(r2:RV K S v u):(oW ks vs k v).1=(oW ks us k u).1/\RVs K S (oW ks vs k v).2 (oW ks us k u).2:=by
 unfold oW
 split
 ·exact⟨rfl,Am r2 r⟩
 ·exact⟨rfl,r.append (RVs.one r2)⟩
theorem ut {κ:Type} [DecidableEq κ]:∀ {ks:List κ}{vs:List FV}{us:List V}{k:κ}{v:FV},RVs K S vs us->o6 ks vs k=some v->∃ u,o6 ks us k=some u/\RV K S v u
 | [],vs,us,k,v,r,e=>by cases (show none=some v from e)
 | k' :: ks,[],us,k,v,r,e=>by cases (show none=some v from e)
 | k' :: ks,p :: vs,us,k,v,q1,e=>by
  obtain⟨x,q,e',h1,h2⟩:=q1
  subst e'
  replace e:(if k'=k then some p else o6 ks vs k)=some v:=e
  show ∃ u,(if k'=k then some x else o6 ks q k)=some u/\_
  by_cases e0:k'=k
  ·rw[if_pos e0] at e ⊢;cases e;exact⟨x,rfl,h1⟩
  ·rw[if_neg e0] at e ⊢;exact ut h2 e
theorem zu {ps:List FV}{k:List Int}{x:V}(r:RV K S (.tup ps) x)(e:nR ps=some k):∃ b,x=.ref b/\S b=some (.tup ((k.map (Sum.inl:Int->Int ⊕ Option Str)).map kV)):=by
 obtain⟨b,xs,rfl,h1,h2⟩:=r
 refine⟨b,rfl,?_⟩
 rw[h1,nY h2 e,kG];rfl
variable {c:Cn}{md:Md}{L:mV}{σ:L2.St}
theorem FJ {q:mS}{ks:List (List Int)}{vs:List FV}{us:List V}(I:Iv K c md L σ S H)(h1:S q=none)(h2:H q=some (.dT ((oA ks).zip us)))(hl:ks.length=vs.length)(h3:RVs K S vs us)(fr:so c md L σ q):∃ u,H q=some u/\Iv K c md L σ (n5 S q u) H/\RV K (n5 S q u) (.dct ks vs) (.ref q):=by
 have s:=nH (o:=.dT ((oA ks).zip us)) h1
 refine⟨_,h2,⟨I.len,λi v h e=>let ⟨x,e1,r⟩:=I.imm i v h e;⟨x,e1,r.mono s⟩,λi v h e=>?_,I.dis,λa u e=>?_,I.frame,I.s0.trans s,λa u e=>?_,I.lent,I.fzs,I.fzm,I.fzp,λp hp=>let ⟨g1,g2,g3⟩:=I.prs p hp;⟨g1,by rw[m9 (fr.2.1 p hp)];exact g2,g3⟩,I.ntp,I.lnt1,I.tie⟩,q,us,rfl,hl,nz,h3.mono s⟩
 ·obtain⟨b,e1,⟨g1,rs,zs,g2,g3,g4⟩,g5⟩:=I.own i v h e
  have hb:b≠q:=λz=>by subst z;exact fr.2.2 i v h e e1
  exact⟨b,e1,⟨by rw[m9 hb];exact g1,rs,zs,g2,g3,g4.mono s⟩,g5⟩
 ·by_cases z:a=q
  ·subst z;rw[nz] at e;cases e;exact h2
  ·rw[m9 z] at e;exact I.sub a u e
 ·by_cases z:a=q
  ·subst z;exact .inr (.inl fr.1)
  ·rw[m9 z] at e;exact I.grow a u e
end
def q0 (n m:Nat)(tg:Tg)(t:BW)(ek ev:EW):List FV->List (List Int)->List FV->mV->(List (List Int)->List FV->mV->Prop)->Prop
 | [],ks,vs,L,Q=>Q ks vs L
 | x :: xs,ks,vs,L,Q=>gW tg x (L++jc m none) λL1=>t L1 λb L2=>if b=true then ek L2 λkx L3=>wp (qL kx) λps=>wp (nR ps) λk=>ev L3 λv L4=>q0 n m tg t ek ev xs (oW ks vs k v).1 (oW ks vs k v).2 (L4.take n) Q else q0 n m tg t ek ev xs ks vs (L2.take n) Q
def zH (n m:Nat)(it:AW)(tg:Tg)(t:BW)(ek ev:EW):EW:=λL Q=>it L λxs L1=>L1.length=n/\xs.length<=big/\q0 n m tg t ek ev xs [] [] L1 λks vs L2=>Q (.dct ks vs) L2
section
variable {K:ke}{c:Cn}{md:Md}{L:mV}{σ:L2.St}{S H:Hp}
theorem Cd {J:It}{xs:List FV}{n m:Nat}{tg:Tg}{t:BW}{ek ev:EW}{Q:VK}{Q1:List (List Int)->List FV->mV->Prop}(I:Iv K c md L σ S H)(hJ:EK K c md J xs S)(hL:L.length=n)(hmd:md.length<=n)(ht:qA md tg=true)(hg:xu n tg=true)(hb:xs.length<=big)(h:q0 n m tg t ek ev xs [] [] L Q1)
  (k:∀ Z8 ks vs us L' S' H',H Z8=none->Q1 ks vs L'->S' Z8=none->H' Z8=some (.dT ((oA ks).zip us))->ks.length=vs.length->RVs K S' vs us->so c md L' σ Z8->Iv K c md L' σ S' H'->Same S S'->Q (.ref Z8) H') :
  ∀ Z8,H Z8=none->∃ W:Nat->Nat->Hp->Prop,(∃ m,W 0 m (n5 H Z8 (.dT [])))/\∀ i j H,W i j H ->
   (J.stop i H/\Q (.ref Z8) H) ∨ (J.go i H/\∀ x H',J.yld i H x H'->gT K tg x (σ++jc m none) H' λσ2 H2=>Wk (σ++jc m none) σ2/\lb K md t σ2 H2 λb H3 =>
    if b=true then Qf (lv K md ek) (lv K md ev) Z8 σ2 H3 λH4=>∃ m',m'<j/\W (i+1) m' H4 else ∃ m',m'<j/\W (i+1) m' H3):=by
 intro Z8 hacc
 have h0:=I.h0 hacc
 have hp:∀ p∈c.pr,p.1≠Z8:=(I.fresh hacc).2.1
 have hz:=I.fzp
 have hbl:=oj
 refine vM (α:=List (List Int)×List FV) (β:=List (List Int)×List V) (fr:=λb=>{ c with pr:=(Z8,.dT ((oA b.1).zip b.2)) :: c.pr }) (P:=λa b S=>a.1=b.1/\a.1.length=a.2.length/\RVs K S a.2 b.2) (N:=λa=>a.1.length) (Cm:=λxs a L=>q0 n m tg t ek ev xs a.1 a.2 L Q1) (em:=λa L3 K'=>ek L3 λkx L4=>wp (qL kx) λps=>wp (nR ps) λk=>ev L4 λv L5=>K' (oW a.1 a.2 k v) L5) (a0:=([],[])) (b0:=([],[])) ((I.lay hacc _).prot nz (I.sn hacc) λj w hm hj=>(I.fresh hacc).2.2 j w (Mo.w_imm hm) hj) hJ hL hmd ht hg ⟨rfl,rfl,rfl⟩ rfl h (λ_ _ _ _ _ _ I _=>I.unprot hz) (λ_ _ _ _ ⟨e,l,r⟩ s=>⟨e,l,r.mono s⟩) (λ_ _ _ _ h=>h) (λ⟨ks,vs⟩ ⟨ks',us⟩ L3 σ2 S3 H3 K' Z hn I3 ⟨e,hkl,r⟩ hv kz=>?_) λ⟨ks,vs⟩ ⟨ks',us⟩ L' S' H' q I' ⟨e,hkl,r⟩ s'=>?_
 ·cases (show ks=ks' from e)
  dsimp only at hn hkl r
  refine⟨_,L3,S3,_,I3,hv,λkx L4 hk u S4 H4 r4 I4 s4=>?_⟩
  obtain⟨ps,e1,hk1⟩:=oB hk
  obtain⟨kk,e2,hk2⟩:=oB hk1
  cases pd e1
  obtain⟨b,rfl,hb4⟩:=zu r4 e2
  refine⟨_,L4,S4,_,I4,hk2,λv L5 hv u S5 H5 r5 I5 s5=>?_⟩
  have lr:=r.length
  obtain⟨pe,pr⟩:=tU (ks:=ks) (k:=kk) (r.mono (s4.trans s5)) r5
  obtain⟨pl1,pl2⟩:=qP ks vs kk v hkl
  refine⟨_,kk.map Sum.inl,b,(I5.prs (Z8,_) dQ).1,rfl,I5.sub _ _ (s5 _ _ hb4),by rw[List.length_zip,show (oA ks).length=ks.length by simp[oA]];lia,?_⟩
  rw[Al ks us kk u ⋯]
  exact kz _ (oW ks us kk u) L5 S5 _ hv (I5.regrow h0 hp hz) ⟨pe,pl1,pr⟩ (s4.trans s5) pl2
 ·cases (show ks=ks' from e)
  obtain⟨g1,g2,f⟩:=I'.newPr h0 hp hz
  exact k Z8 ks vs us L' S' H' hacc q g2 g1 hkl r f (I'.unprot hz) s'
end
section
variable {X:Cx}{C:CC}{n:Nat}{sp:ke->Nat->Sp}{pos:Pos}{scope:mG}{own:List Str}{kx vx ZY Z5:Expr}{Z4:List Expr}{it:AW}{tg:Tg}{t:BW}{ek ev:EW}{nn m:Nat}{md':Md}
theorem D5 (G:Good X C n sp)(h:CompOk X C n sp scope own kx ZY Z5 Z4 nn m md' it tg t ek)(hv:∀ X',Good X' (C.sub scope own md') n sp->FE X' (C.sub scope own md') vx ev):FE X C (.DictComp kx vx [⟨ZY,Z5,Z4,0⟩] scope pos) (zH nn m it tg t ek ev):=by
 have h0:=b2 h.st;have h1:=b2 h0.1;have h2:=b2 h1.1;have h3:=b2 h2.1;have h4:=b2 h3.1;have h5:=b2 h4.1;have h6:=b2 h5.1
 obtain⟨s1,s2⟩:=G.sub h6.1 md'
 have hu:X.A.units+1<cLine:=by have:=G.room.units;lia
 have blk:∀ fp D s H,PG (rT X scope own fp D s H) ZY (gT X.K tg)/\PTs (rT X scope own fp D s H) Z4 (lb X.K md' t)/\PE (rT X scope own fp D s H) kx (lv X.K md' ek)/\PE (rT X scope own fp D s H) vx (lv X.K md' ev):=λfp D s H=>⟨h.tg _ (s2 fp D s H),h.ts _ (s2 fp D s H),h.el _ (s2 fp D s H),hv _ (s2 fp D s H)⟩
 refine PE.imp (Dl (X:=X) hu G.calm s1 h.it blk (zy (nb h0.2))) λσ H Q q1=>?_;obtain⟨c,L,S,Q0,I,hh,k⟩:=q1
 refine⟨c,L,S,_,I,hh,λxs L1 hx J c' S1 H1 I1 un e0 hJ s1=>?_⟩
 obtain⟨hl,hb,hc⟩:=hx
 rw[de h5.2]
 refine Cd I1 hJ hl (de h4.2) h2.2 h1.2 hb hc λZ8 ks vs us L' S' H' hn q g1 g2 g3 g4 fr I' s'=>?_
 obtain⟨u,hu,I2,r⟩:=FJ (un _ _ _ _ I') g1 g2 g3 g4 ⟨by rw[<- e0];exact fr.1,((un _ _ _ _ I1).fresh hn).2.1,λj w hm=>fr.2.2 j w (tF h3.2 j hm)⟩
 exact k _ L' q _ _ H' r I2 ((s1.trans s').trans (nH g1))
end
def B1 (a b:FV):Option FV:=match b with
 | .dct ks _=>(qL a).bind λps=>(nR ps).bind λk=>some (.bl (decide (k∈ks)))
 | .dci ks _=>(pM a).bind λk=>some (.bl (decide (k∈ks)))
 | b=>inB a b
def vK (v w:FV):Option FV:=match v with
 | .dct ks vs=>(qL w).bind λps=>(nR ps).bind λk=>o6 ks vs k
 | _=>none
section
variable {X:Cx}
theorem RH.dct {K:ke}{S H:Hp}{ks:List (List Int)}{vs:List FV}{y:V}(hs:Same S H)(rq:RH K S H (.dct ks vs) y):∃ a us,y=.ref a/\ks.length=vs.length/\H a=some (.dT ((oA ks).zip us))/\RVs K S vs us:=by
 rcases rq with⟨a,us,e,hl,h1,h2⟩|⟨a,e,_,ps,us,e9,h1,h2⟩
 ·exact⟨a,us,e,hl,hs _ _ h1,h2⟩
 ·obtain⟨hl,rfl⟩:=rn e9
  exact⟨a,us,e,hl,h1,h2⟩
theorem uB {S H:Hp}{ks:List (List Int)}{vs:List FV}{ps:List FV}{k:List Int}{x y:V}(hs:Same S H)(rp:RH X.K S H (.tup ps) x)(rq:RH X.K S H (.dct ks vs) y)(e:nR ps=some k):∃ a us,y=.ref a/\ks.length=us.length/\RVs X.K S vs us/\L2.DGet H a x (o6 ks us k):=by
 obtain⟨a,us,rfl,hl,h1,h2⟩:=rq.dct hs
 obtain⟨b,rfl,hb⟩:=zu (rp.val rfl) e
 refine⟨a,us,rfl,by rw[hl,h2.length],h2,?_⟩
 rw[<- wS]
 exact .t h1 (hs _ _ hb)
theorem ur:∀ (ks:List Int)(us:List V) (k:Int),rD ((pQ ks).zip us) (Sum.inl k)=o6 ks us k
 | [],us,k=>by cases us<;>rfl
 | k' :: ks,[],k=>rfl
 | k' :: ks,u :: us,k=>by
  show rD ((Sum.inl k',u) :: (pQ ks).zip us) (Sum.inl k)=if k'=k then some u else o6 ks us k
  by_cases e:k'=k
  ·subst e;rw[qJ rfl,if_pos rfl]
  ·rw[qK λz=>e (kR z),if_neg e];exact ur ks us k
theorem RH.dci {K:ke}{S H:Hp}{ks:List Int}{vs:List FV}{y:V}(hs:Same S H)(rq:RH K S H (.dci ks vs) y):∃ a us,y=.ref a/\ks.length=vs.length/\H a=some (.dK ((pQ ks).zip us))/\RVs K S vs us:=by
 rcases rq with⟨a,us,e,hl,h1,h2⟩|⟨a,e,_,ps,us,e9,h1,h2⟩
 ·exact⟨a,us,e,hl,hs _ _ h1,h2⟩
 ·obtain⟨hl,rfl⟩:=rn e9
  exact⟨a,us,e,hl,h1,h2⟩
theorem B9 {S H:Hp}{ks:List Int}{vs:List FV}{k:Int}{y:V}(hs:Same S H)(rq:RH X.K S H (.dci ks vs) y):∃ a us,y=.ref a/\ks.length=us.length/\RVs X.K S vs us/\L2.DGet H a (.int k) (o6 ks us k):=by
 obtain⟨a,us,rfl,hl,h1,h2⟩:=rq.dci hs
 refine⟨a,us,rfl,by rw[hl,h2.length],h2,?_⟩
 rw[<- ur]
 exact .k (k:=Sum.inl k) h1
theorem LK (hu:X.A.units+64<cLine):pD X (compareOp .In) (Rq X.K B1):=by
 intro Z9 s σ H x y v u Q I rx ry ⟨S,p,q,z,hs,rp,rq,e,k⟩
 cases q with
 | dct ks vs =>
  obtain⟨ps,e1,e2⟩:=oz e
  obtain⟨kk,e3,e4⟩:=oz e2
  cases pd e1
  cases e4
  obtain⟨a,us,rfl,hl,h2,g⟩:=uB hs rp rq e3
  cases (show u=Value.ref a from ry)
  refine MM ⋯ I g rx λs' I'=>⟨.bl _,H,I',rfl,?_⟩
  have:(o6 ks us kk).isSome=decide (kk∈ks):=by rw[iJ,qW kk hl];simp
  rw[this]
  exact k.bl
 | dci ks vs =>
  obtain⟨kk,e1,e4⟩:=oz e
  cases nL e1
  cases e4
  cases rp.int
  obtain⟨a,us,rfl,hl,h2,g⟩:=B9 (k:=kk) hs rq
  cases (show u=Value.ref a from ry)
  refine MM ⋯ I g rx λs' I'=>⟨.bl _,H,I',rfl,?_⟩
  have:(o6 ks us kk).isSome=decide (kk∈ks):=by rw[iJ,qW kk hl];simp
  rw[this]
  exact k.bl
 | _=>exact OX hu Z9 s σ H x y v u Q I rx ry ⟨S,p,_,z,hs,rp,rq,e,k⟩
end
theorem HI:qy B1:=by
 intro v w z e
 cases w with
 | dct ks vs =>
  obtain⟨ps,_,e⟩:=oz e
  obtain⟨k,_,e⟩:=oz e
  cases e;exact⟨_,rfl⟩
 | dci ks vs =>
  obtain⟨k,_,e⟩:=oz e
  cases e;exact⟨_,rfl⟩
 | _ =>
  obtain⟨b,_,rfl⟩:=rE (show (DW v _).map FV.bl=some z from e)
  exact⟨_,rfl⟩
section
variable {X:Cx}{C:CC}{n:Nat}{sp:ke->Nat->Sp}{a b:Expr}{ea eb:EW}{pos:Pos}
theorem P4 (G:Good X C n sp)(ha:FE X C a ea)(hb:FR X C b eb)(hm:behindInMarks .In b=false):FB X C (.Compare a [.In] [b] pos) (nk (mX B1 ea eb)):=sM HI (LK G.room.units) ha hb hm
variable {es:List Expr}{k:Nat}{p2:Pos}
theorem Oc (G:Good X C n sp)(ha:FE X C a ea)(hb:FE X C (.Tuple es k p2) eb):FE X C (.Subscript a (.Tuple es k p2) pos) (mX vK ea eb) :=
 PE.imp (As (X:=X.nox) (by have:=G.room.units;show X.A.units+1<cLine;lia) ha hb λ_ _=>rfl) λσ H Q q1=>by obtain⟨c,L,S,Q0,I,h,k⟩:=q1;exact
 ⟨c,L,S,_,I,h,λv L1 hv x S1 H1 r1 I1 s1=>⟨c,L1,S1,_,I1,hv,λw L2 hw y S2 H2 r2 I2 s2=>by
  obtain⟨z,e,q⟩:=oB hw
  cases v with
  | dct ks vs =>
   obtain⟨ps,e1,e2⟩:=oz e
   obtain⟨kk,e3,e4⟩:=oz e2
   cases pd e1
   obtain⟨a,us,rfl,hl,h2,g⟩:=uB (X:=X) I2.sub (.inl r2) (.inl (r1.mono s2)) e3
   obtain⟨u,e5,r5⟩:=ut h2 e4
   rw[e5] at g
   exact⟨a,u,rfl,g,k z L2 q u S2 H2 r5 I2 (s1.trans s2)⟩
  | _=>cases e⟩⟩
end
section
variable (Q:FV->Prop)
@[scoped simp ↓] theorem O0 (a:FV)(xs:List FV):wp (B1 a (.tup xs)) Q↔wp (DW a (.tup xs)) λr=>Q (.bl r):=oQ _ _ _
@[scoped simp ↓] theorem O1 (ps:List FV)(ks:List (List Int))(vs:List FV):wp (vK (.dct ks vs) (.tup ps)) Q↔wp (nR ps) λk=>wp (o6 ks vs k) Q:=by
 show wp ((nR ps).bind _) Q↔_;rw[o9]
@[scoped simp ↓] theorem O2 (Q:List Int->Prop):wp (nR []) Q=Q []:=propext mf
@[scoped simp ↓] theorem O3 (i:Int)(r:List FV)(Q:List Int->Prop):wp (nR (.int i :: r)) Q↔wp (nR r) λns=>Q (i :: ns):=by
 show wp ((nR r).map (i :: ·)) Q↔_;rw[oQ]
end
@[scoped simp ↓] theorem K1 (n m:Nat)(it:AW)(tg:Tg)(t:BW)(ek ev:EW)(L:mV)(Q:FV->mV->Prop):zH n m it tg t ek ev L Q=(it L λxs L1=>L1.length=n/\xs.length<=big/\q0 n m tg t ek ev xs [] [] L1 λks vs L2=>Q (.dct ks vs) L2):=propext mf
theorem vO {α:Type}{tg:Tg}{n m:Nat}{ek ev:EW}{f:α->FV}{g:α->List Int}{h:α->FV}{Q:List (List Int)->List FV->mV->Prop}{L:mV}:∀ (xs:List α)(ks:List (List Int))(vs:List FV),
  (∀ x∈xs,g x ∉ ks)->(xs.map g).Nodup ->
  (∀ x∈xs,∀ K:List Int->FV->mV->Prop,K (g x) (h x) L->gW tg (f x) (L++jc m none) λL1=>ek L1 λkx L3=>wp (qL kx) λps=>wp (nR ps) λk=>ev L3 λv L4=>K k v (L4.take n))->Q (ks++xs.map g) (vs++xs.map h) L->q0 n m tg nP ek ev (xs.map f) ks vs L Q
 | [],ks,vs,_,_,_,E=>by
  show Q ks vs L
  simpa using E
 | x :: xs,ks,vs,hn,hd,B,E=>by
  refine B x dQ (λk v L'=>q0 n m tg nP ek ev (xs.map f) (oW ks vs k v).1 (oW ks vs k v).2 L' Q) ?_
  have hk:=hn x dQ
  simp only[jQ,ig] at hd
  have e:oW ks vs (g x) (h x)=(ks++[g x],vs++[h x]):=by simp[oW,hk]
  rw[e]
  refine vO xs _ _ (λy hy hm=>?_) hd.2 (λy hy=>B y (cI _ hy)) (by simpa using E)
  rcases ik.mp hm with hm|hm
  ·exact hn y (cI _ hy) hm
  ·simp at hm
   exact hd.1 (by rw[<- hm];exact List.mem_map_of_mem hy)
end Kq
namespace PySem
theorem F.nolen_lri:typeLookup (.type "list_reverseiterator") "__len__" = pure none:=by rw[gM,bU];kernel_rfl
theorem F.slot_lri_hint:Slot "list_reverseiterator" "__length_hint__" "list_reverseiterator.__length_hint__" :=
 .of (owner:="list_reverseiterator") (n:="__length_hint__") (by rw[gM,bU];kernel_rfl) (by nofun) (by nofun) (by nofun)
  (by first|exact .inl (by decide +kernel)|exact .inr (by decide +kernel)) (by rw[iS];kernel_rfl)
section
variable {prog:l8}{w:mD}{A:mC}{E:mF->mn->Prop}{s:mn}
theorem yH {it l:mS}{items:Array mF}{Q:List mF->mn->Prop}(hh:A.handled=none)(hne:l≠it)(hit:s.heap.IsRevIter it l ((items.size:Int)-1))(hl:s.heap.IsList l items)(hz:items.size<=sizeLine)
  (hQ:∀ s' Z8,Moved [it] (λa b=>b=a) s s'->ItemsOf (λi v=>items[items.size-1-i]?=some v) Z8 items.size->Q Z8.toList s'):wpAny (model prog w) A (collect (.ref it)) Q E s:=by
 have W:=(Walks.listRev (prog:=prog) (w:=w) (A:=A.in1) (show A.in1.handled=none from hh) it l hne items).toS
 have l1:it<s.heap.objs.size:=by obtain⟨o,e,_⟩:=hit;exact kI e
 have l2:l<s.heap.objs.size:=by obtain⟨o,e,_⟩:=hl;exact kI e
 have hSf:s.heap.objs.size ∉ [it,l]:=λhm=>by
  simp only[jN,gc,or_false] at hm
  rcases hm with hm|hm
  ·exact jJ _ (hm ▸ l1)
  ·exact jJ _ (hm ▸ l2)
 have hSI:s.heap.objs.size≠it:=λe=>jJ _ (e ▸ l1)
 unfold collect
 refine lq (iN (gP F.entry_proto_collect ?_));rw[cS cq _]
 show wpAny _ A.in1 (newList [] >>= λZ8=>again (.builtin "list.__iadd__" ⟨[Z8,.ref it],[]⟩)) _ _ s
 refine lq (eO (lg ⟨jx fG _,gP F.entry_list_iadd ?_⟩));rw[cS fG _]
 generalize hs1:({ s with heap:=s.heap.push { cls:=.type "list",data:=.seq ([]:List mF).toArray } }:mn)=s1
 have k1:∀ b o,s.heap.get? b=some o->s1.heap.get? b=some o:=λb o e=>by rw[<- hs1];exact bQ _ e
 have it1:=hit.at λo e=>k1 it o e
 have li1:=hl.at λo e=>k1 l o e
 have S1:s1.heap.get? s.heap.objs.size=some { cls:=.type "list",data:=.seq ([]:List mF).toArray }:=by rw[<- hs1];exact da _ rfl
 have st1:0<=items.size/\s1.heap.IsRevIter it l ((items.size:Int)-1-((0:Nat):Int))/\s1.heap.IsList l items:=⟨kT _,by simpa using it1,li1⟩
 have ty1:s1.TypeIs (.ref it) "list_reverseiterator":=it1.typeIs
 have h1:bc (.ref s.heap.objs.size) (.ref it)=false:=by simp[bc,hSI]
 show wpAny _ A.in1 (ar (.ref s.heap.objs.size) (.ref it) (.ref s.heap.objs.size)) _ _ s1
 unfold ar
 refine lq (j0 ty1 ?_)
 rw[if_neg (by rw[h1];decide)]
 refine lq (W.self 0 s1 _ _ st1 (lq (jq ?_)))
 unfold aq
 refine lq (gH ty1 F.nolen_lri ?_)
 show wpAny _ A.in1 (specialOf (Value.ref it) (j9 "__length_hint__") >>= _) _ _ _
 refine lq (gH ty1 F.slot_lri_hint.lookup ?_)
 (generalize hid:("list_reverseiterator.__length_hint__":String)=id0;(fail_if_success (clear hid id0));wp_delta;rw[show splitId id0=some ("list_reverseiterator","__length_hint__") from by subst hid;nofun];subst hid)
 refine lq (fM (b:=true) ty1 (by rw[iS];kernel_rfl) ?_)
 refine lg ?_
 rw[if_neg (by decide)]
 refine lg ⟨jx dc _,cw W hz _ hSf _ items.size 0 _ _ _ rfl (kT _) st1 S1 (ItemsOf.nil _) λs' acc' c' hm hS' hacc=>?_⟩
 show wpAny _ A (load s.heap.objs.size >>= _) _ _ s'
 refine lq (lj hS' (lg (hQ s' acc' ?_ hacc)))
 subst hs1
 exact Moved.drop_new (o:={ cls:=.type "list",data:=.seq ([]:List mF).toArray }) (tk:=s.toks) hm (kW _)
end
end PySem
namespace PySem
section
variable {prog:l8}{w:mD}{A:mC}{E:mF->mn->Prop}{s:mn}
theorem uC {it l:mS}{items:Array mF}{Q₁:mF->mn->Prop}(hh:A.handled=none)(hne:l≠it)(hit:s.heap.IsRevIter it l ((items.size:Int)-1))(hl:s.heap.IsList l items)(hz:items.size<=sizeLine)
  (h:∀ s' Z8,Moved [it] (λa b=>b=a) s s'->ItemsOf (λi v=>items[items.size-1-i]?=some v) Z8 items.size->Q₁ (.ref s'.heap.objs.size) { s' with heap:=s'.heap.push { cls:=.type "tuple",data:=.seq Z8 } }) :
  codeAny (model prog w) A (.call (.builtin "tuple.__new__") ⟨[.type "tuple",.ref it],[]⟩) (wants Q₁ E) s:=by
 refine gO ?_
 show wpAny _ A.in1 (do checkBuiltinCall "tuple.__new__" ⟨[.type "tuple",.ref it],[]⟩;again (.builtin "tuple.__new__" ⟨[.type "tuple",.ref it],[]⟩)) _ _ s
 refine lq (kM (F.newCall_tuple_1 _) (lg ⟨jx fF _,gP F.entry_tuple_new ?_⟩));rw[cS fF _]
 have hsub:=sub_tuple_self;have hinit:=init_tuple_lookup;have hmh:=madeHere_tuple
 have hTI:s.TypeIs (.ref it) "list_reverseiterator":=hit.typeIs
 wp_walk using j0 hTI,yH (A:=A.in1) (show A.in1.handled=none from hh) hne hit hl hz
 intro s' Z8 hm hacc
 show wpAny _ _ (aY Z8.toList.toArray >>= λv=>ret v) _ _ _
 unfold aY
 refine lq (eO (lg ?_) (by show Z8.toList.toArray.size<=sizeLine;simp only[cQ];rw[hacc.1];exact hz))
 have e:Z8.toList.toArray=Z8:=by simp
 rw[e];exact h s' Z8 hm hacc
theorem uH {it l:mS}{items:Array mF}{Q:mF->mn->Prop}(hh:A.handled=none)(hne:l≠it)(hit:s.heap.IsRevIter it l ((items.size:Int)-1))(hl:s.heap.IsList l items)(hz:items.size<=sizeLine)
  (hQ:∀ s' Z8,Moved [it] (λa b=>b=a) s s'->ItemsOf (λi v=>items[items.size-1-i]?=some v) Z8 items.size->Q (.ref s'.heap.objs.size) { s' with heap:=s'.heap.push { cls:=.type "tuple",data:=.seq Z8 } }) :
  wpAny (model prog w) A (call (.type "tuple") [.ref it]) Q E s:=by
 refine callType_codes (Q₁:=λobj s₁=>s₁.TypeIs obj "tuple"/\Q obj s₁) jm (F.typeCall_tuple_1 _) F.entry_object_init (uC (A:=A.in1) hh hne hit hl hz λs' Z8 hm hacc=>⟨⟨_,da _ rfl,rfl⟩,hQ s' Z8 hm hacc⟩) λobj s₁ h₁=>?_
 exact⟨h₁.1,cN obj _,object_init_meets jm.init.lookup jm.made (by decide) prog w A.in1 _ s₁ ⟨h₁.1,rfl,h₁.2⟩⟩
end
end PySem
namespace Kq
open PySem PySem.Spec PyProof.Rows L2
section
variable {X:Cx}{a:Expr}{ta:TA}{p p2 pos pos2:Pos}
theorem Fm (hc:X.calm=true)(hg:Gl X "reversed")(hm:X.mg "reversed" = none)(hg2:Gl X "tuple")(hm2:X.mg "tuple" = none)(ha:PA X [a] ta)(hs:starEach [a] X.env=[(false,eval a X.env)]) :
  PE X (.Call (.Name "tuple" p) [.Call (.Name "reversed" p2) [a] [] pos2] [] pos) (λσ H Q=>ta σ H λvs H1=>∃ l xs,vs=[.ref l]/\SqL X.K H1 l xs/\∀ q,H1 q=none->Q (.ref q) (n5 H1 q (.tup xs.reverse))):=by
 intro Z9 s σ H Q I h
 refine dq (pH I hg2 hm2 (show bootBuiltins (j9 "tuple")=some (.type "tuple") by nofun) ?_ (by nofun) (by nofun))
 refine aj (T:="tuple") ?_ rfl rfl
 show wpAny _ _ (spliced ((false,eval (.Call (.Name "reversed" p2) [a] [] pos2) X.env) :: backTo pos [])) _ _ s
 refine eA (mO (pH I hg hm (show bootBuiltins (j9 "reversed")=some (.type "reversed") by nofun) (aj (T:="reversed") (nV (ha pos2 Z9 s σ H _ I h) λus s1 ⟨vs,H1,I1,r1,q1⟩=>?_) hs rfl)))
 obtain⟨l,xs,e,hq,q⟩:=q1
 subst e
 obtain⟨u,rfl,ru⟩:=vals1 r1
 cases (show u=Value.ref l from ru)
 obtain⟨Z7,rv,pl,hz⟩:=I1.list hq
 have hlen:=rv.length
 have ll:l<s1.heap.objs.size:=by obtain⟨o,e,_⟩:=pl.isList;exact kI e
 refine call_reversed_list pl.isList (fI ?_)
 have I2:Inv X Z9 σ H1 { s1 with heap:=s1.heap.push (revObj l ((Z7.toArray.size:Int)-1)) }:=I1.kept (t':=s1.toks) λb o e=>bQ _ e
 refine uH (items:=Z7.toArray) (l:=l) (I1.ok.hd hc) (kj ll) ⟨_,da _ rfl,rfl,rfl⟩ (pl.isList.push _) (by simpa[<- hlen] using hz) λs' Z8 hm hacc=>?_
 have I3:Inv X Z9 σ H1 s':=by
  have:=I1.kept (h':=s'.heap) (t':=s'.toks) λb o e=>hm.heap b o (by simp;exact kj (kI e)) (bQ _ e)
  have e:s' = { s1 with heap:=s'.heap,toks:=s'.toks }:=by
   obtain⟨h1,h2,h3,h4,h5⟩:=hm
   obtain⟨a,b,c,d,e⟩:=s'
   simp only at h2 h3 h4
   subst h2 h3 h4;rfl
  rw[e];exact this
 refine⟨.ref s'.heap.objs.size,_,I3.laid (t':=s'.toks) (o:=.tup xs.reverse) (λb ob q=>bQ _ q) (kW _) ?_,rfl,q _ (I3.hok.fresh (kW _))⟩
 have e:Z8.toList=Z7.reverse:=by
  have h1:Z8.toList.length=Z7.length:=by simpa using hacc.1
  apply gr
  ·rw[c7];exact h1
  ·intro i h2 h3
   have h4:=hacc.2 i (Z8.toList[i]) (by simp at h2;simp[h2])
   have h5:Z7[Z7.length-1-i]?=some Z8.toList[i]:=by simpa using h4
   rw[List.getElem_reverse]
   exact ((aI.mp h5).2).symm
 refine⟨by rw[c7];exact hz,Z7.reverse,rv.reverse,?_⟩
 rw[<- e]
 exact lQ _ _
end
def CV (v:FV):Option FV:=(oF v).map λxs=>.tup xs.reverse
@[scoped simp ↓] theorem P8 (v:FV)(Q:FV->Prop):wp (CV v) Q↔wp (oF v) λxs=>Q (.tup xs.reverse):=oQ _ _ _
theorem NY {X:Cx}{C:CC}{n:Nat}{sp:ke->Nat->Sp}{a:Expr}{ea:EW}{pos p p2 pos2:Pos}(G:Good X C n sp)(hg:(C.gl (j9 "reversed") && C.gl (j9 "tuple"))=true)(hs:nv a=false)(ha:FR X C a ea):FE X C (.Call (.Name (j9 "tuple") p) [.Call (.Name (j9 "reversed") p2) [a] [] pos2] [] pos) (nE CV ea) :=
 PE.imp (Fm (X:=X.nox) G.calm (G.gl (b2 hg).1) (G.blt "reversed" (by decide)) (G.gl (b2 hg).2) (G.blt "tuple" (by decide)) (nC ha n6 (m3 hs)) (m3 hs)) λσ H Q q1=>by obtain⟨c,L,S,Q0,I,h,k⟩:=q1;exact
 ⟨c,L,S,_,I,h,λv L1 hv x S1 H1 r1 I1 s1=>by
  obtain⟨z,e,q⟩:=oB hv
  obtain⟨ps,e1,rfl⟩:=rE e
  obtain⟨a,ys,rfl,hq,ry⟩:=r1.list I1.sub e1
  exact⟨a,ys,rfl,hq,λp hp=>(qS I1 λx S' H' r I' s'=>k _ L1 q x S' H' r I' (s1.trans s')).tup _ _ p rfl ry.rev hp⟩⟩
end Kq
namespace Kq
open PySem PySem.Spec PyProof.Rows L2
def xw (v:FV):Option FV:=(oV v).bind λxs=>(CJ xs).map .int
section
variable {X:Cx}
theorem zL (hc:X.calm=true):nO X (.builtin "sum") (λxs H Q=>∃ (a:mS)(ns:List Int),xs=[.ref a]/\SqT X.K H a (ns.map V.int)/\ns.length<=big/\(∀ n∈ns,-(2 ^ 40)<=n/\n<=2 ^ 40)/\Q (.int ns.sum) H):=by
 intro Z9 s σ H xs us Q I r h
 obtain⟨a,ns,rfl,hq,hz,hb,q⟩:=h
 obtain⟨u,rfl,rx⟩:=vals1 r
 cases rx
 obtain⟨Z7,r',pl,hz'⟩:=I.tuple hq
 have hlen:ns.length=Z7.length:=by have:=r'.length;simpa using this
 have pt:s.heap.IsTuple a Z7.toArray:=pl
 have alt:a<s.heap.objs.size:=by obtain⟨_,e,_⟩:=pt;exact kI e
 have hh:X.A.in1.handled=none:=I.ok.hd hc
 refine jB (dm pt ?_)
 refine⟨s.heap.objs.size,_,_,_,_,_,λi=>ns.getD i 0,rfl,Walks.tuple hh s.heap.objs.size a (kj alt) Z7.toArray,⟨⟨_,da _ rfl,rfl,rfl⟩,pt.at λo e=>bQ _ e⟩,?_,?_,?_,?_⟩
 ·intro b hb'
  simp at hb'
  rcases hb' with rfl|rfl
  ·show _<(s.heap.push _).objs.size;rw[jl];exact f7 _
  ·show _<(s.heap.push _).objs.size;rw[jl];exact fh alt
 ·intro i v hv
  have hv:Z7.toArray[i]?=some v:=hv
  have hi:i<ns.length:=by rw[hlen];simpa using (aG.mp hv).1
  obtain⟨t,e⟩:=Vals.mapInt r' i hi
  refine⟨t,?_⟩
  have e':Z7.toArray[i]?=some (.int (ns.getD i 0) t):=by simpa using e
  rw[hv] at e'
  exact gX e'
 ·intro j hj
  have hj':j<ns.length:=by rw[hlen];simpa using hj
  have hm:ns.getD j 0∈ns:=by simp[lP,hj']
  refine⟨?_,?_⟩
  ·have:=hb _ hm
   show -(2 ^ 63)<=ns.getD j 0/\ns.getD j 0<2 ^ 63
   lia
  ·rw[o8 ns (j+1) hj']
   have b2:=yU 1099511627776 (by decide) (ns.take (j+1)) λn hn=>by have:=hb n (cE hn);lia
   have l2:(ns.take (j+1)).length<=100000:=by rw[gi];unfold big at hz;lia
   unfold InLong;lia
 ·intro h' tk t' hk
  have e:preSum (λi=>ns.getD i 0) Z7.toArray.size=ns.sum:=by
   rw[fo,<- hlen,o8 ns _ (kW _),ga]
  rw[e]
  refine⟨.int ns.sum,H,?_,⟨t',rfl⟩,q⟩
  exact I.kept (t':=tk) λb o e=>hk b o (by simp;exact kj (kI e)) (bQ _ e)
theorem J9 (hc:X.calm=true):nO X (.builtin "sum") (Rc X.K xw):=by
 rintro Z9 s σ H xs us Q I r ⟨S,v,x,z,rfl,hs,rv,e,k⟩
 cases v with
 | tup ps =>
  obtain⟨n,e3,rfl⟩:=rE e
  obtain⟨ns,e4,e5⟩:=oz e3
  obtain⟨hb,rfl⟩:=rn e5
  obtain⟨a,ys,rfl,hq,ry⟩:=rv.tup hs
  cases nY ry e4
  refine zL hc Z9 s σ H _ us Q I r ⟨a,ns,rfl,SqT.of hq,hb.1,λn hn=>?_,k.int⟩
  have:=gw.mp hb.2 n hn
  simpa[tu] using this
 | lst ps=>exact Hz hc Z9 s σ H _ us Q I r ⟨S,.lst ps,x,z,rfl,hs,rv,e,k⟩
 | scr ps=>exact Hz hc Z9 s σ H _ us Q I r ⟨S,.scr ps,x,z,rfl,hs,rv,e,k⟩
 | _=>cases e
end
section
variable {X:Cx}{C:CC}{n:Nat}{sp:ke->Nat->Sp}{a:Expr}{ea:EW}{pos p:Pos}
theorem N0 (G:Good X C n sp)(hg:C.gl (j9 "sum")=true)(hs:nv a=false)(ha:FR X C a ea):FE X C (.Call (.Name (j9 "sum") p) [a] [] pos) (nE xw ea):=uy (J9 G.calm) G (by decide) (by nofun) (by nofun) (by nofun) hg hs ha
end
@[scoped simp ↓] theorem P7 (v:FV)(Q:FV->Prop):wp (xw v) Q↔wp (oV v) λxs=>wp (CJ xs) λn=>Q (.int n):=by
 show wp ((oV v).bind _) Q↔_
 simp only[o9,oQ]
end Kq
namespace Kq
open PySem PySem.Spec PyProof.Rows L2
section
variable {X:Cx}{C:CC}{n:Nat}{sp:ke->Nat->Sp}{a:Expr}{ea eb:EW}{pos:Pos}
theorem MC {nx:Str}{p2:Pos}(G:Good X C n sp)(ha:FE X C a ea)(hb:FE X C (.Name nx p2) eb):FE X C (.Subscript a (.Name nx p2) pos) (mX vK ea eb) :=
 PE.imp (As (X:=X.nox) (by have:=G.room.units;show X.A.units+1<cLine;lia) ha hb λ_ _=>rfl) λσ H Q q1=>by obtain⟨c,L,S,Q0,I,h,k⟩:=q1;exact
 ⟨c,L,S,_,I,h,λv L1 hv x S1 H1 r1 I1 s1=>⟨c,L1,S1,_,I1,hv,λw L2 hw y S2 H2 r2 I2 s2=>by
  obtain⟨z,e,q⟩:=oB hw
  cases v with
  | dct ks vs =>
   obtain⟨ps,e1,e2⟩:=oz e
   obtain⟨kk,e3,e4⟩:=oz e2
   cases pd e1
   obtain⟨a,us,rfl,hl,h2,g⟩:=uB (X:=X) I2.sub (.inl r2) (.inl (r1.mono s2)) e3
   obtain⟨u,e5,r5⟩:=ut h2 e4
   rw[e5] at g
   exact⟨a,u,rfl,g,k z L2 q u S2 H2 r5 I2 (s1.trans s2)⟩
  | _=>cases e⟩⟩
end
end Kq
namespace L2
open PySem PySem.Spec PyProof.Rows
def om (h:mQ)(z TI TO:mS)(f m:mF):Prop:=h.get? z=some { cls:=.type "zip",data:=.fields #[f,m,.bool false,.ref TI,.ref TO] }
theorem rW {M:mI}{A:mC}{E:mF->mn->Prop}{s:mn}{a:mS}{Q:Option Obj->mn->Prop}(h:Q (s.heap.get? a) s):wpAny M A (loadIfAlive a) Q E s:=λ_ _ _=>h
section
variable {P:l8}{w:mD}{A:mC}{s:mn}{z TI TO:mS}{f m:mF}
theorem xn (zz:om s.heap z TI TO f m)(hf:f=.none ∨ ∃ n,f=.int n 0)(hm:∃ c,m=.bool c):wpAny (model P w) A (ac (.ref z)) (λr s'=>(r=true/\s'=s) ∨ (r=false/\∃ g m',(∃ c,m'=.bool c)/\s' = { s with heap:=g }/\om g z TI TO f m'/\kJ z s.heap g)) (λ_ _=>False) s:=by
 unfold ac
 refine lq (kO zz rfl (x:=f) rfl ?_)
 rcases hf with rfl|⟨n,rfl⟩
 ·exact lg (.inl ⟨rfl,rfl⟩)
 ·refine lq (rW ?_)
  cases e:s.heap.get? n.toNat with
  | none=>exact lg (.inl ⟨rfl,rfl⟩)
  | some o =>
   rw[if_neg (by exact eB)]
   refine lq (kO zz rfl (x:=m) rfl ?_)
   obtain⟨c,rfl⟩:=hm
   cases c with
   | true =>
    rw[if_neg (by decide)]
    exact lg (.inr ⟨rfl,s.heap,_,⟨_,rfl⟩,rfl,zz,rfl,λb hb=>rfl⟩)
   | false =>
    rw[if_pos (by decide)]
    refine lq (dk zz (by simp) λg1 z1 b1=>lg (.inr ⟨rfl,g1,.bool true,⟨_,rfl⟩,rfl,z1,b1⟩))
end
section
variable {P:l8}{w:mD}{A:mC}{E:mF->mn->Prop}{s:mn}{p q:Bool}{z TI TO i1 i2 l1 l2:mS}{k1 k2:Nat}{xs ys:Array mF}{x y a b f m:mF}
theorem Bi {Q:mF->mn->Prop}(D:lT z TI TO i1 i2 l1 l2)(zz:om s.heap z TI TO f m)(hf:f=.none ∨ ∃ n,f=.int n 0)(hm:∃ c,m=.bool c)(zi:mx s.heap TI (.ref i1) (.ref i2))(zo:mx s.heap TO a b)
  (t1:IterB p s.heap i1 l1 k1)(t2:IterB q s.heap i2 l2 k2)(m1:SeqB p s.heap l1 xs)(m2:SeqB q s.heap l2 ys)(ex:xs[k1]?=some x)(ey:ys[k2]?=some y)
  (K:∀ h' f' m',(f'=.none ∨ ∃ n,f'=.int n 0)->(∃ c,m'=.bool c)->om h' z TI TO f' m'->(∃ c d,mx h' TO c d)->IterB p h' i1 l1 (k1+1)->IterB q h' i2 l2 (k2+1)->mx h' s.heap.objs.size x y ->
   (∀ c o,c≠z->c≠TO->c≠i1->c≠i2->s.heap.get? c=some o->h'.get? c=some o)->Q (.ref s.heap.objs.size) { s with heap:=h' }) :
  wpAny (model P w) A (mh.«zip.__next__» ⟨[.ref z],[]⟩) (λfin s'=>∃ v,fin=.done (.ret v)/\Q v s') E s:=by
 show wpAny _ _ (field (.ref z) 2 >>= _) _ _ _;refine lq (kO zz rfl (x:=.bool false) rfl ?_)
 show wpAny _ _ (field (.ref z) 3 >>= _) _ _ _;refine lq (kO zz rfl (x:=.ref TI) rfl (lq (iM zi rfl ?_)))
 show wpAny _ _ (ac (.ref z) >>= _) _ _ _
 refine lq (lh (xn zz hf hm) ?_ λ_ _ h=>h.elim)
 rintro r s' (⟨hr,hs'⟩|⟨hr,g,m',hm',hs',zz',b0⟩)
 ·rw[hs',hr];simp -iota only[if_true]
  refine lq (k9 (lq (kO zz rfl (x:=.ref TO) rfl (lq (dk zz (by simp) λg1 z1 b1=>?_)))))
  replace z1:om g1 z TI TO .ellipsis m:=z1
  refine lq ?_;simp -iota only[f9,ia,ir,jf]
  refine lq (lq (jp ?_));show wpAny _ _ (aM (.ref i1) >>= _) _ _ _
  refine lq (rL (t1.move b1.extBut D.i1z) (m1.move b1.extBut D.l1z) ex λg2 t12 b2=>lg ?_)
  have o2:mx g2 TO a b:=b2.extBut _ _ D.TOi1 (b1.extBut _ _ D.TOz zo)
  refine lq (iM o2 rfl (lq (cu o2 λg3 o3 b3=>?_)))
  replace o3:mx g3 TO x b:=o3
  refine lq (kN (lg (lq (lq (jp ?_)))));show wpAny _ _ (aM (.ref i2) >>= _) _ _ _
  refine lq (rL (((t2.move b1.extBut D.i2z).move b2.extBut D.i12.symm).move b3.extBut D.TOi2.symm) (((m2.move b1.extBut D.l2z).move b2.extBut D.l2i1).move b3.extBut D.l2TO) ey λg4 t24 b4=>lg ?_)
  have o4:mx g4 TO x b:=b4.extBut _ _ D.TOi2 o3
  refine lq (iM o4 rfl (lq (cu o4 λg5 o5 b5=>?_)))
  replace o5:mx g5 TO x y:=o5
  refine lq (kN (lg (lg (lq (iM o5 rfl (lq (iO ?_)))))))
  have sz:g5.objs.size=s.heap.objs.size:=by rw[b5.1,b4.1,b3.1,b2.1,b1.1]
  have z5:om g5 z TI TO .ellipsis m:=b5.extBut _ _ D.TOz.symm (b4.extBut _ _ D.i2z.symm (b3.extBut _ _ D.TOz.symm (b2.extBut _ _ D.i1z.symm z1)))
  have kk:∀ c o,c≠z->c≠TO->c≠i1->c≠i2->s.heap.get? c=some o->g5.get? c=some o:=λc o c1 c2 c3 c4 e=>b5.extBut _ _ c2 (b4.extBut _ _ c4 (b3.extBut _ _ c2 (b2.extBut _ _ c3 (b1.extBut _ _ c1 e))))
  have t15:IterB p g5 i1 l1 (k1+1):=((t12.move b3.extBut D.TOi1.symm).move b4.extBut D.i12).move b5.extBut D.TOi1.symm
  have t25:IterB q g5 i2 l2 (k2+1):=t24.move b5.extBut D.TOi2.symm
  have zlt:z<g5.objs.size:=kI z5
  show wpAny _ _ (ab (.ref z) (.ref g5.objs.size) >>= _) _ _ _;refine lq ?_;unfold ab
  have z6:om (g5.push { cls:=.type "tuple",data:=.seq #[x,y] }) z TI TO .ellipsis m:=bQ _ z5
  refine lq (dk z6 (by simp) λg7 z7 b7=>?_);replace z7:om g7 z TI TO (rawInt g5.objs.size) m:=z7
  refine dk z7 (by simp) λg8 z8 b8=>?_;replace z8:om g8 z TI TO (rawInt g5.objs.size) (.bool false):=z8
  have up:∀ c o,c≠z->g5.get? c=some o->g8.get? c=some o:=λc o c1 e=>b8.extBut _ _ c1 (b7.extBut _ _ c1 (bQ _ e))
  have tt:mx g8 g5.objs.size x y:=b8.extBut _ _ (kl zlt) (b7.extBut _ _ (kl zlt) (da _ rfl))
  rw[sz] at z8 tt
  refine lg ⟨_,rfl,?_⟩;show Q (.ref g5.objs.size) _;rw[sz]
  exact K g8 _ _ (.inr ⟨_,rfl⟩) ⟨_,rfl⟩ z8 ⟨_,_,up _ _ D.TOz o5⟩ (t15.to λo e=>up _ o D.i1z e) (t25.to λo e=>up _ o D.i2z e) tt λc o c1 c2 c3 c4 e=>up c o c1 (kk c o c1 c2 c3 c4 e)
 ·rw[hs',hr];simp -iota only[eD,if_false]
  refine lq ?_
  rw[<- eE]
  simp -iota only[ir,jf]
  refine lq (lq (jq ?_));show wpAny _ _ (aM (.ref i1) >>= _) _ _ _
  refine lq (rL (t1.move b0.extBut D.i1z) (m1.move b0.extBut D.l1z) ex λg2 t12 b2=>lg (lg ?_))
  refine lq (lq (jq ?_));show wpAny _ _ (aM (.ref i2) >>= _) _ _ _
  refine lq (rL ((t2.move b0.extBut D.i2z).move b2.extBut D.i12.symm) ((m2.move b0.extBut D.l2z).move b2.extBut D.l2i1) ey λg4 t24 b4=>lg (lg (lg ?_)))
  show wpAny _ _ (newTuple [x,y] >>= _) _ _ _
  refine lq (iO (lg ⟨_,rfl,?_⟩))
  have sz:g4.objs.size=s.heap.objs.size:=by rw[b4.1,b2.1,b0.1]
  show Q (.ref g4.objs.size) _
  have tt:mx (g4.push { cls:=.type "tuple",data:=.seq #[x,y] }) g4.objs.size x y:=da _ rfl
  rw[sz] at tt
  rw[sz]
  have z4:om g4 z TI TO f m':=b4.extBut _ _ D.i2z.symm (b2.extBut _ _ D.i1z.symm zz')
  refine K _ f m' hf hm' (bQ _ z4) ⟨a,b,bQ _ (b4.extBut _ _ D.TOi2 (b2.extBut _ _ D.TOi1 (b0.extBut _ _ D.TOz zo)))⟩ ((t12.move b4.extBut D.i12).to λo e=>bQ _ e) (t24.to λo e=>bQ _ e) tt λc o c1 c2 c3 c4 e=>bQ _ (b4.extBut _ _ c4 (b2.extBut _ _ c3 (b0.extBut _ _ c1 e)))
theorem Cq {Q:Fin->mn->Prop}(hh:A.handled=none)(D:lT z TI TO i1 i2 l1 l2)(zz:om s.heap z TI TO f m)(hf:f=.none ∨ ∃ n,f=.int n 0)(hm:∃ c,m=.bool c)(zi:mx s.heap TI (.ref i1) (.ref i2))(zo:mx s.heap TO a b)
  (t1:IterB p s.heap i1 l1 k1)(t2:IterB q s.heap i2 l2 k2)(m1:SeqB p s.heap l1 xs)(m2:SeqB q s.heap l2 ys)(en:xs[k1]?=none ∨ ys[k2]?=none)
  (K:∀ h' e,(∀ c o,c≠z->c≠TO->c≠i1->c≠i2->s.heap.get? c=some o->h'.get? c=some o)->(∃ o,h'.get? e=some o/\o.cls=.type "StopIteration")->E (.ref e) { s with heap:=h' }) :
  wpAny (model P w) A (mh.«zip.__next__» ⟨[.ref z],[]⟩) Q E s:=by
 show wpAny _ _ (field (.ref z) 2 >>= _) _ _ _;refine lq (kO zz rfl (x:=.bool false) rfl ?_)
 show wpAny _ _ (field (.ref z) 3 >>= _) _ _ _;refine lq (kO zz rfl (x:=.ref TI) rfl (lq (iM zi rfl ?_)))
 show wpAny _ _ (ac (.ref z) >>= _) _ _ _
 refine lq (lh (xn zz hf hm) ?_ λ_ _ h=>h.elim)
 rintro r s' (⟨hr,hs'⟩|⟨hr,g,m',hm',hs',zz',b0⟩)
 ·rw[hs',hr];simp -iota only[if_true]
  refine lq (k9 (lq (kO zz rfl (x:=.ref TO) rfl (lq (dk zz (by simp) λg1 z1 b1=>?_)))))
  replace z1:om g1 z TI TO .ellipsis m:=z1
  refine lq ?_;simp -iota only[f9,ia,ir,jf]
  refine lq (lq (jp ?_));show wpAny _ _ (aM (.ref i1) >>= _) _ _ _
  have fin:∀ {g:mQ}{e:mS}{o:Obj},om g z TI TO .ellipsis m->g.get? e=some o->o.cls=.type "StopIteration"->e≠z:=λh1 h2 h3 x=>by subst x;rw[h1] at h2;cases h2;simp at h3
  cases hx:xs[k1]? with
  | none =>
   refine lq (tN hh (t1.move b1.extBut D.i1z) (m1.move b1.extBut D.l1z) hx λg2 e b2 he=>?_)
   obtain⟨oe,e1,e2⟩:=he
   have z2:om g2 z TI TO .ellipsis m:=b2 _ _ D.i1z.symm z1
   exact dk z2 (by simp) λg3 _ b3=>K g3 e (λc o c1 _ c3 _ x=>b3.extBut _ _ c1 (b2 _ _ c3 (b1.extBut _ _ c1 x))) ⟨oe,b3.extBut _ _ (fin z2 e1 e2) e1,e2⟩
  | some x =>
   have hy:ys[k2]?=none:=by rcases en with h|h;rw[hx] at h;cases h;exact h
   refine lq (rL (t1.move b1.extBut D.i1z) (m1.move b1.extBut D.l1z) hx λg2 t12 b2=>lg ?_)
   have o2:mx g2 TO a b:=b2.extBut _ _ D.TOi1 (b1.extBut _ _ D.TOz zo)
   refine lq (iM o2 rfl (lq (cu o2 λg3 o3 b3=>lq (kN (lg (lq (lq (jp ?_))))))))
   show wpAny _ _ (aM (.ref i2) >>= _) _ _ _
   refine lq (tN hh (((t2.move b1.extBut D.i2z).move b2.extBut D.i12.symm).move b3.extBut D.TOi2.symm) (((m2.move b1.extBut D.l2z).move b2.extBut D.l2i1).move b3.extBut D.l2TO) hy λg4 e b4 he=>?_)
   obtain⟨oe,e1,e2⟩:=he
   have z4:om g4 z TI TO .ellipsis m:=b4 _ _ D.i2z.symm (b3.extBut _ _ D.TOz.symm (b2.extBut _ _ D.i1z.symm z1))
   exact dk z4 (by simp) λg5 _ b5=>K g5 e (λc o c1 c2 c3 c4 x=>b5.extBut _ _ c1 (b4 _ _ c4 (b3.extBut _ _ c2 (b2.extBut _ _ c3 (b1.extBut _ _ c1 x))))) ⟨oe,b5.extBut _ _ (fin z4 e1 e2) e1,e2⟩
 ·rw[hs',hr];simp -iota only[eD,if_false]
  refine lq ?_
  rw[<- eE]
  simp -iota only[ir,jf]
  refine lq (lq (jq ?_));show wpAny _ _ (aM (.ref i1) >>= _) _ _ _
  cases hx:xs[k1]? with
  | none =>
   refine lq (tN hh (t1.move b0.extBut D.i1z) (m1.move b0.extBut D.l1z) hx λg2 e b2 he=>?_)
   exact K g2 e (λc o c1 _ c3 _ x=>b2 _ _ c3 (b0.extBut _ _ c1 x)) he
  | some x =>
   have hy:ys[k2]?=none:=by rcases en with h|h;rw[hx] at h;cases h;exact h
   refine lq (rL (t1.move b0.extBut D.i1z) (m1.move b0.extBut D.l1z) hx λg2 t12 b2=>lg (lg ?_))
   refine lq (lq (jq ?_));show wpAny _ _ (aM (.ref i2) >>= _) _ _ _
   refine lq (tN hh ((t2.move b0.extBut D.i2z).move b2.extBut D.i12.symm) ((m2.move b0.extBut D.l2z).move b2.extBut D.l2i1) hy λg4 e b4 he=>?_)
   exact K g4 e (λc o c1 _ c3 c4 x=>b4 _ _ c4 (b2.extBut _ _ c3 (b0.extBut _ _ c1 x))) he
theorem Bh {Q:Option mF->mn->Prop}(D:lT z TI TO i1 i2 l1 l2)(zz:om s.heap z TI TO f m)(hf:f=.none ∨ ∃ n,f=.int n 0)(hm:∃ c,m=.bool c)(zi:mx s.heap TI (.ref i1) (.ref i2))(zo:mx s.heap TO a b)
  (t1:IterB p s.heap i1 l1 k1)(t2:IterB q s.heap i2 l2 k2)(m1:SeqB p s.heap l1 xs)(m2:SeqB q s.heap l2 ys)(ex:xs[k1]?=some x)(ey:ys[k2]?=some y)
  (K:∀ h' f' m',(f'=.none ∨ ∃ n,f'=.int n 0)->(∃ c,m'=.bool c)->om h' z TI TO f' m'->(∃ c d,mx h' TO c d)->IterB p h' i1 l1 (k1+1)->IterB q h' i2 l2 (k2+1)->mx h' s.heap.objs.size x y ->
   (∀ c o,c≠z->c≠TO->c≠i1->c≠i2->s.heap.get? c=some o->h'.get? c=some o)->Q (some (.ref s.heap.objs.size)) { s with heap:=h' }):wpAny (model P w) A (pyNext (.ref z)) Q E s:=by
 have ty:s.TypeIs (.ref z) "zip":=⟨_,zz,rfl⟩
 unfold pyNext
 exact lq (jt (bh (name:=j9 "__next__") ty iD (fP iD ty gB (Bi D zz hf hm zi zo t1 t2 m1 m2 ex ey λh' f' m' x1 x2 a1 a2 a3 a4 a5 a6=>lg (K h' f' m' x1 x2 a1 a2 a3 a4 a5 a6)) (fH _))))
theorem Bf {Q:Option mF->mn->Prop}(hh:A.handled=none)(D:lT z TI TO i1 i2 l1 l2)(zz:om s.heap z TI TO f m)(hf:f=.none ∨ ∃ n,f=.int n 0)(hm:∃ c,m=.bool c)(zi:mx s.heap TI (.ref i1) (.ref i2))(zo:mx s.heap TO a b)
  (t1:IterB p s.heap i1 l1 k1)(t2:IterB q s.heap i2 l2 k2)(m1:SeqB p s.heap l1 xs)(m2:SeqB q s.heap l2 ys)(en:xs[k1]?=none ∨ ys[k2]?=none)
  (K:∀ h',(∀ c o,c≠z->c≠TO->c≠i1->c≠i2->s.heap.get? c=some o->h'.get? c=some o)->Q none { s with heap:=h' }):wpAny (model P w) A (pyNext (.ref z)) Q E s:=by
 have ty:s.TypeIs (.ref z) "zip":=⟨_,zz,rfl⟩
 unfold pyNext
 refine lq (jt (bh (name:=j9 "__next__") ty iD (fP iD ty gB (Cq hh D zz hf hm zi zo t1 t2 m1 m2 en λh' e hk he=>?_) (fH _))))
 obtain⟨o,e1,e2⟩:=he
 exact lq (fM (T:="StopIteration") (b:=true) ⟨o,e1,e2⟩ iT (lg (K _ hk)))
end
theorem xL {prog:l8}{w:mD}{A:mC}{E:mF->mn->Prop}{s:mn}{z TI TO:mS}{f m:mF}{Q:mF->mn->Prop}(zz:om s.heap z TI TO f m)(h:Q (.ref z) s):wpAny (model prog w) A (pyIter (.ref z)) Q E s:=by
 have hT:s.TypeIs (.ref z) "zip":=⟨_,zz,rfl⟩
 refine eL hT iE (fP iE hT F.entry_zip_iter ?_ (F.args_zip_iter_1 _))
 show wpAny _ _ (ret (.ref z)) _ _ s
 exact lg ⟨_,rfl,"zip",_,hT,iD.lookup,h⟩
theorem EQ {P:l8}{w:mD}{K:ke}{p q:Bool}{nx:Str}{pos:Pos}{a b z TI TO i1 i2:mS}(D:lT z TI TO i1 i2 a b) :
  Turn P w K (.Name nx pos) (K9 K p q a b) [z,TO,i1,i2,TI] z (λi h=>(∃ f m,(f=.none ∨ ∃ n,f=.int n 0)/\(∃ c,m=.bool c)/\om h z TI TO f m)/\mx h TI (.ref i1) (.ref i2)/\(∃ c d,mx h TO c d)/\IterB p h i1 a i/\IterB q h i2 b i) where
 mem:=by simp
 obj:=λi h st c hc=>by
  obtain⟨⟨f,m,hf0,hm0,zz⟩,zi,⟨x,y,zo⟩,t1,t2⟩:=st
  simp -iota only[jN,gc,or_false] at hc
  rcases hc with rfl|rfl|rfl|rfl|rfl
  ·exact⟨_,zz,λv z=>by cases z⟩
  ·exact⟨_,zo,λv z=>by cases z⟩
  ·exact t1.obj
  ·exact t2.obj
  ·exact⟨_,zi,λv z=>by cases z⟩
 keep:=λi h h' st kk=>by
  obtain⟨⟨f,m,hf0,hm0,zz⟩,zi,⟨x,y,zo⟩,t1,t2⟩:=st
  exact⟨⟨f,m,hf0,hm0,kk z (by simp) _ zz⟩,kk TI (by simp) _ zi,⟨x,y,kk TO (by simp) _ zo⟩,t1.to λo e=>kk i1 (by simp) o e,t2.to λo e=>kk i2 (by simp) o e⟩
 item:=by
  intro X hP hw hK hc i Z9 s σ H E I hf st hg
  subst hP hw hK
  obtain⟨xs,ys,x,y,q1,q2,hx,hy⟩:=hg
  obtain⟨⟨f,m,hf0,hm0,zz⟩,zi,⟨u0,v0,zo⟩,t1,t2⟩:=st
  obtain⟨Z7,rv,m1,_⟩:=I.seqB q1
  obtain⟨jts,rw',m2,_⟩:=I.seqB q2
  obtain⟨u,hu,ru⟩:=rv.get hx
  obtain⟨u',hu',ru'⟩:=rw'.get hy
  refine Bh D zz hf0 hm0 zi zo t1 t2 m1 m2 (x:=u) (y:=u') (by simpa using hu) (by simpa using hu') λh'' f' m' hf' hm' z'' a2 a3 a4 T'' hk=>?_
  refine⟨_,rfl,lg ?_⟩
  have szn:z≠s.heap.objs.size:=kj (kI zz)
  have I1:Inv X Z9 σ (n5 H s.heap.objs.size (.tup [x,y])) { s with heap:=h'' }:=I.turnedNew (t':=s.toks) (ch:=[z,TO,i1,i2]) (kW _)
   (λc ob hc e=>by simp -iota only[jN,gc,or_false,not_or] at hc;exact hk c ob hc.1 hc.2.1 hc.2.2.1 hc.2.2.2 e)
   (λc hc=>hf c (by simp -iota only[jN,gc,or_false] at hc ⊢;rcases hc with z|z|z|z<;>simp[z])) ⟨by show 2<=sizeLine;decide,[u,u'],.cons ru (.cons ru' .nil),⟨_,T'',rfl,_,rfl⟩⟩
  refine⟨.ref s.heap.objs.size,_,I1,rfl,⟨_,I.fresh,rfl,λxs' ys' x' y' r1 r2 hx' hy'=>?_⟩,⟨⟨f',m',hf',hm',z''⟩,hk _ _ D.TIz D.TITO D.TIi1 D.TIi2 zi,a2,a3,a4⟩,λc hc=>?_⟩
  ·have e1:=I.seqB_inj r1 q1
   have e2:=I.seqB_inj r2 q2
   subst e1 e2
   rw[hx] at hx';rw[hy] at hy';cases hx';cases hy';rfl
  ·have:c≠s.heap.objs.size:=by
    have hlt:c<s.heap.objs.size:=by
     simp -iota only[jN,gc,or_false] at hc
     rcases hc with rfl|rfl|rfl|rfl|rfl
     ·exact kI zz
     ·exact kI zo
     ·exact t1.lt
     ·exact t2.lt
     ·exact kI zi
    exact kj hlt
   rw[m9 this];exact (hf c hc).1
 done:=by
  intro X hP hw hK hc i Z9 s σ H E I hf st hg
  subst hP hw hK
  obtain⟨xs,ys,q1,q2,hx⟩:=hg
  obtain⟨⟨f,m,hf0,hm0,zz⟩,zi,⟨u0,v0,zo⟩,t1,t2⟩:=st
  obtain⟨Z7,rv,m1,l1⟩:=I.seqB q1
  obtain⟨jts,rw',m2,l2⟩:=I.seqB q2
  refine Bf (I.ok.hd hc) D zz hf0 hm0 zi zo t1 t2 m1 m2 (hx.elim (λz=>.inl (by simp;lia)) λz=>.inr (by simp;lia)) λh' hk=>⟨rfl,?_⟩
  exact I.turnedL (t':=s.toks) (ch:=[z,TO,i1,i2]) (λc ob hc e=>by simp -iota only[jN,gc,or_false,not_or] at hc;exact hk c ob hc.1 hc.2.1 hc.2.2.1 hc.2.2.2 e)
   (λc hc=>hf c (by simp -iota only[jN,gc,or_false] at hc ⊢;rcases hc with z|z|z|z<;>simp[z]))
 self:=λ_ _ _ _ _ st h=>by
  obtain⟨⟨f,m,hf0,hm0,zz⟩,_⟩:=st
  exact xL zz h
section
variable {X:Cx}
theorem LQ {nx:Str}{tp:Pos}{e1 e2:Expr}{ta:TA}{p pos:Pos}(hg:Gl X "zip")(hm:X.mg "zip" = none)(ha:PA X [e1,e2] ta)
  (hs:starEach [e1,e2] X.env=[(false,eval e1 X.env),(false,eval e2 X.env)])(hs2:starEach [e2] X.env=[(false,eval e2 X.env)]):PI X (.Name nx tp) (.Call (.Name "zip" p) [e1,e2] [] pos) (iZ2 X.K ta):=by
 intro Z9 s σ H R I h
 refine dq (pH I hg hm bX ?_ (by decide) (by decide))
 refine aj (nV (ha pos Z9 s σ H _ I h) λus s1 ⟨vs,H1,I1,r1,q1⟩=>?_) (by rw[hs,hs2]) (by rw[hs2];rfl)
 obtain⟨p,q,a,b,e,⟨xs,hq1⟩,⟨ys,hq2⟩,kk⟩:=q1
 subst e
 obtain⟨u1,u2,rfl,ra,rb⟩:=vals2 r1
 cases ra;cases rb
 obtain⟨Z7,rv,m1,_⟩:=I1.seqB hq1
 obtain⟨jts,rw',m2,_⟩:=I1.seqB hq2
 refine vQ m1 m2 λh' zz zi zo t1 t2 hk=>fL (f0:=.none) zz ?_
 have I2:Inv X Z9 σ H1 { s1 with heap:=h' }:=I1.kept (t':=s1.toks) λc o e=>hk c o e
 refine⟨_,_,_,K9 X.K p q a b,H1,rfl,I2,EQ (zipApart_new m1.lt m2.lt),⟨⟨.none,.bool false,.inl rfl,⟨_,rfl⟩,zz⟩,zi,⟨_,_,zo⟩,t1,t2⟩,λc hc=>?_,kk⟩
 have hge:s1.heap.objs.size<=c:=by
  simp -iota only[jN,gc,or_false] at hc
  rcases hc with rfl|rfl|rfl|rfl|rfl<;>first|exact kW _|exact f8 _ _
 exact I1.fpOk hge (I1.hok.fresh hge)
end
end L2
namespace Kq
open PySem PySem.Spec PyProof.Rows L2
section
variable {X:Cx}{C:CC}{n:Nat}{sp:ke->Nat->Sp}{a b:Expr}{ea eb:EW}{pos p tp:Pos}{nt:Str}
theorem NQ (G:Good X C n sp)(hg:C.gl (j9 "zip")=true)(hs:nv a=false)(hs2:nv b=false)(ha:FE X C a ea)(hb:FE X C b eb):FI X C C.md (.Name nt tp) (.Call (.Name (j9 "zip") p) [a,b] [] pos) (wQ ea eb) :=
 PI.imp (LQ (G.gl hg) (G.blt "zip" (by decide)) (nC ha (nC hb n6 (m3 hs2)) (m3 hs)) (by rw[m3 hs,m3 hs2];rfl) (m3 hs2)) λσ H R q1=>by obtain⟨c,L,S,Q0,I,h,k⟩:=q1;exact
 ⟨c,L,S,_,I,h,λv L1 hv x S1 H1 r1 I1 s1=>⟨c,L1,S1,_,I1,hv,λw L2 hw y S2 H2 r2 I2 s2=>by
  obtain⟨ps,e,hw⟩:=oB hw
  obtain⟨qs,e',q⟩:=oB hw
  obtain⟨l,rfl,st⟩:=(r1.mono s2).stays e
  obtain⟨l',rfl,st'⟩:=r2.stays e'
  obtain⟨vs,h1,_⟩:=st S2 H2 (Same.refl _) I2.sub
  obtain⟨ws,h2,_⟩:=st' S2 H2 (Same.refl _) I2.sub
  exact⟨_,_,l,l',rfl,⟨vs,h1⟩,⟨ws,h2⟩,k _ L2 q _ c S2 H2 I2 (λ_ _ _ _ I=>I) rfl (DQ (λL σ S H I s=>st S H s I.sub) λL σ S H I s=>st' S H s I.sub) (s1.trans s2)⟩⟩⟩
end
end Kq
namespace Kq
open PySem PySem.Spec PyProof.Rows L2
theorem C2 (ks:List Int)(us:List V) (k:Int)(u:V)(hl:ks.length=us.length):qG ((pQ ks).zip us) (Sum.inl k) u=(pQ (oW ks us k u).1).zip (oW ks us k u).2:=by
 have hany:(((pQ ks).zip us).any λkv=>decide (kv.1=Sum.inl k))=true↔k∈ks:=by
  rw[rY,ur,qW k hl]
 unfold qG oW
 by_cases e:k∈ks
 ·rw[if_pos (hany.mpr e),if_pos e]
  clear e hany
  induction ks generalizing us with
  | nil=>cases us<;>rfl
  | cons k' ks ih=>cases us with
   | nil=>rfl
   | cons u' us =>
    have:=ih us (by simpa using hl)
    show (if (Sum.inl k':Int ⊕ Option Str)=Sum.inl k then (Sum.inl k',u) else (Sum.inl k',u')) :: ((pQ ks).zip us).map _=(Sum.inl k',if k'=k then u else u') :: (pQ ks).zip _
    rw[this]
    congr 1
    by_cases e:k'=k
    ·subst e;simp
    ·rw[if_neg λz=>e (kR z),if_neg e]
 ·rw[if_neg λz=>e (hany.mp z),if_neg e]
  show _=(pQ (ks++[k])).zip (us++[u])
  have:pQ (ks++[k])=pQ ks++[Sum.inl k]:=by simp[pQ]
  rw[this,hZ (by simpa[pQ] using hl)];rfl
def AX (v j x:FV):Option FV:=match v with
 | .dct ks vs=>(qL j).bind λps=>(nR ps).bind λk=>if ks.length<big then some (.dct (oW ks vs k x).1 (oW ks vs k x).2) else none
 | .dci ks vs=>(pM j).bind λk=>if ks.length<big then some (.dci (oW ks vs k x).1 (oW ks vs k x).2) else none
 | _=>none
def Aj (k:Nat)(i e:EW):SW:=λL Q=>wp (lk L k) λ_=>e L λx L1=>i L1 λj L2=>wp (lk L2 k) λy=>wp (AX y j x) λz=>Q .next (L2.set k (some z))
section
variable {K:ke}{c:Cn}{md:Md}{L:mV}{σ:L2.St}{S H:Hp}
theorem Iv.writeV (I:Iv K c md L σ S H){i:Nat}{v w:FV}{a:mS}{ps:List FV}{xs:List V}(m:nA md i=.own)(e:L[i]?=some (some v))(e1:σ[i]?=some (some (.ref a)))(hw:IM w=some ps)(r:RVs K S ps xs) :
  Iv K c md (L.set i (some w)) σ S (n5 H a (Fu w xs)):=by
 obtain⟨a',e1',⟨h1,_⟩,_⟩:=I.own i v (λz=>by rw[m] at z;cases z) e
 rw[e1] at e1';cases e1'
 exact I.back m e e1 (Same.refl S) (λb o z=>by rw[m9 λy=>by subst y;rw[h1] at z;cases z];exact I.sub b o z) (λb o z=>.inl z) (λb o z n=>by rw[m9 n];exact z) ⟨h1,ps,xs,hw,nz,r⟩
theorem Ee {i:Nat}{v j x z:FV}{a:mS}{y u:V}(I:Iv K c md L σ S H)(m:nA md i=.own)(e:L[i]?=some (some v))(e1:σ[i]?=some (some (.ref a)))(rj:RV K S j y)(rx:RV K S x u)(h:AX v j x=some z):∃ H',L2.DPut H a y u H'/\Iv K c md (L.set i (some z)) σ S H':=by
 obtain⟨a',f1,⟨o1,ps,us,e9,o2,o3⟩,_⟩:=I.own i v (λz=>by rw[m] at z;cases z) e
 rw[e1] at f1;cases f1
 have hbl:=oj
 cases v with
 | dct ks vs =>
  obtain⟨qs,g1,h⟩:=oz h
  obtain⟨k,g2,h⟩:=oz h
  obtain⟨hb,rfl⟩:=rn h
  obtain⟨hl,rfl⟩:=rn e9
  cases pd g1
  obtain⟨b,rfl,hkb⟩:=zu rj g2
  have hu:ks.length=us.length:=by rw[hl,o3.length]
  obtain⟨p1,p2⟩:=tU (ks:=ks) (k:=k) o3 rx
  refine⟨_,.t o2 (I.sub _ _ hkb) (by simp[oA];lia),?_⟩
  rw[Al ks us k u hu,<- p1]
  exact I.writeV (w:=.dct _ _) m e e1 (if_pos (qP ks _ k x hl).1) p2
 | dci ks vs =>
  obtain⟨k,g2,h⟩:=oz h
  obtain⟨hb,rfl⟩:=rn h
  obtain⟨hl,rfl⟩:=rn e9
  cases nL g2
  cases (show y=V.int k from rj)
  have hu:ks.length=us.length:=by rw[hl,o3.length]
  obtain⟨p1,p2⟩:=tU (ks:=ks) (k:=k) o3 rx
  refine⟨_,.k (k:=Sum.inl k) o2 (by simp[pQ];lia),?_⟩
  rw[C2 ks us k u hu,<- p1]
  exact I.writeV (w:=.dci _ _) m e e1 (if_pos (qP ks _ k x hl).1) p2
 | _=>cases h
end
section
variable {X:Cx}{C:CC}{n:Nat}{sp:ke->Nat->Sp}{fr:Bool}{a b:Expr}{ea eb:EW}{pos p px:Pos}{i:Nat}{nx:Str}
theorem Mx:FF X C (.Dict [] [] pos) (eC (.dct [] [])):=PE.imp Dk λσ H Q q1=>by obtain⟨c,L,S,Q0,I,h,k⟩:=q1;exact λp hp=>k _ L h p S _ ⟨I.sn hp,[],[],rfl,nz,rfl⟩ (I.fresh hp) (I.lay hp _) (Same.refl S)
theorem NN (G:Good X C n sp)(hn:C.nm i nx=true)(m:nA C.md i=.own)(hc:(!rO a && !rz b)=true)(ha:FE X C a ea)(hb:FE X C b eb):FS X C fr (.Assign [.Subscript (.Name nx px) b p] a pos) (Aj i eb ea):=by
 have hc:=b2 hc
 refine PS.imp (Fh (X:=X.nox) (by have:=G.room.units;show X.A.units+1<cLine;lia) (pY (pos:=px) G hn) hb ha (qM (nb hc.1))) λD σ H ⟨c,L,S,Q0,I,h,k⟩=>?_
 have mi:nA C.md i≠.imm:=λz=>by rw[m] at z;cases z
 obtain⟨v0,e,h⟩:=oB h
 obtain⟨l,e1,_⟩:=I.own i v0 mi ((pL _ _ _).mp e)
 refine⟨c,L,S,_,I,h,λv L1 q x S1 H1 r1 I1 s1=>⟨_,e1,c,L1,S1,_,I1,q,λw L2 q y S2 H2 r2 I2 s2=>?_⟩⟩
 obtain⟨v1,e2,q2⟩:=oB q
 obtain⟨z,e3,q3⟩:=oB q2
 have e2:=(pL _ _ _).mp e2
 obtain⟨H3,g,I3⟩:=Ee I2 m e2 e1 r2 (r1.mono s2) e3
 exact⟨l,H3,rfl,g,k .next _ q3 σ S2 _ I3 (s1.trans s2)⟩
end
section
variable (Q:FV->Prop)(i:Nat)(L:mV)
@[scoped simp ↓] theorem Lw (k:Nat)(i e:EW)(Q:FFl->mV->Prop):Aj k i e L Q=(wp (lk L k) λ_=>e L λx L1=>i L1 λj L2=>wp (lk L2 k) λy=>wp (AX y j x) λz=>Q .next (L2.set k (some z))):=propext mf
@[scoped simp ↓] theorem NA (ks:List (List Int))(vs ps:List FV)(x:FV):wp (AX (.dct ks vs) (.tup ps) x) Q↔wp (nR ps) λk=>ks.length<big/\Q (.dct (oW ks vs k x).1 (oW ks vs k x).2):=by
 show wp ((nR ps).bind _) Q↔_;rw[o9];simp only[pS]
end
theorem DX:∀ {ns:List Int}{us:List mF},Vals (ns.map V.int) us->me us ns
 | [],us,h=>by cases h;exact .nil
 | n :: ns,us,h=>by
  cases h with
  | cons r h=>obtain⟨t,rfl⟩:=r;exact .cons n t (DX h)
theorem Ho:∀ {us:List mF}{ns:List Int},me us ns->Vals (ns.map V.int) us
 | _,_,.nil=>.nil
 | _,_,.cons n t h=>.cons ⟨t,rfl⟩ (Ho h)
def u8 (v:FV):Option FV:=(oF v).bind λxs=>(nR xs).map λns=>.int ns.sum
section
variable {X:Cx}
theorem Cf (hc:X.calm=true):nO X (.builtin "sum") (λxs H Q=>∃ (a:mS)(ns:List Int),xs=[.ref a]/\SqL X.K H a (ns.map V.int)/\Q (.int ns.sum) H):=by
 intro Z9 s σ H xs us Q I r h
 obtain⟨a,ns,rfl,hq,q⟩:=h
 obtain⟨u,rfl,rx⟩:=vals1 r
 cases rx
 obtain⟨Z7,r',pl,hz'⟩:=I.list hq
 have hlen:ns.length=Z7.length:=by have:=r'.length;simpa using this
 have alt:a<s.heap.objs.size:=by obtain⟨_,e,_⟩:=pl.isList;exact kI e
 have hh:X.A.in1.handled=none:=I.ok.hd hc
 refine call_sum_walkG (eM pl.isList ?_)
 refine⟨s.heap.objs.size,_,_,_,_,_,λi=>ns.getD i 0,rfl,lC hh s.heap.objs.size a (kj alt) Z7.toArray,⟨⟨_,da _ rfl,rfl,rfl⟩,pl.isList.at λo e=>bQ _ e⟩,?_,?_,?_⟩
 ·intro b hb'
  simp at hb'
  rcases hb' with rfl|rfl
  ·show _<(s.heap.push _).objs.size;rw[jl];exact f7 _
  ·show _<(s.heap.push _).objs.size;rw[jl];exact fh alt
 ·intro i v hv
  have hv:Z7.toArray[i]?=some v:=hv
  have hi:i<ns.length:=by rw[hlen];simpa using (aG.mp hv).1
  obtain⟨t,e⟩:=Vals.mapInt r' i hi
  refine⟨t,?_⟩
  have e':Z7.toArray[i]?=some (.int (ns.getD i 0) t):=by simpa using e
  rw[hv] at e'
  exact gX e'
 ·intro h' tk t' hk
  have e:preSum (λi=>ns.getD i 0) Z7.toArray.size=ns.sum:=by
   rw[fo,<- hlen,o8 ns _ (kW _),ga]
  rw[e]
  refine⟨.int ns.sum,H,?_,⟨t',rfl⟩,q⟩
  exact I.kept (t':=tk) λb o e=>hk b o (by simp;exact kj (kI e)) (bQ _ e)
theorem J8 (hc:X.calm=true):nO X (.builtin "sum") (Rc X.K u8):=by
 rintro Z9 s σ H xs us Q I r ⟨S,v,x,z,rfl,hs,rv,e,k⟩
 obtain⟨ps,e1,e2⟩:=oz e
 obtain⟨ns,e3,rfl⟩:=rE e2
 obtain⟨a,ys,rfl,hq,ry⟩:=rv.list hs e1
 cases nY ry e3
 exact Cf hc Z9 s σ H _ us Q I r ⟨a,ns,rfl,hq,k.int⟩
end
section
variable {X:Cx}{C:CC}{n:Nat}{sp:ke->Nat->Sp}{a:Expr}{ea:EW}{pos p:Pos}
theorem NZ (G:Good X C n sp)(hg:C.gl (j9 "sum")=true)(hs:nv a=false)(ha:FR X C a ea):FE X C (.Call (.Name (j9 "sum") p) [a] [] pos) (nE u8 ea):=uy (J8 G.calm) G (by decide) (by nofun) (by nofun) (by nofun) hg hs ha
end
@[scoped simp ↓] theorem P6 (v:FV)(Q:FV->Prop):wp (u8 v) Q↔wp (oF v) λxs=>wp (nR xs) λns=>Q (.int ns.sum):=by
 show wp ((oF v).bind _) Q↔_;rw[o9];simp only[oQ]
end Kq
namespace L2
open PySem PySem.Spec PyProof.Rows
section
variable {X:Cx}{a e k:Expr}{te tk:TE}{pos p2:Pos}
theorem uw {α β:Type}{f g:α->Option β}:∀ {l:List α},(∀ x∈l,f x=g x)->l.filterMap f=l.filterMap g
 | [],_=>rfl
 | x :: r,h=>by
  rw[c8,c8,h x (by simp),uw λy hy=>h y (cI _ hy)]
theorem La (items:Array mF):slicePick items none none (some (-1))=items.toList.reverse.toArray:=by
 unfold slicePick
 have hb:sliceBounds none none (some (-1)) items.size=((items.size:Int)-1,-1,-1):=by
  first
  | rfl
  | simp[sliceBounds]
 rw[hb]
 have h:=xr items.toList.reverse
 rw[List.reverse_reverse,c7,dj] at h
 show ((sliceRange ((items.size:Int)-1) (-1) (-1)).filterMap (items[·]?)).toArray=_
 congr 1
 rw[<- h]
 unfold sliceRange
 have h1:¬ ((-1:Int) > 0):=by decide
 by_cases hz:(items.size:Int)-1 > -1
 ·have e:((items.size:Int)-1 - -1 - -1-1) / (- -1)=(items.size:Int):=by
   rw[show (- -1:Int)=1 by decide,Int.ediv_one]
   lia
  simp only[h1,if_false,hz,if_true,e,fC]
  rw[dW]
  apply uw
  intro k hk
  have:=je.mp hk
  show items[((items.size:Int)-1 + -1*(k:Int)).toNat]?=_
  rw[show ((items.size:Int)-1 + -1*(k:Int)).toNat=items.size-1-k by lia,<- cr]
 ·have e:items.size=0:=by lia
  simp[e]
theorem Dg (he:PE X e te)(hk:PE X k tk):PE X (.Subscript e (.Slice none none (some k) p2) pos) (λσ H Q=>te σ H λx H1=>tk σ H1 λy H2=>y=.int (-1)/\∃ a xs,x=.ref a/\SqL X.K H2 a xs/\∀ p,H2 p=none->Q (.ref p) (n5 H2 p (.lst xs.reverse))):=by
 intro Z9 s σ H Q I h
 refine lD (nV (he Z9 s σ H _ I h) λv s1 ⟨x,H1,I1,r1,q1⟩=>?_)
 refine wpAny_Slice ?_
 rw[jA]
 refine lg (lg ?_)
 rw[jz]
 refine nV (hk Z9 s1 σ H1 _ I1 q1) λvk s2 q2=>?_;obtain⟨y,H2,I2,pk,q2⟩:=q2
 obtain⟨rfl,a,xs,rfl,hx,q⟩:=q2
 obtain⟨tk,rfl⟩:=pk
 cases r1
 have I3:Inv X Z9 σ H2 { s2 with heap:=s2.heap.push { cls:=.type "slice",data:=.fields #[.none,.none,.int (-1) tk] } }:=I2.kept (t':=s2.toks) λb ob q=>bQ _ q
 obtain⟨Z7,r,ht,hz⟩:=I3.list hx
 have hlen:=r.length
 refine tail_any (ops:=[.ref a,.ref s2.heap.objs.size]) ht.isList.typeIs eQ.lookup (aQ ht.isList (dZ ..) .none .none (.int (-1) tk) (by simp) ?_ (by rw[fo];lia)) (by with_unfolding_all rfl)
 rw[La]
 refine⟨.ref _,_,I3.laid (t':=s2.toks) (o:=.lst xs.reverse) (λb ob q=>bQ _ q) (kW _) ?_,rfl,q _ (I3.hok.fresh (kW _))⟩
 exact⟨by rw[c7];exact hz,_,0,r.reverse,da _ rfl⟩
end
end L2
namespace Kq
open PySem PySem.Spec PyProof.Rows L2
def v8 (v:FV):Option FV:=(t6 v).map λxs=>.lst xs.reverse
section
variable {X:Cx}{C:CC}{a:Expr}{ea:EW}{pos:Pos}
theorem My {p2 p3 p4:Pos} {j}(ha:FE X C a ea):FE X C (.Subscript a (.Slice none none (some (.UnaryOp .USub (.Constant (.int 1) j p3) p4)) p2) pos) (nE v8 ea):=PE.imp (Dg ha (Jm (C:=C) (ea:=eC (.int 1)) Jn)) λσ H Q q1=>by obtain⟨c,L,S,Q0,I,h,k⟩:=q1;exact
 ⟨c,L,S,_,I,h,λv L1 hv x S1 H1 r1 I1 s1=>by
  obtain⟨z,e,q⟩:=oB hv
  obtain⟨ps,e1,rfl⟩:=rE e
  cases p5 e1
  refine⟨c,L1,S1,λw L'=>w=.int (-1)/\L'=L1,I1,⟨rfl,rfl⟩,λw L' hw y S2 H2 r2 I2 s2=>?_⟩
  obtain⟨rfl,rfl⟩:=hw
  obtain⟨t,xs,rfl,ht,rt⟩:=r1.mono s2
  exact⟨r2,t,xs,rfl,SqL.of (I2.sub _ _ ht),λp hp=>(qS I2 λx S' H' r I' s'=>k _ L' q x S' H' r I' (s1.trans (s2.trans s'))).lst _ _ p rfl rt.rev hp⟩⟩
end
@[scoped simp ↓] theorem Nz (xs:List FV)(Q:FV->Prop):wp (v8 (.lst xs)) Q↔Q (.lst xs.reverse):=mf
end Kq
namespace Kq
open PySem PySem.Spec PyProof.Rows L2
def Ql (j:Nat):EW:=λL Q=>wp (lk L j) λv=>Q v (L.set j none)
@[scoped simp ↓] theorem Qk (j:Nat)(L:mV)(Q:FV->mV->Prop):Ql j L Q=wp (lk L j) λv=>Q v (L.set j none):=propext mf
section
variable {X:Cx}{C:CC}{n:Nat}{sp:ke->Nat->Sp}{a:Expr}{p:Pos}
variable {K:ke}{c:Cn}{md:Md}{L:mV}{σ:L2.St}{S H:Hp}{i j:Nat}{nx:Str}
theorem ph {L:mV}{j i:Nat}{v:FV}(z:(L.set j none)[i]?=some (some v)):i≠j/\L[i]?=some (some v):=by
 by_cases q:i=j
 ·subst q
  have hj:i<L.length:=by have:=(aI.mp z).1;rwa [im] at this
  rw[bN hj] at z;cases z
 ·rw[cK (ma q)] at z;exact⟨q,z⟩
theorem Iv.drop (I:Iv K c md L σ S H)(hm:nA md j=.own)(hj:j≠0):Iv K c md (L.set j none) σ S H where
 len:=by rw[im];exact I.len
 imm:=λi v h e=>I.imm i v h (ph e).2
 own:=λi v h e=>I.own i v h (ph e).2
 dis:=λi k v w a h1 h2 e1 e2=>I.dis i k v w a h1 h2 (ph e1).2 (ph e2).2
 sub:=I.sub
 frame:=I.frame
 s0:=I.s0
 grow:=I.grow
 lent:=λa h=>by
  obtain⟨g1,g2,g3⟩:=I.lent a h
  rw[cK hj];exact⟨g1,g2,g3⟩
 fzs:=λp hp=>by
  obtain⟨g1,g2,g3⟩:=I.fzs p hp
  have:p.1≠j:=λz=>by rw[z,hm] at g1;cases g1
  rw[cK (ma this)];exact⟨g1,g2,g3⟩
 fzm:=λi v h e=>I.fzm i v h (ph e).2
 fzp:=I.fzp
 prs:=λp hp=>let ⟨g1,g2,g3⟩:=I.prs p hp;⟨g1,g2,λi v h e=>g3 i v h (ph e).2⟩
 ntp:=I.ntp
 lnt1:=λq hq=>by
  obtain⟨g1,g2,g3⟩:=I.lnt1 q hq
  have:q.1≠j:=λz=>by rw[z,hm] at g1;cases g1
  rw[cK (ma this)];exact⟨g1,g2,g3⟩
 tie:=λy k x C dx fs w h1 h2 h3 h4=>I.tie y k x C dx fs w h1 h2 (ph h3).2 (ph h4).2
theorem NV (G:Good X C n sp)(h:C.nm j nx=true)(m:nA C.md j=.own)(hj:j≠0):FF X C (.Name nx p) (Ql j) :=
 PE.imp (pY G h) λσ H Q q1=>by
  obtain⟨c,L,S,Q0,I,h,k⟩:=q1
  obtain⟨v,e,h⟩:=oB h
  have e:=(pL _ _ _).mp e
  have mi:nA C.md j≠.imm:=λz=>by rw[m] at z;cases z
  obtain⟨l,e1,o,h0⟩:=I.own j v mi e
  refine⟨_,e1,k v _ h l S H o ⟨?_,λp hp z=>?_,λy w my ey z=>?_⟩ (I.drop m hj) (Same.refl S)⟩
  ·exact I.mine hj mi e e1 (by rw[m];rfl)
  ·obtain⟨_,_,g3⟩:=I.prs p hp
   exact g3 j v (Mo.w_own m) e (by rw[z];exact e1)
  ·obtain⟨q,ey⟩:=ph ey
   exact q (I.dis y j w v l my mi ey e z e1)
end
end Kq
set_option maxHeartbeats 1000000
set_option maxHeartbeats 4000000
namespace Kq
open PySem PySem.Spec PyProof.Rows L2 PySem.W
theorem BL {P:l8}{w:mD}{H:Hp}{h:mQ}{a:mS}{o:HO}(x:ObjOk P w H h a o):∃ u,h.get? a=some u:=by
 cases o with
 | lst xs=>exact let ⟨_,_,_,_,e⟩:=x;⟨_,e⟩
 | tup xs=>exact let ⟨_,_,_,o,e,_⟩:=x;⟨o,e⟩
 | dK Z6=>exact let ⟨_,_,_,_,o,_,_,e,_⟩:=x;⟨o,e⟩
 | dT Z6=>exact let ⟨_,_,_,_,o,_,_,e,_⟩:=x;⟨o,e⟩
 | set S n=>exact let ⟨o,_,_,_,e,_⟩:=x;⟨o,e⟩
 | ins C dx fs=>exact let ⟨_,_,_,e,_⟩:=x;⟨_,e⟩
 | big C dx fs gs=>exact let ⟨_,_,_,_,e,_⟩:=x;⟨_,e⟩
 | own y=>exact x
 | xd fs=>exact let ⟨_,⟨o,_,_,e,_⟩,_⟩:=x;⟨o,e⟩
 | rng lo hi=>exact let ⟨_,_,_,e⟩:=x;⟨_,e⟩
 | frz ob u=>exact⟨ob,x.1⟩
 | tbl ps=>exact⟨_,x⟩
 | met f y=>exact⟨_,x⟩
 | ext φ=>exact x.2.1
theorem DT {X:Cx}{Z9:List (mS×Obj)}{σ:L2.St}{H:Hp}{s:mn}{h':mQ}{a:mS}{o:HO}{t':Nat}(I:Inv X Z9 σ H s)(k:∀ b u,s.heap.get? b=some u->h'.get? b=some u)(hp:∀ b u,s.heap.get? b=some u->b≠a)(new:ObjOk X.prog X.w (n5 H a o) h' a o):Inv X Z9 σ (n5 H a o) { s with heap:=h',toks:=t' }/\H a=none:=by
 have tr:∀ {b u},H b=some u->b≠a:=λ{b u} e=>let ⟨v,hv⟩:=BL (I.hok b u e);hp b v hv
 have ow:∀ b u,H b=some u->n5 H a o b=some u:=λb u e=>by rw[m9 (tr e)];exact e
 refine⟨I.un (t':=t') ⟨λb o' e _ _ _=>k b o' e,λb o' e _ _ _=>⟨o'.slots,k b o' e⟩,λb o' e n _=>by rw[m9 (hp b o' e)];exact n,λb o' e _=>⟨o',k b o' e⟩,λb xs e=>ow b _ e,λb o' u e=>ow b _ e,λb ps e=>⟨#[],by rw[eF];exact ow b _ e⟩⟩ λb u e=>?_,?_⟩
 ·by_cases z:b=a
  ·subst z;rw[nz] at e;cases e;exact new
  ·rw[m9 z] at e
   exact (I.hok b u e).stay (λc v _ q=>k c v q) (λc e=>ow c _ e) λc xs e=>ow c _ e
 ·cases q:H a with
  | none=>rfl
  | some u=>exact absurd rfl (tr q)
def uR (xs:Array Nat):Prop:=∀ i j (hi:i<xs.size)(hj:j<xs.size),i<j->xs[i]<xs[j]
def HC (xs:Array Nat) (j r:Nat):Prop:=r<=xs.size/\(∀ k (h:k<xs.size),k<r->xs[k]<j)/\∀ k (h:k<xs.size),r<=k->j<=xs[k]
theorem uN {xs:Array Nat}{j:Nat}(rs:uR xs):∀ (f lo hi:Nat),hi<=xs.size->lo<=hi->hi-lo<=f->(∀ k (h:k<xs.size),k<lo->xs[k]<j)->(∀ k (h:k<xs.size),hi<=k->j<=xs[k])->HC xs j (eV xs j f lo hi)
 | 0,lo,hi,h1,h2,h3,a,b=>by
  have e:lo=hi:=by lia
  subst e
  exact⟨h1,a,b⟩
 | f+1,lo,hi,h1,h2,h3,a,b=>by
  unfold eV
  by_cases h:lo<hi
  ·rw[if_pos h]
   have hm:(lo+hi) / 2<xs.size:=by lia
   dsimp only
   rw[av,aP hm,fW]
   by_cases q:xs[(lo+hi) / 2]<j
   ·rw[if_pos q]
    refine uN rs f _ _ h1 ⋯ ⋯ (λk hk hl=>?_) b
    by_cases e:k=(lo+hi) / 2
    ·subst e;exact q
    ·exact km (rs k _ hk hm ⋯) q
   ·rw[if_neg q]
    refine uN rs f _ _ ⋯ ⋯ ⋯ a λk hk hl=>?_
    by_cases e:k=(lo+hi) / 2
    ·subst e;lia
    ·have:=rs _ k hm hk ⋯;lia
  ·rw[if_neg h]
   have e:lo=hi:=by lia
   subst e
   exact⟨h1,a,b⟩
theorem sW {xs:Array Nat}(rs:uR xs) (j:Nat):HC xs j (iW xs j):=by
 unfold iW
 exact uN rs _ _ _ (kW _) (kT _) ⋯ (λk _ h=>absurd h (gZ _)) λk h1 h2=>absurd h1 ⋯
theorem u5 {α:Type}(xs:Array α) (p:Nat)(x:α)(hp:p<=xs.size):(eU xs p x).toList=xs.toList.take p++x :: xs.toList.drop p:=by
 unfold eU
 simp
 exact bL (by simp)
theorem rise_list {xs:Array Nat}:uR xs↔xs.toList.Pairwise (· < ·):=by
 rw[List.pairwise_iff_getElem]
 constructor
 ·intro h i j hi hj l
  simpa using h i j (by simpa using hi) (by simpa using hj) l
 ·intro h i j hi hj l
  have:=h i j (by simpa using hi) (by simpa using hj) l
  rwa [cR,cR] at this
theorem yn {xs:Array Nat}{j:Nat}(rs:uR xs)(ne:xs[iW xs j]?≠some j):uR (eU xs (iW xs j) j):=by
 obtain⟨h1,h2,h3⟩:=sW rs j
 rw[rise_list,u5 _ _ _ h1,cD]
 have rl:=rise_list.mp rs
 refine⟨rl.sublist (fm _ _),dN.mpr ⟨λy hy=>?_,rl.sublist (List.drop_sublist _ _)⟩,λx hx y hy=>?_⟩
 ·obtain⟨i,hi,e⟩:=cH.mp hy
  simp at hi e
  have hb:iW xs j+i<xs.size:=by lia
  have g:=h3 _ hb ⋯
  rw[e] at g
  rcases Nat.lt_or_ge j y with l|l
  ·exact l
  ·have e2:y=j:=by lia
   exfalso
   by_cases z:i=0
   ·subst z
    apply ne
    rw[aP ⋯]
    simp at e
    rw[e,e2]
   ·have hb0:iW xs j<xs.size:=by lia
    have g0:=h3 _ hb0 (kW _)
    have g1:=rs _ _ hb0 hb ⋯
    rw[e] at g1;lia
 ·obtain⟨i,hi,e⟩:=cH.mp hx
  simp at hi e
  have gx:=h2 i ⋯ ⋯
  rw[e] at gx
  rcases jN.mp hy with rfl|hy
  ·exact gx
  ·obtain⟨k,hk,e'⟩:=cH.mp hy
   simp at hk e'
   have g:=h3 _ (show iW xs j+k<xs.size by lia) ⋯
   rw[e'] at g;lia
def TabOk (t:lU)(l:Bool):Prop:=t.led=l/\t.dummies = #[]/\(t.plain=true->uR t.place)
theorem TabOk.fresh (f m:Nat)(l:Bool):TabOk (.fresh f m l) l:=⟨rfl,rfl,λ_ i j hi=>absurd hi (gZ _)⟩
theorem TabOk.stand {t:lU}{l:Bool}(h:TabOk t l) (n:Nat):TabOk (t.standIn n) l:=⟨h.1,rfl,λz=>gE z⟩
theorem TabOk.orStand {t:lU}{l:Bool}(h:TabOk t l) (n:Nat):TabOk (t.orStandIn n) l:=by
 unfold SetTable.orStandIn
 split
 ·exact h
 ·exact h.stand n
theorem has_none (j:Nat):ka #[] j=false:=by
 unfold ka
 rfl
theorem xN {t:lU}(hd:t.dummies = #[]){f:Nat->Int}{h:Int}:∀ (n:Nat)(p:SetTable.Probe) (j:Nat) (d:Option Nat),p.dummy=none->eT t f h n p=some (.empty j d)->d=none/\t.slot j=.empty
 | 0,p,j,d,_,e=>by cases e
 | n+1,p,j,d,hp,e=>by
  unfold eT at e
  have ad:(t.advance p).dummy=none:=by
   unfold SetTable.advance
   split
   ·exact hp
   ·exact hp
  cases q:t.slot p.j with
  | empty=>rw[q] at e;cases e;exact⟨hp,q⟩
  | dummy =>
   exfalso
   unfold jF at q
   rw[hd,has_none] at q
   dsimp only at q
   by_cases z:(t.place[iW t.place p.j]? == some p.j)=true
   ·rw[if_pos z] at q;exact nomatch q
   ·rw[if_neg z,if_neg (by simp)] at q;exact nomatch q
  | live i =>
   rw[q] at e
   dsimp only at e
   split at e
   ·cases e
   ·exact xN hd n _ j d ad e
theorem B5 {t:lU}(hd:t.dummies = #[]){h:Int}{j:Nat}{b:Bool}(e:t.freeSlot h=some (j,b)):t.slot j=.empty:=by
 unfold SetTable.freeSlot SetTable.probe at e
 split at e
 ·rename_i j' d q
  obtain⟨rfl,q2⟩:=xN hd _ _ _ _ rfl q
  cases e
  exact q2
 ·cases e
theorem TabOk.put {t:lU}{l:Bool}(h:TabOk t l){j:Nat}(e:t.slot j=.empty):TabOk (t.put j).1 l:=by
 refine⟨h.1,?_,λp=>?_⟩
 ·show (if ka t.dummies j then _ else t.dummies) = #[]
  rw[h.2.1,has_none];rfl
 ·refine yn (h.2.2 p) λz=>?_
  unfold jF at e
  rw[if_pos (by rw[z];simp)] at e
  cases e
theorem TabOk.layNew {t:lU}{l:Bool}(h:TabOk t l)(es:Array (Int×mF)) (k:Int)(x:mF):TabOk (layNew t es k x).2.1 l:=by
 unfold PySem.layNew
 cases q:t.freeSlot k with
 | none=>exact h.stand _
 | some jb=>exact (h.put (B5 h.2.1 q)).orStand _
theorem TabOk.relay {t:lU}{l:Bool}(h:TabOk t l)(es:Array (Int×mF)) (n:Nat):TabOk (relayAll t es n).2.1 l:=by
 unfold relayAll
 cases q:t.relaid (es.map (·.1)) n with
 | none=>exact h.stand _
 | some p =>
  obtain⟨t',od⟩:=p
  dsimp only
  split
  ·show TabOk t' l
   unfold SetTable.relaid SetTable.laid at q
   cases ow:SetTable.layClean (SetTable.sizeAbove n-1) (es.map (·.1)) with
   | none=>rw[ow] at q;cases q
   | some owner =>
    rw[ow] at q
    cases q
    refine⟨h.1,rfl,λ_=>?_⟩
    rw[rise_list]
    show (List.map Prod.fst (jg (λj=>(owner.getD j none).map (j,·)) (lL _))).Pairwise (· < ·)
    rw[ft,List.pairwise_filterMap]
    refine List.pairwise_lt_range.imp λ{a b} hab x hx y hy=>?_
    cases hoa:owner.getD a none with
    | none=>rw[hoa] at hx;cases hx
    | some va =>
     cases hob:owner.getD b none with
     | none=>rw[hob] at hy;cases hy
     | some vb =>
      rw[hoa] at hx;rw[hob] at hy
      cases hx;cases hy
      exact hab
  ·exact h.stand _
def NumEs (l:List (Int×mF)):Prop:=∀ e∈l,∃ k tk,e=(hashInt k,Value.int k tk)
theorem NumEs.elems {prog:l8}{w:mD}{l:List (Int×mF)}(h:NumEs l):ElemsOf (intKind prog w) l:=λe he=>by
 obtain⟨k,tk,rfl⟩:=h e he
 exact⟨⟨k,lz _ _ _ _,rfl⟩,rfl⟩
theorem NumEs.perm {l l':List (Int×mF)}(h:NumEs l)(p:l'.Perm l):NumEs l':=λe he=>h e (p.mem_iff.mp he)
def sN (l:List (Int×mF)):List Int:=l.map λe=>numOf e.2
structure SetData (w:mD)(o:Obj)(ns:List Int)(es:Array (Int×mF)) (ep:Nat)(t:lU):Prop where
 ex:o.ExactSet
 dat:o.data=.set es ep t
 num:NumEs es.toList
 perm:(sN es.toList).Perm ns
 small:ns.length<scanBound
 fits:t.fits es.size=true
 tab:TabOk t (!w.params.followText "set-order")
inductive SetN (w:mD)(h:mQ)(a:mS)(ns:List Int):Prop
 | mk (_:ns.Nodup)(o:_)(es:_)(ep:_)(t:_)(_:h.get? a=some o)(_:SetData w o ns es ep t):SetN w h a ns
theorem SetData.size {w:mD}{o:Obj}{ns:List Int}{es:Array (Int×mF)}{ep:Nat}{t:lU}(d:SetData w o ns es ep t):es.size=ns.length:=by
 have:=d.perm.length_eq
 rw[sN,iq,dj] at this
 exact this
section
variable {prog:l8}{w:mD}{A:mC}{E:mF->mn->Prop}{s:mn}{a:mS}
theorem SetData.put {o:Obj}{ns ms:List Int}{es es':Array (Int×mF)}{ep:Nat}{t t':lU}{h:mQ}(d:SetData w o ns es ep t)(ho:h.get? a=some o)(n':NumEs es'.toList)(p':(sN es'.toList).Perm ms)(s':ms.length<scanBound)(f':t'.fits es'.size=true)(t2:TabOk t' (!w.params.followText "set-order")) :
  ∃ o',(h.update a (lG es' t')).get? a=some o'/\SetData w o' ms es' (ep+1) t':=by
 refine⟨_,ck (lG es' t') ho (by rw[putSet_of es' t' d.dat];rfl),?_⟩
 rw[putSet_of es' t' d.dat]
 exact⟨d.ex,rfl,n',p',s',f',t2⟩
theorem AO (b:Bool){Q:Unit->mn->Prop}(q:Q () s):wpAny (model prog w) A (match b with|true=>rule "set.scan.the-table-gave-way" | false=>pure ()) Q E s:=by
 cases b
 ·exact lg q
 ·exact k9 q
theorem G8 {k:Int}{tk:Nat}{ns:List Int}{Q:Bool->mn->Prop}(hS:SetN w s.heap a ns)(hr:ns.length+1<scanBound)
  (q:∀ h' b,kJ a s.heap h'->SetN w h' a (if k∈ns then ns else ns++[k])->Q b { s with heap:=h' }) :
  wpAny (model prog w) A (setAddHashed a (.int k tk) (hashInt k)) Q E s:=by
 obtain⟨nd,o,es,ep,t,ho,d⟩:=hS
 have hz:es.size<scanBound:=by rw[d.size];exact d.small
 have hk:(intKind prog w).is k (.int k tk)=true:=lz _ _ _ _
 unfold setAddHashed setAddHashedIn
 refine jq (lq (eJ ho d.dat d.fits ?_))
 dsimp only
 rw[byScan_of (knd:=intKind prog w) rfl hz d.num.elems,if_pos rfl]
 unfold setAddByScan
 refine lq (lq (k9 (lq (wpAny_setScan_of (knd:=intKind prog w) hk ho d.dat d.fits d.num.elems ?_))))
 have mem:k∈ns↔∃ e∈es.toList,(intKind prog w).is k e.2=true:=by
  rw[<- d.perm.mem_iff,sN,kC]
  constructor
  ·rintro⟨e,he,ek⟩
   obtain⟨j,tj,rfl⟩:=d.num e he
   cases (show j=k from ek)
   exact⟨_,he,lz _ _ _ _⟩
  ·rintro⟨e,he,ek⟩
   obtain⟨j,tj,rfl⟩:=d.num e he
   refine⟨_,he,?_⟩
   exact (intKind prog w).inj (.int j tj) _ _ (lz _ _ _ _) ek
 cases fr:es.toList.findIdx? (λe=>(intKind prog w).is k e.2) with
 | some j =>
  obtain⟨hj,pj,_⟩:=List.findIdx?_eq_some_iff_getElem.mp fr
  have hin:k∈ns:=mem.mpr ⟨_,gn hj,pj⟩
  refine lg (lg ?_)
  have:=q s.heap false (Heap.SameBut.refl a s.heap)
  rw[if_pos hin] at this
  exact this ⟨nd,o,es,ep,t,ho,d⟩
 | none =>
  have hni:k ∉ ns:=λz=>by
   obtain⟨e,he,pe⟩:=mem.mp z
   have:=List.findIdx?_eq_none_iff.mp fr e he
   rw[pe] at this;cases this
  rw[if_neg hni] at q
  have nd':(ns++[k]).Nodup:=by
   rw[fu]
   exact⟨nd,by simp,λx hx y hy z=>hni (by rw[dO.mp hy] at z;rw[<- z];exact hx)⟩
  dsimp only
  have lp:=layNew_perm t es (hashInt k) (.int k tk)
  have lf:=layNew_fits t es (hashInt k) (.int k tk)
  have lt:=d.tab.layNew es (hashInt k) (.int k tk)
  generalize layNew t es (hashInt k) (.int k tk)=R at lp lf lt ⊢
  obtain⟨es1,t1,wd,gv⟩:=R
  dsimp only at lp lf lt ⊢
  rw[fJ] at lp
  have n1:NumEs es1.toList:=λe he=>by
   rcases ik.mp (lp.mem_iff.mp he) with he|he
   ·exact d.num e he
   ·exact⟨k,tk,dO.mp he⟩
  have p1:(sN es1.toList).Perm (ns++[k]):=by
   refine (lp.map _).trans ?_
   rw[il]
   exact d.perm.append (.refl _)
  have s1:(ns++[k]).length<scanBound:=by rw[dS];exact hr
  have fin:∀ t2:lU,t2.fits es1.size=true->TabOk t2 (!w.params.followText "set-order")->wpAny (model prog w) A (do
    storeSet a es1 t2
    if (!wd && t2.tooFull)=true then do
      (match (relayAll t2 es1 (iV es1.size)).2.2 with|true=>rule "set.scan.the-table-gave-way" | false=>pure ())
      storeSet a (relayAll t2 es1 (iV es1.size)).1 (relayAll t2 es1 (iV es1.size)).2.1
      pure (some true)
     else pure (some true)) (λr s'=>wpAny (model prog w) A (match r with|some added=>pure added|none=>setAddHashedIn a (.int k tk) (hashInt k) 99999) Q E s') E s:=by
   intro t2 f2 g2
   have sz:es1.size<scanBound:=by
    have:=p1.length_eq
    rw[sN,iq,dj] at this
    rw[this];exact s1
   obtain⟨o1,ho1,d1⟩:=d.put ho n1 p1 s1 f2 g2
   refine lq (eI ho d.dat ?_ (eR sz))
   have b1:=db s.heap a (lG es1 t2)
   split
   ·have rp:=relayAll_perm t2 es1 (iV es1.size)
    have rf:=relayAll_fits t2 es1 (iV es1.size)
    have rt:=g2.relay es1 (iV es1.size)
    generalize relayAll t2 es1 (iV es1.size)=R at rp rf rt ⊢
    obtain⟨es2,t3,gv2⟩:=R
    dsimp only at rp rf rt ⊢
    obtain⟨o2,ho2,d2⟩:=d1.put ho1 (n1.perm rp) ((rp.map _).trans p1) s1 rf rt
    refine lq (AO _ (lq (eI ho1 d1.dat ?_ (eR (by rw[d2.size];exact s1)))))
    exact lg (lg (q _ true (b1.trans (db _ a _)) ⟨nd',o2,es2,_,t3,ho2,d2⟩))
   ·exact lg (lg (q _ true b1 ⟨nd',o1,es1,_,t2,ho1,d1⟩))
  refine lq (AO _ ?_)
  split
  ·refine lq ?_
   rw[hashByValue_scannable 8 rfl]
   refine lg ?_
   simp only[plainKind,if_true]
   exact fin t1 lf lt
  ·refine lq (lg ?_)
   simp only[if_true]
   exact fin t1 lf lt
end
theorem sit_next:Slot "set_iterator" "__next__" "set_iterator.__next__":=.of (owner:="set_iterator") (n:="__next__") (by rw[gM,bU];kernel_rfl) (by decide +kernel) (by decide +kernel) (by decide +kernel) (by first|exact .inl (by decide +kernel)|exact .inr (by decide +kernel)) (by rw[iS];kernel_rfl)
theorem xH:Slot "set_iterator" "__iter__" "set_iterator.__iter__":=.of (owner:="set_iterator") (n:="__iter__") (by rw[gM,bU];kernel_rfl) (by decide +kernel) (by decide +kernel) (by decide +kernel) (by first|exact .inl (by decide +kernel)|exact .inr (by decide +kernel)) (by rw[iS];kernel_rfl)
theorem tP:entryFor table "set_iterator.__next__" = some mh.«set_iterator.__next__»:=entryFor_of_tree (by kernel_rfl)
theorem yX:entryFor table "set.__iter__" = some mh.«frozenset.__iter__»:=iU (id':="frozenset.__iter__") (by kernel_rfl) rfl (by nofun) (by kernel_rfl)
theorem yV:entryFor table "set_iterator.__iter__" = some mh.«dict_keyiterator.__iter__»:=iU (id':="dict_keyiterator.__iter__") (by kernel_rfl) rfl (by nofun) (by kernel_rfl)
theorem tQ (a:mF):argsOk "set_iterator.__next__" ⟨[a],[]⟩:=by kernel_rfl
theorem yW (a:mF):argsOk "set_iterator.__iter__" ⟨[a],[]⟩:=by kernel_rfl
theorem rP {α:Type}:∀ {l:List α}{i:Nat}(h:i<l.length),(l[i] :: l.eraseIdx i).Perm l
 | x :: l,0,_=>by simp
 | x :: l,i+1,h=>by
  have:=rP (l:=l) (i:=i) (by simpa using h)
  simp only[List.getElem_cons_succ,List.eraseIdx_cons_succ]
  exact (List.Perm.swap x _ _).trans (this.cons x)
theorem Aq {α:Type}(f:Nat->Nat):∀ (n k:Nat)(l:List α)(out:Array α),n=l.length->(j6 f n k l out).toList.Perm (out.toList++l)
 | 0,k,l,out,h=>by
  cases l with
  | nil=>unfold j6;simp
  | cons=>simp at h
 | n+1,k,l,out,h=>by
  unfold j6
  have hp:0<l.length:=by lia
  have hm:f k % l.length<l.length:=Nat.mod_lt _ hp
  rw[aX hm]
  dsimp only
  refine (Aq f n (k+1) (l.eraseIdx (f k % l.length)) _ (by rw[ay hm];lia)).trans ?_
  rw[fJ,fB]
  refine List.Perm.append_left _ ?_
  exact rP hm
theorem BC {α:Type}(f:Nat->Nat)(xs:Array α):(pickOrder f xs).toList.Perm xs.toList:=by
 unfold pickOrder
 simpa using Aq f xs.size 0 xs.toList #[] (by simp)
section
variable {prog:l8}{w:mD}{A:mC}{E:mF->mn->Prop}{s:mn}
theorem Ce {n:Nat}{src:Source}{Q:Nat->mn->Prop}(hn:n≠0)(q:∀ i,i<n->Q i { s with drawn:=s.drawn.bump src }):wpAny (model prog w) A (choose src n) Q E s:=λΓ p hΓ=>⟨hn,q _ (Nat.mod_lt _ (Nat.pos_of_ne_zero hn))⟩
theorem AV {α:Type}:∀ (n:Nat)(xs:List α){s:mn}{Q:List α->mn->Prop},n=xs.length->(∀ ys dr,ys.Perm xs->Q ys { s with drawn:=dr })->wpAny (model prog w) A (drawOrder n xs) Q E s
 | 0,xs,s,Q,h,q=>by
  cases xs with
  | nil=>exact lg (q [] s.drawn (.refl _))
  | cons=>simp at h
 | n+1,[],s,Q,h,q=>by simp at h
 | n+1,x :: xs,s,Q,h,q=>by
  unfold drawOrder
  refine lq (Ce (by simp) λi hi=>?_)
  rw[aX hi]
  dsimp only
  refine lq (AV n ((x :: xs).eraseIdx i) (by rw[ay hi];lia) λys dr hy=>lg (q _ dr ((hy.cons _).trans (rP hi))))
end
section
variable {prog:l8}{w:mD}{A:mC}{E:mF->mn->Prop}{s:mn}{a:mS}
def SetIt (h:mQ)(it a:mS)(f:mF) (i n ep:Nat):Prop:=∃ o,h.get? it=some o/\o.cls=.type "set_iterator"/\o.data=.fields #[f,.int i 0,.ref a,.int n 0,.int ep 0]
theorem SetIt.ty {it a:mS}{f:mF}{i n ep:Nat}(x:SetIt s.heap it a f i n ep):s.TypeIs (.ref it) "set_iterator":=let ⟨o,ho,hc,_⟩:=x;⟨o,ho,hc⟩
theorem SetIt.keep {h h':mQ}{it a:mS}{f:mF}{i n ep:Nat}(x:SetIt h it a f i n ep)(k:∀ o,h.get? it=some o->h'.get? it=some o):SetIt h' it a f i n ep:=let ⟨o,ho,r⟩:=x;⟨o,k o ho,r⟩
inductive Goes (w:mD)(h:mQ)(a:mS)(es:Array (Int×mF)) (ep:Nat)(t:lU):List mF->Nat->mF->Prop
 | text {i:Nat}{sl:Nat}:w.params.followText "set-order" = true->Goes w h a es ep t ((pickOrder (w.params.setOrder a ep) es).toList.map (·.2)) i (.int sl 0)
 | table {i:Nat}:w.params.followText "set-order" = false->(!t.plain && decide (es.size > 1))=false->Goes w h a es ep t (es.toList.map (·.2)) i (.int ((if i=0 then 0 else t.place.getD (i-1) 0+1:Nat):Int) 0)
 | drawn {i:Nat}{p:mS}{od:List Nat}:w.params.followText "set-order" = false->h.IsTuple p (od.map λ(n:Nat)=>rawInt n).toArray->od.Perm (lL es.size)->Goes w h a es ep t (od.map λn=>(es.getD n (0,.none)).2) i (.ref p)
theorem DP {ns:List Int}{o:Obj}{es:Array (Int×mF)}{ep:Nat}{t:lU}{Q:mF->mn->Prop}(ho:s.heap.get? a=some o)(d:SetData w o ns es ep t)
  (q:∀ (I:mS)(h':mQ)(dr:mM)(vs:List mF)(f:mF),s.heap.objs.size<=I->(∀ p,f=.ref p->s.heap.objs.size<=p/\p≠I)->(∀ b o,s.heap.get? b=some o->h'.get? b=some o)->SetIt h' I a f 0 es.size ep->Goes w h' a es ep t vs 0 f->Q (.ref I) { s with heap:=h',drawn:=dr }):wpAny (model prog w) A (pyIter (.ref a)) Q E s:=by
 have hT:s.TypeIs (.ref a) "set":=⟨o,ho,d.ex.1⟩
 refine eL hT iF (fP iF hT yX ?_ (F.args_set_iter_1 _))
 unfold mh.«frozenset.__iter__»
 refine lq (lg ?_)
 refine lq (lq (cT ho d.dat d.fits (lg ?_)))
 unfold setDrawn setsByText
 refine lq (lq (eJ ho d.dat d.fits (lq (lq (fQ (lg (lg ?_)))))))
 show wpAny _ _ (if (!w.params.followText "set-order" && (!t.plain && decide (es.size > 1)))=true then _ else _) _ _ _
 have fin:∀ (h1:mQ)(dr:mM)(vs:List mF)(f:mF),s.heap.objs.size<=h1.objs.size->(∀ p,f=.ref p->s.heap.objs.size<=p/\p<h1.objs.size)->(∀ b o,s.heap.get? b=some o->h1.get? b=some o)->(∀ h':mQ,(∀ b o,h1.get? b=some o->h'.get? b=some o)->Goes w h' a es ep t vs 0 f)->wpAny (model prog w) A.in1 (do
   let l <- setEpoch a
   let r <- newFields "set_iterator" [f,rawInt 0,.ref a,rawInt es.size,rawInt l]
   ret r) (λfin s'=>∃ v,fin=Fin.done (Flow.ret v)/\∃ T' r,s'.TypeIs v T'/\typeLookup (Value.type T') (j9 "__next__")=pure (some r)/\Q v s') E { s with heap:=h1,drawn:=dr }:=by
  intro h1 dr vs f sz pz kp g
  refine lq (wpAny_setEpoch_of (s:={ s with heap:=h1,drawn:=dr }) (kp _ _ ho) d.dat d.fits (lq (eO (lg ⟨_,rfl,"set_iterator",_,⟨_,da _ rfl,rfl⟩,sit_next.lookup,?_⟩))))
  have k2:∀ b o,h1.get? b=some o->(h1.push { cls:=.type "set_iterator",data:=.fields #[f,rawInt 0,.ref a,rawInt es.size,rawInt ep] }).get? b=some o:=λb o e=>bQ _ e
  exact q _ _ dr vs f sz (λp z=>⟨(pz p z).1,kj (pz p z).2⟩) (λb o e=>k2 b o (kp b o e)) ⟨_,da _ rfl,rfl,rfl⟩ (g _ k2)
 by_cases hb:w.params.followText "set-order" = true
 ·rw[if_neg (by rw[hb];simp)]
  refine lq (lg ?_)
  exact fin s.heap s.drawn _ _ (kW _) (λp z=>nomatch z) (λb o e=>e) λh' _=>Goes.text (sl:=0) hb
 ·have hb:w.params.followText "set-order" = false:=by simpa using hb
  by_cases hd:(!t.plain && decide (es.size > 1))=true
  ·rw[if_pos (by rw[hb,hd];rfl)]
   refine lq (AV _ _ (by simp) λod dr p=>?_)
   have hl:od.length=es.size:=by rw[p.length_eq,fw]
   have hz:es.size<=sizeLine:=eR (by rw[d.size];exact d.small)
   refine lq (eO ?_ (by show (od.map _).toArray.size<=_;simp;lia))
   refine fin _ dr _ _ (by rw[jl];exact kU _) (λp z=>by cases z;exact⟨kW _,by rw[jl];exact f7 _⟩) (λb o e=>bQ _ e) λh' k=>Goes.drawn hb ?_ p
   exact⟨_,k _ _ (da _ rfl),rfl,_,rfl⟩
  ·have hd:(!t.plain && decide (es.size > 1))=false:=by simpa using hd
   rw[if_neg (by rw[hb,hd];simp)]
   refine lq (lg ?_)
   exact fin s.heap s.drawn _ _ (kW _) (λp z=>nomatch z) (λb o e=>e) λh' _=>Goes.table (i:=0) hb hd
theorem xv {ns:List Int}{o:Obj}{es:Array (Int×mF)}{ep:Nat}{t:lU}(d:SetData w o ns es ep t)(hd:(!t.plain && decide (es.size > 1))=false) (i:Nat)(hi:i<=es.size):iW t.place (if i=0 then 0 else t.place.getD (i-1) 0+1)=i/\t.place.size=es.size:=by
 have hs:t.place.size=es.size:=by
  have:=d.fits
  unfold SetTable.fits at this
  simp at this
  exact this.1
 have rs:uR t.place:=by
  by_cases hp:t.plain=true
  ·exact d.tab.2.2 hp
  ·have:es.size<=1:=by simp[hp] at hd;exact hd
   intro x y hx hy l
   lia
 refine⟨?_,hs⟩
 obtain⟨h1,h2,h3⟩:=sW rs (if i=0 then 0 else t.place.getD (i-1) 0+1)
 by_cases h0:i=0
 ·subst h0
  rw[if_pos rfl] at h1 h2 h3 ⊢
  by_cases z:iW t.place 0=0
  ·exact z
  ·have:=h2 0 ⋯ ⋯
   lia
 ·rw[if_neg h0] at h1 h2 h3 ⊢
  have hg:t.place.getD (i-1) 0=t.place[i-1]'⋯:=by rw[av,aP ⋯];rfl
  rw[hg] at h1 h2 h3 ⊢
  generalize iW t.place (t.place[i-1]'⋯ + 1)=r at h1 h2 h3 ⊢
  rcases Nat.lt_trichotomy r i with l|l|l
  ·have:=h3 (i-1) ⋯ ⋯
   lia
  ·exact l
  ·have a1:=h2 i ⋯ l
   have a2:=rs (i-1) i ⋯ ⋯ ⋯
   lia
theorem Ds {ns:List Int}{o:Obj}{es:Array (Int×mF)}{ep:Nat}{t:lU}{it:mS}{vs:List mF}{i:Nat}{f:mF}{Q:Option mF->mn->Prop}(ne:a≠it)(hit:SetIt s.heap it a f i es.size ep)(ho:s.heap.get? a=some o)(d:SetData w o ns es ep t)(g:Goes w s.heap a es ep t vs i f)(hi:i<vs.length)
  (q:∀ (h':mQ)(f':mF),(∀ p,f'=.ref p->f=.ref p)->kJ it s.heap h'->SetIt h' it a f' (i+1) es.size ep->(∀ h2:mQ,(∀ b o,b≠it->s.heap.get? b=some o->h2.get? b=some o)->Goes w h2 a es ep t vs (i+1) f')->Q (some vs[i]) { s with heap:=h' }):wpAny (model prog w) A (pyNext (.ref it)) Q E s:=by
 have hT:=hit.ty
 obtain⟨oi,e0,c0,d0⟩:=id hit
 unfold pyNext
 refine lq (jt (bh (name:=j9 "__next__") hT sit_next (fP sit_next hT tP ?_ (tQ _))))
 unfold mh.«set_iterator.__next__»
 refine lq (lg (lq (iP e0 d0 ?_)))
 show wpAny _ _ (setEntries a >>= _) _ _ s
 refine lq (cT ho d.dat d.fits ?_)
 rw[if_neg (by simp)]
 have step:∀ (sl nx:Nat)(x:mF),f=.int sl 0->x=vs[i]->(∀ h2:mQ,(∀ b o,b≠it->s.heap.get? b=some o->h2.get? b=some o)->Goes w h2 a es ep t vs (i+1) (.int nx 0))->(∀ (Q':Option (mF×Nat)->mn->Prop)(E':mF->mn->Prop),Q' (some (x,nx)) s->wpAny (model prog w) A.in1 (setNext a sl i ep) Q' E' s)->wpAny (model prog w) A.in1 (do
   let r <- setNext a (sl:Int).toNat (i:Int).toNat (ep:Int).toNat
   match r with
    | some (x,next)=>do
     setField (Value.ref it) 0 (rawInt next)
     setField (Value.ref it) 1 (rawInt (i+1))
     ret x
    | none=>do
     setField (Value.ref it) 2 Value.none
     let e <- newExc (Value.type "StopIteration") []
     raiseNew e) (λfin s'=>∃ v,fin=Fin.done (Flow.ret v)/\wpAny (model prog w) A (pure (some v)) Q E s') (λe s'=>wpAny (model prog w) A (do
      let b <- isInstance e (Value.type "StopIteration")
      if b=true then pure none else throw e) Q E s') s:=by
  intro sl nx x ef ex g' hn
  subst ef
  simp -iota only[fC]
  refine lq (hn _ _ ?_)
  dsimp only
  refine lq (iL e0 d0 (by simp) ?_)
  have e1:=ck (jI (·.setIfInBounds 0 (rawInt nx))) e0 (bY (dG d0 _))
  have d1:=dG d0 (·.setIfInBounds 0 (rawInt nx))
  refine lq (iL (s:={ s with heap:=_ }) e1 d1 (by simp) ?_)
  have e2:=ck (jI (·.setIfInBounds 1 (rawInt ((i:Int)+1)))) e1 (bY (dG d1 _))
  have d2:=dG d1 (·.setIfInBounds 1 (rawInt ((i:Int)+1)))
  refine lg ⟨_,rfl,lg ?_⟩
  rw[ex]
  refine q _ (.int nx 0) (λp z=>nomatch z) ((db ..).trans (db ..)) ⟨_,e2,?_,?_⟩ g'
  ·rw[fg,fg];exact c0
  ·rw[d2];simp[rawInt]
 cases g with
 | @text _ sl hb =>
  refine step sl sl _ rfl rfl (λh2 _=>.text hb) λQ' E' q'=>?_
  unfold setNext setsByText
  refine lq (eJ ho d.dat d.fits (lq (lq (fQ (lg ?_)))))
  dsimp only
  refine gK (λ_=>?_) λz=>absurd hb z
  rw[if_neg (by simp)]
  unfold setWalk setsByText
  refine lq (lq (eJ ho d.dat d.fits (lq (lq (fQ (lg ?_))))))
  dsimp only
  refine gK (λ_=>?_) λz=>absurd hb z
  refine lq (fQ (lg (lg ?_)))
  have hl:i<(pickOrder (w.params.setOrder a ep) es).size:=by simpa using hi
  show Q' (Option.map (λe=>(e.snd,sl)) (pickOrder (w.params.setOrder a ep) es)[i]?) s
  rw[aP hl]
  simpa using q'
 | table hb hd =>
  have hl:i<es.size:=by simpa using hi
  obtain⟨t1,t2⟩:=xv d hd i ⋯
  refine step _ (t.place.getD i 0+1) _ rfl rfl (λh2 _=>?_) λQ' E' q'=>?_
  ·have:=Goes.table (w:=w) (h:=h2) (a:=a) (es:=es) (ep:=ep) (t:=t) (i:=i+1) hb hd
   simpa using this
  ·unfold setNext setsByText
   refine lq (eJ ho d.dat d.fits (lq (lq (fQ (lg ?_)))))
   dsimp only
   rw[if_neg (by show ¬ w.params.followText "set-order" = true;rw[hb];simp)]
   refine gK (λz=>absurd (hd.symm.trans z) (by simp)) λ_=>?_
   refine lq (gK (λz=>?_) λ_=>lg ?_)
   ·have:t.led=true:=by rw[d.tab.1,hb];rfl
    rw[this] at z;simp at z
   ·rw[t1]
    rw[aP hl,aP (show i<t.place.size by lia)]
    refine lg ?_
    have hp:t.place.getD i 0=t.place[i]'⋯:=by rw[av,aP ⋯];rfl
    rw[hp] at q'
    simpa using q'
 | @drawn _ p od hb ht pm =>
  have hl:i<od.length:=by simpa using hi
  obtain⟨ot,o1,o2,nt,o3⟩:=id ht
  refine lq (iM o1 o3 ?_)
  dsimp only
  rw[fC,fC]
  rw[cj,fx,aX hl]
  dsimp -iota only[gY,rawInt]
  have hm:od[i]<es.size:=je.mp (pm.mem_iff.mp (gn hl))
  unfold setNextDrawn
  refine lq (lq (eJ ho d.dat d.fits ?_))
  dsimp only
  rw[if_neg (by simp),fC,aP hm]
  refine lg ?_
  refine lq (iL e0 d0 (by simp) ?_)
  have e1:=ck (jI (·.setIfInBounds 1 (rawInt ((i:Int)+1)))) e0 (bY (dG d0 _))
  have d1:=dG d0 (·.setIfInBounds 1 (rawInt ((i:Int)+1)))
  refine lg ⟨_,rfl,lg ?_⟩
  have hx:(es[od[i]]'hm).2=(od.map λn=>(es.getD n (0,.none)).2)[i]'hi:=by
   rw[gp,av,aP hm];rfl
  show Q (some (es[od[i]]'hm).2) _
  rw[hx]
  refine q _ (.ref p) (λp' z=>z) (db ..) ⟨_,e1,?_,?_⟩ λh2 k=>.drawn hb ?_ pm
  ·rw[fg];exact c0
  ·rw[d1];simp[rawInt]
  ·refine⟨ot,k p ot (λz=>?_) o1,o2,nt,o3⟩
   subst z
   rw[e0] at o1;cases o1
   rw[d0] at o3;cases o3
theorem Gv {ns : List Int} {o : Obj} {es : Array (Int × mF)} {ep : Nat} {t : lU} {it : mS} {vs : List mF} {i : Nat} {f : mF} {Q : Option mF -> mn -> Prop} (hh : A.handled = none) (hit : SetIt s.heap it a f i es.size ep) (ho : s.heap.get? a = some o) (d : SetData w o ns es ep t) (g : Goes w s.heap a es ep t vs i f) (hi : vs.length = i)
    (q:∀ h':mQ,k8 it s.heap h'->Q none { s with heap:=h' }):wpAny (model prog w) A (pyNext (.ref it)) Q E s:=by
  have hT:=hit.ty
  obtain⟨oi,e0,c0,d0⟩:=id hit
  unfold pyNext
  refine lq (jt (bh (name:=j9 "__next__") hT sit_next (fP sit_next hT tP ?_ (tQ _))))
  unfold mh.«set_iterator.__next__»
  refine lq (lg (lq (iP e0 d0 ?_)))
  show wpAny _ _ (setEntries a >>= _) _ _ s
  refine lq (cT ho d.dat d.fits ?_)
  rw[if_neg (by simp)]
  have stop : ∀ h1 : mQ, k8 it s.heap h1 -> wpAny (model prog w) A.in1 (do
          let e <- newExc (Value.type "StopIteration") []
          raiseNew e) (fun fin s' => ∃ v, fin = Fin.done (Flow.ret v) /\ wpAny (model prog w) A (pure (some v)) Q E s') (fun e s' => wpAny (model prog w) A (do
            let b <- isInstance e (Value.type "StopIteration")
            if b = true then pure none else throw e) Q E s') { s with heap := h1 } := by
    intro h1 x1
    refine lq ?_
    simp -iota only[newExc,newTuple]
    refine lq (eO ?_ (by size_fits));refine lq (m:=firstArgMember _ _) (kM (a:=Value.none) (by first|rfl|(simp -iota only[firstArgMember];rfl)) ?_);refine eO ?_ (by size_fits);simp -iota only[raiseNew]
    refine lq (jr ?_);rw[show A.in1.handled=none from hh];refine lq (lg (wpAny_throw ?_))
    refine lq (fM (T:="StopIteration") (b:=true) ⟨_,da _ rfl,rfl⟩ iT ?_);exact lg (q _ ((x1.push _).push _))
  have step : ∀ sl : Nat, f = .int sl 0 -> (∀ (Q' : Option (mF × Nat) -> mn -> Prop) (E' : mF -> mn -> Prop), Q' none s -> wpAny (model prog w) A.in1 (setNext a sl i ep) Q' E' s) -> wpAny (model prog w) A.in1 (do
      let r <- setNext a (sl:Int).toNat (i:Int).toNat (ep:Int).toNat
      match r with
        | some (x, next) => do
          setField (Value.ref it) 0 (rawInt next)
          setField (Value.ref it) 1 (rawInt (i + 1))
          ret x
        | none => do
          setField (Value.ref it) 2 Value.none
          let e <- newExc (Value.type "StopIteration") []
          raiseNew e) (fun fin s' => ∃ v, fin = Fin.done (Flow.ret v) /\ wpAny (model prog w) A (pure (some v)) Q E s') (fun e s' => wpAny (model prog w) A (do
            let b <- isInstance e (Value.type "StopIteration")
            if b = true then pure none else throw e) Q E s') s := by
    intro sl ef hn
    subst ef
    simp -iota only[fC]
    refine lq (hn _ _ ?_)
    dsimp only
    refine lq (iL e0 d0 (by simp) ?_)
    exact stop _ (db ..).extBut
  cases g with
  | @text _ sl hb =>
    refine step sl rfl λQ' E' q'=>?_
    unfold setNext setsByText
    refine lq (eJ ho d.dat d.fits (lq (lq (fQ (lg ?_)))))
    dsimp only
    refine gK (λ_=>?_) λz=>absurd hb z
    rw[if_neg (by simp)]
    unfold setWalk setsByText
    refine lq (lq (eJ ho d.dat d.fits (lq (lq (fQ (lg ?_))))))
    dsimp only
    refine gK (λ_=>?_) λz=>absurd hb z
    refine lq (fQ (lg (lg ?_)))
    have hl:(pickOrder (w.params.setOrder a ep) es).size<=i:=by simp at hi;lia
    show Q' (Option.map (λe=>(e.snd,sl)) (pickOrder (w.params.setOrder a ep) es)[i]?) s
    rw[bS hl]
    exact q'
  | table hb hd =>
    have hl:es.size=i:=by simpa using hi
    obtain⟨t1,t2⟩:=xv d hd i ⋯
    refine step _ rfl λQ' E' q'=>?_
    unfold setNext setsByText
    refine lq (eJ ho d.dat d.fits (lq (lq (fQ (lg ?_)))))
    dsimp only
    rw[if_neg (by show ¬ w.params.followText "set-order" = true;rw[hb];simp)]
    refine gK (λz=>absurd (hd.symm.trans z) (by simp)) λ_=>?_
    refine lq (gK (λz=>?_) λ_=>lg ?_)
    · have:t.led=true:=by rw[d.tab.1,hb];rfl
      rw[this] at z;simp at z
    · rw[t1]
      rw[bS ⋯]
      exact lg q'
  | @drawn _ p od hb ht pm =>
    have hl:od.length=i:=by simpa using hi
    obtain⟨ot,o1,o2,nt,o3⟩:=id ht
    refine lq (iM o1 o3 ?_)
    dsimp only
    rw[fC,fC]
    rw[cj,List.getElem?_eq_none (by simp;lia)]
    refine lq (iL e0 d0 (by simp) ?_)
    have e1:=ck (jI (·.setIfInBounds 0 (rawInt 0))) e0 (bY (dG d0 _))
    have d1:=dG d0 (·.setIfInBounds 0 (rawInt 0))
    refine lq (iL (s:={ s with heap:=_ }) e1 d1 (by simp) ?_)
    exact stop _ ((db ..).trans (db ..)).extBut
theorem Goes.keep {h h':mQ}{es:Array (Int×mF)}{ep:Nat}{t:lU}{vs:List mF}{i:Nat}{f:mF}(g:Goes w h a es ep t vs i f)(k:∀ p,f=.ref p->∀ o,h.get? p=some o->h'.get? p=some o):Goes w h' a es ep t vs i f:=by
 cases g with
 | text hb=>exact .text hb
 | table hb hd=>exact .table hb hd
 | @drawn _ p od hb ht pm =>
  obtain⟨ot,o1,r⟩:=ht
  exact .drawn hb ⟨ot,k p rfl ot o1,r⟩ pm
theorem Goes.perm {ns:List Int}{o:Obj}{h:mQ}{es:Array (Int×mF)}{ep:Nat}{t:lU}{vs:List mF}{i:Nat}{f:mF}(d:SetData w o ns es ep t)(g:Goes w h a es ep t vs i f):vs.Perm (es.toList.map (·.2)):=by
 cases g with
 | text hb=>exact (BC _ _).map _
 | table hb hd=>exact .refl _
 | @drawn _ p od hb ht pm =>
  refine (pm.map _).trans (.of_eq ?_)
  apply gr
  ·simp
  ·intro i i1 i2
   simp at i1
   simp[av,i1]
end
section
variable {prog:l8}{w:mD}{A:mC}{E:mF->mn->Prop}{s:mn}{a:mS}{ns:List Int}{o:Obj}{es:Array (Int×mF)}{ep:Nat}{t:lU}
def Bc (w:mD)(I a:mS)(o:Obj)(es:Array (Int×mF)) (ep:Nat)(t:lU)(vs:List mF)(pl:List mS) (i:Nat)(h:mQ):Prop:=(∃ f,(∀ p,f=.ref p->p∈pl)/\SetIt h I a f i es.size ep/\Goes w h a es ep t vs i f)/\h.get? a=some o
theorem Ct {I:mS}{vs:List mF}{pl:List mS}(hh:A.handled=none)(d:SetData w o ns es ep t)(ne:a≠I)(np:I ∉ pl):mE prog w A I (I :: a :: pl) [I] vs.length (λi v=>vs[i]?=some v) (Bc w I a o es ep t vs pl) where
 sub:=λb hb=>by simp at hb;simp[hb]
 frame:=λi h h' st hk=>by
  obtain⟨⟨f,f1,f2,f3⟩,ho⟩:=st
  exact⟨⟨f,f1,f2.keep λo e=>hk I (by simp) o e,f3.keep λp z o e=>hk p (by simp[f1 p z]) o e⟩,hk a (by simp) o ho⟩
 item:=λi s Q E hi st hQ=>by
  obtain⟨⟨f,f1,f2,f3⟩,ho⟩:=st
  refine Ds ne f2 ho d f3 hi λh' f' p1 sb it' g'=>?_
  have kp:∀ b o,b≠I->s.heap.get? b=some o->h'.get? b=some o:=λb o n e=>(sb.2 b n).trans e
  exact hQ _ h' s.toks (by simp[hi]) ⟨⟨f',λp z=>f1 p (p1 p z),it',g' h' kp⟩,kp a o ne ho⟩ λb o hb e=>kp b o (λz=>hb (by simp[z])) e
 done:=λs Q E st hQ=>by
  obtain⟨⟨f,f1,f2,f3⟩,ho⟩:=st
  exact Gv hh f2 ho d f3 rfl λh' eb=>hQ h' s.toks λb o hb e=>eb b o (λz=>hb (by simp[z])) e
 self:=λi s Q E st hQ=>by
  obtain⟨⟨f,f1,f2,f3⟩,ho⟩:=st
  refine eL f2.ty xH (fP xH f2.ty yV ?_ (yW _))
  show wpAny _ _ (ret (.ref I)) _ _ s
  exact lg ⟨_,rfl,"set_iterator",_,f2.ty,sit_next.lookup,hQ⟩
theorem DY {Q:Bool->mn->Prop}(hT:s.TypeIs (.ref a) "set")(q:Q false s):wpAny (model prog w) A (aq (.ref a)) Q E s:=by
 unfold aq
 refine lq (gH hT F.slot_set_len.lookup ?_)
 generalize hid:("set.__len__":String)=id0
 wp_delta
 rw[show splitId id0=some ("set","__len__") from by subst hid;nofun]
 subst hid
 refine lq (fM (T:="set") (b:=true) hT (by rw[iS];kernel_rfl) ?_)
 exact gK (λz=>absurd z (by decide)) λ_=>gK (λ_=>lq (j0 hT (lg q))) λz=>absurd (by nofun) z
theorem yG {R:List mF->mn->Prop}(hh:A.handled=none)(ho:s.heap.get? a=some o)(d:SetData w o ns es ep t)
  (q:∀ (h':mQ) (tk:Nat)(dr:mM)(vs:List mF),(∀ b o,s.heap.get? b=some o->h'.get? b=some o)->vs.Perm (es.toList.map (·.2))->R vs { s with heap:=h',toks:=tk,drawn:=dr }):wpAny (model prog w) A (collect (.ref a)) R E s:=by
 have hlt:a<s.heap.objs.size:=kI ho
 have hz:es.size<=sizeLine:=eR (by rw[d.size];exact d.small)
 unfold collect
 refine lq (iN (gP entry_proto_collect' ?_))
 rw[cS cq _]
 refine lq (m:=newList []) (eO (lg ⟨jx fG _,gP entry_list_iadd' ?_⟩))
 rw[cS fG _]
 have L0:(s.heap.push { cls:=.type "list",data:=.seq ([]:List mF).toArray }).get? s.heap.objs.size=some { cls:=.type "list",data:=.seq #[] }:=da _ rfl
 have k0:∀ b o,s.heap.get? b=some o->(s.heap.push { cls:=.type "list",data:=.seq ([]:List mF).toArray }).get? b=some o:=λb o e=>bQ _ e
 show wpAny _ A.in1 (ar (.ref s.heap.objs.size) (.ref a) (.ref s.heap.objs.size)) _ _ _
 generalize hl0:s.heap.push { cls:=.type "list",data:=.seq ([]:List mF).toArray } = g0 at L0 k0 ⊢
 have s0:g0.objs.size=s.heap.objs.size+1:=by rw[<- hl0,jl]
 unfold ar
 have hT:jE { s with heap:=g0 } (.ref a) "set":=⟨o,k0 _ _ ho,d.ex.1⟩
 refine lq (j0 (T:="set") hT ?_)
 have h1:bc (.ref s.heap.objs.size) (.ref a)=false:=by simp[bc];exact kl hlt
 have h2:(Value.type "set" == Value.type "list")=false:=by decide
 have h3:(Value.type "set" == Value.type "tuple")=false:=by decide
 simp -iota only[h1,h2,h3,Bool.or_false,eD,if_false]
 refine lq (DP (k0 _ _ ho) d λI h' dr vs f hI pz kp it g=>?_)
 have hI':s.heap.objs.size<I:=by
  have:g0.objs.size<=I:=hI
  rw[s0] at this;exact this
 have pm:=g.perm d
 have hvs:vs.length=es.size:=by rw[pm.length_eq];simp
 obtain⟨pl,p1,p2,p3⟩:∃ pl:List mS,(∀ p,f=.ref p->p∈pl)/\I ∉ pl/\s.heap.objs.size ∉ pl:=by
  by_cases z:∃ p,f=.ref p
  ·obtain⟨p,z⟩:=z
   obtain⟨y1,y2⟩:=pz p z
   have y1:g0.objs.size<=p:=y1
   rw[s0] at y1
   refine⟨[p],λp' z'=>?_,?_,?_⟩
   ·rw[z] at z';cases z';simp
   ·simp;exact λe=>y2 e.symm
   ·simp;exact kj y1
  ·exact⟨[],λp e=>absurd ⟨p,e⟩ z,by simp,by simp⟩
 have loop:∀ (h4:mQ) (c tk:Nat),Bc w I a o es ep t vs pl 0 h4->(∀ b o,s.heap.get? b=some o->h4.get? b=some o)->h4.get? s.heap.objs.size=some { cls:=.type "list",data:=.seq #[] c }->codeAny (model prog w) A (.builtin "list.extend.loop" ⟨[.ref s.heap.objs.size,.ref I,.ref s.heap.objs.size],[]⟩) (wants (λr s'=>∃ (h':mQ) (tk:Nat)(Z8:Array mF) (c':Nat),r=.ref s.heap.objs.size/\s' = { s with heap:=h',toks:=tk,drawn:=dr }/\(∀ b o,s.heap.get? b=some o->h'.get? b=some o)/\h'.get? s.heap.objs.size=some { cls:=.type "list",dict:=none,data:=.seq Z8 c',slots:=#[] }/\Z8.toList=vs) E) { s with heap:=h4,toks:=tk,drawn:=dr }:=by
  intro h4 c tk st k4 l4
  refine cw (Ct (A:=A.in1) (prog:=prog) hh d (kj (km hlt hI')) p2).toS (by rw[hvs];exact hz) s.heap.objs.size (by simp;exact⟨kj hI',kl hlt,p3⟩) (.ref s.heap.objs.size) vs.length 0 _ #[] c rfl (kT _) st l4 (ItemsOf.nil _) λs' Z8 c' hm l5 it=>?_
  rw[jK hm]
  refine⟨s'.heap,s'.toks,Z8,c',rfl,rfl,λb o e=>hm.heap b o (λz=>?_) (k4 b o e),l5,?_⟩
  ·have hb:=kI e
   rcases jN.mp z with z|z
   ·rw[z] at hb;exact jJ _ hb
   ·rw[dO.mp z] at hb;exact jJ _ (km hb hI')
  ·obtain⟨i1,i2⟩:=it
   apply gr
   ·simpa using i1
   ·intro i j1 j2
    have:=i2 i Z8[i] (by simp at j1;simp[j1])
    have:vs[i]?=some Z8[i]:=this
    rw[aX j2] at this
    rw[gX this];simp
 have st0:Bc w I a o es ep t vs pl 0 h':=⟨⟨f,p1,it,g⟩,kp _ _ (k0 _ _ ho)⟩
 have fin:∀ (r:mF)(s':mn),(∃ (h':mQ) (tk:Nat)(Z8:Array mF) (c':Nat),r=.ref s.heap.objs.size/\s' = { s with heap:=h',toks:=tk,drawn:=dr }/\(∀ b o,s.heap.get? b=some o->h'.get? b=some o)/\h'.get? s.heap.objs.size=some { cls:=.type "list",dict:=none,data:=.seq Z8 c',slots:=#[] }/\Z8.toList=vs)->wpAny (model prog w) A (do
   let .ref l:=r|unsupported "internal:collect"
   match (<- load l).data with
   | .seq xs _=>pure xs.toList
   | _=>unsupported "internal:collect") R E s':=by
  rintro r s' ⟨h5,tk,Z8,c',rfl,rfl,k5,l5,e5⟩
  refine lq (lj l5 (lg ?_))
  rw[e5]
  exact q h5 tk dr vs k5 pm
 have L1:h'.get? s.heap.objs.size=some { cls:=.type "list",data:=.seq #[] }:=kp _ _ L0
 have last:∀ (h4:mQ) (c tk:Nat),Bc w I a o es ep t vs pl 0 h4->(∀ b o,s.heap.get? b=some o->h4.get? b=some o)->h4.get? s.heap.objs.size=some { cls:=.type "list",data:=.seq #[] c }->wpAny (model prog w) A.in1 (again (.builtin "list.extend.loop" ⟨[.ref s.heap.objs.size,.ref I,.ref s.heap.objs.size],[]⟩)) (λfin s'=>match fin with
   | .done f=>match (Except.ok f:mq) with
    | .ok (.ret v)=>wpAny (model prog w) A (do
     let .ref l:=v|unsupported "internal:collect"
     match (<- load l).data with
     | .seq xs _=>pure xs.toList
     | _=>unsupported "internal:collect") R E s'
    | .ok _=>False
    | .error e=>E e s'
   | .again c'=>c'.quiet=true/\codeAny (model prog w) A c' (λr s'=>match r with
    | .ok (.ret v)=>wpAny (model prog w) A (do
     let .ref l:=v|unsupported "internal:collect"
     match (<- load l).data with
     | .seq xs _=>pure xs.toList
     | _=>unsupported "internal:collect") R E s'
    | .ok _=>False
    | .error e=>E e s') s') (λe s'=>E e s') { s with heap:=h4,toks:=tk,drawn:=dr }:=by
  intro h4 c tk x1 x2 x3
  refine lg ⟨jx dc _,j8 (loop h4 c tk x1 x2 x3) λr s' y=>?_⟩
  cases r with
  | error e=>exact y
  | ok fl=>cases fl with
   | ret v=>exact fin v s' y
   | _=>exact y.elim
 have k1:∀ b o,s.heap.get? b=some o->h'.get? b=some o:=λb o e=>kp b o (k0 b o e)
 refine lq (jq (DY (s:={ s with heap:=h',drawn:=dr }) ⟨o,k1 _ _ ho,d.ex.1⟩ ?_))
 refine gK (λ_=>?_) λ_=>last h' 0 s.toks st0 k1 L1
 refine lq (k9 (lq ?_))
 show wpAny _ _ (updateSeq s.heap.objs.size (·.push .none) >>= λ_=>updateSeq s.heap.objs.size (·.pop)) _ _ _
 refine lq (gG (s:={ s with heap:=h',drawn:=dr }) L1 rfl ?_)
 have L2:=ck (lH (·.push Value.none)) L1 rfl
 refine gG (s:={ s with heap:=_,drawn:=dr }) (hz:=by seq_fits) L2 rfl ?_
 have L3:=ck (lH (·.pop)) L2 rfl
 have k3:∀ b o,b≠s.heap.objs.size->h'.get? b=some o->((h'.update s.heap.objs.size (lH (·.push Value.none))).update s.heap.objs.size (lH (·.pop))).get? b=some o:=λb o n e=>(bP _ _ (ma n)).trans ((bP _ _ (ma n)).trans e)
 refine last _ _ s.toks ?_ (λb o e=>k3 b o (kj (kI e)) (k1 b o e)) L3
 exact⟨⟨f,p1,it.keep λo e=>k3 _ o (kl hI') e,g.keep λp z o e=>k3 p o (λy=>p3 (y ▸ p1 p z)) e⟩,k3 _ _ (kj hlt) (k1 _ _ ho)⟩
end
theorem SetN.none {w:mD}{h:mQ}{a:mS}(e:h.get? a=some { cls:=.type "set",dict:=none,data:=.set #[] 0 (.fresh 0 0 (!w.params.followText "set-order")) }):SetN w h a [] :=
 ⟨jd,_,#[],0,_,e,⟨⟨rfl,rfl,rfl⟩,rfl,λe he=>by simp at he,.refl _,by decide,rfl,TabOk.fresh _ _ _⟩⟩
theorem SetN.keep {w:mD}{h h':mQ}{a:mS}{ns:List Int}(x:SetN w h a ns)(k:∀ o,h.get? a=some o->h'.get? a=some o):SetN w h' a ns:=by
 obtain⟨nd,o,es,ep,t,ho,d⟩:=x
 exact⟨nd,o,es,ep,t,k o ho,d⟩
def ol (ns:List Int) (k:Int):List Int:=if k∈ns then ns else ns++[k]
theorem zT (ns:List Int) (k x:Int):x∈ol ns k↔x∈ns ∨ x=k:=by
 unfold ol
 by_cases h:k∈ns
 ·rw[if_pos h]
  exact⟨.inl,λz=>z.elim id λz=>z ▸ h⟩
 ·rw[if_neg h];simp
theorem zU (ns:List Int) (k:Int):(ol ns k).length<=ns.length+1:=by
 unfold ol
 split
 ·lia
 ·simp
theorem yr (x:Int):∀ (ks ns:List Int),x∈ks.foldl ol ns↔x∈ns ∨ x∈ks
 | [],ns=>by simp
 | k :: ks,ns=>by rw[iu,yr x ks,zT,jN,or_assoc]
theorem uv:∀ (ks ns:List Int),(ks.foldl ol ns).length<=ns.length+ks.length
 | [],ns=>by simp
 | k :: ks,ns=>by
  have h1:=uv ks (ol ns k)
  have h2:=zU ns k
  rw[iu,gm];lia
section
variable {prog:l8}{w:mD}{A:mC}{R:mq->mn->Prop}{s:mn}{I:mS}{fp wr:List mS}{G:Array lZ->Array lZ->Prop}{n:Nat}{P:Nat->mF->Prop}{St:Nat->mn->Prop}
theorem xq (W:WalksS prog w A.in1 I fp wr G n P St)(S:mS)(hS:S ∉ fp){ks:List Int}(hn:ks.length=n)(hv:∀ i v,P i v->∃ t,v=.int (ks.getD i 0) t)(hb:n+1<scanBound):∀ (m i:Nat)(s:mn),n-i=m->i<=n->St i s->SetN w s.heap S ((ks.take i).foldl ol []) ->
  (∀ s',Moved (S :: wr) G s s'->SetN w s'.heap S (ks.foldl ol [])->R (.ok (.ret .none)) s')->codeAny (model prog w) A (.builtin "set.update.loop" ⟨[.ref S,.ref I],[]⟩) R s
 | 0,i,s,hm,hi,st,x,k=>by
  have e:i=n:=by lia
  subst e
  refine gP bv ?_
  rw[cS bu _]
  refine lq (m:=pyNext (.ref I)) (W.done s _ _ st λs' mv=>lg (k s' (mv.mono λb hb=>cI _ hb) ?_))
  rw[bL ⋯] at x
  exact x.keep λo e=>mv.heap S o (λz=>hS (W.sub _ z)) e
 | m+1,i,s,hm,hi,st,x,k=>by
  have lt:i<n:=by lia
  refine gP bv ?_
  rw[cS bu _]
  refine lq (m:=pyNext (.ref I)) (W.item i s _ _ lt st λv s1 hP st1 mv=>?_)
  obtain⟨t,rfl⟩:=hv i v hP
  have x1:=x.keep (h':=s1.heap) λo e=>mv.heap S o (λz=>hS (W.sub _ z)) e
  refine lq (m:=holding [Value.int (ks.getD i 0) t] (setAdd S (.int (ks.getD i 0) t))) (jq ?_)
  unfold setAdd
  refine jq (lq ((intKind prog w).pyHash (k:=ks.getD i 0) (lz _ _ _ _) ?_))
  have lr:=uv (ks.take i) []
  simp only[ip,gi] at lr
  refine G8 (s:={ s1 with toks:=s1.toks+1 }) x1 ⋯ λh' b sb x2=>?_
  have e:(ks.take (i+1)).foldl ol []=ol ((ks.take i).foldl ol []) (ks.getD i 0):=by
   rw[ae ⋯,List.foldl_append,aA,aX ⋯];rfl
  refine lg ⟨jx bu _,xq W S hS hn hv hb m (i+1) _ ⋯ lt (W.frame _ s1 _ _ st1 (kU _) λb hb o e=>?_) (by rw[e];exact x2) λs2 mv2 x3=>k s2 (Moved.trans W.gtrans ((mv.mono λb hb=>cI _ hb).then_heap (kU _) λb o hb e=>?_) mv2) x3⟩
  ·rw[sb.2 b λz=>hS (z ▸ hb)];exact e
  ·rw[sb.2 b λz=>hb (by rw[z];exact dQ)];exact e
end
abbrev pA (w:mD):Obj:={ cls:=.type "set",dict:=none,data:=.set #[] 0 (.fresh 0 0 (!w.params.followText "set-order")) }
section
variable {prog:l8}{w:mD}{A:mC}{E:mF->mn->Prop}{s:mn}
theorem wE (a:mF){Q:mF->mn->Prop}(q:Q (.ref s.heap.objs.size) { s with heap:=s.heap.push (pA w) }):codeAny (model prog w) A (.call (.builtin "set.__new__") ⟨[.type "set",a],[]⟩) (wants Q E) s:=by
 refine gO (lq (m:=checkBuiltinCall "set.__new__" ⟨[.type "set",a],[]⟩) (kM (F.newCall_set_1 a) (lg ⟨jx iH _,gP F.entry_set_new ?_⟩)))
 rw[cS iH _]
 unfold mh.«set.__new__» Builtin.Frozenset.newClass
 have hsub:=sub_set_self
 obtain⟨hp,g,d,tk,os⟩:=s
 dsimp only
 wp_walk
 exact fQ (lg (lq (wpAny_alloc (lg (lg q)))))
structure NumSrc (prog:l8)(w:mD)(s:mn)(l:mS)(T:String)(ks:List Int):Prop where
 ty:s.TypeIs (.ref l) T
 su:isSubtype (.type T) (.type "set")=pure false
 sf:isSubtype (.type T) (.type "frozenset")=pure false
 nd:(Value.type T == Value.type "dict")=false
 it:∀ h:mQ,(∀ b o,s.heap.get? b=some o->h.get? b=some o)->∃ (oI:Obj)(P:Nat->mF->Prop)(St:Nat->mQ->Prop),(∀ (A':mC)(E':mF->mn->Prop)(Q:mF->mn->Prop),Q (.ref h.objs.size) { s with heap:=h.push oI }->wpAny (model prog w) A' (pyIter (.ref l)) Q E' { s with heap:=h })/\(∀ A':mC,A'.handled=none->mE prog w A' h.objs.size [h.objs.size,l] [h.objs.size] ks.length P St)/\St 0 (h.push oI)/\∀ i v,P i v->∃ t,v=.int (ks.getD i 0) t
theorem Em {l:mS}{T:String}{ks:List Int}{Q:mF->mn->Prop}(hh:A.handled=none)(N:NumSrc prog w s l T ks)(hb:ks.length+1<scanBound)
  (q:∀ (h':mQ) (tk:Nat),SetN w h' s.heap.objs.size (ks.foldl ol [])->(∀ b o,s.heap.get? b=some o->h'.get? b=some o)->Q (.ref s.heap.objs.size) { s with heap:=h',toks:=tk }):wpAny (model prog w) A (call (.type "set") [.ref l]) Q E s:=by
 obtain⟨c,tl,hmro⟩:=kK.mro
 have hmade:=kK.made
 have hsub:=kK.sub
 refine lm (gO (lg ⟨Code.quiet_builtin _ (by nofun),gP F.entry_type_call ?_⟩))
 rw[Around.under_plain (weight_type_call_type "set" [.ref l] []) rfl]
 have h1:=kK.notType;have h2:=kK.canCreate;have hct:=F.typeCall_set_1 (.ref l)
 repeat (any_goals (first|assumption|wp_step))
 refine j8 (wE (.ref l) (E:=E) (Q:=λobj s1=>obj=.ref s.heap.objs.size/\s1 = { s with heap:=s.heap.push (pA w) }) ⟨rfl,rfl⟩) λr s1 hr=>?_
 cases r with
 | error e=>exact hr
 | ok fl =>
  cases fl with
  | ret obj =>
   obtain⟨rfl,rfl⟩:=hr
   have g1:(s.heap.push (pA w)).get? s.heap.objs.size=some (pA w):=da _ rfl
   have hT:jE { s with heap:=s.heap.push (pA w) } (.ref s.heap.objs.size) "set":=⟨_,g1,rfl⟩
   have hli:=kK.init.lookup;have hbi:=kK.init.bind (.ref s.heap.objs.size)
   repeat (any_goals (first|assumption|wp_step))
   refine j8 (cx (R:=wants (λr s2=>r=.none/\∃ h' tk,s2 = { s with heap:=h',toks:=tk }/\SetN w h' s.heap.objs.size (ks.foldl ol [])/\∀ b o,s.heap.get? b=some o->h'.get? b=some o) E) kK.init.plain F.entry_set_init (check_set_init_1 hT ?_)) λr2 s2 hr2=>?_
   ·have k1:∀ b o,s.heap.get? b=some o->(s.heap.push (pA w)).get? b=some o:=λb o e=>bQ _ e
    have hTl:jE { s with heap:=s.heap.push (pA w) } (.ref l) T:=by
     obtain⟨o,e1,e2⟩:=N.ty
     exact⟨o,k1 _ _ e1,e2⟩
    have su:=N.su;have sf:=N.sf;have nd:=N.nd
    have hlt:l<s.heap.objs.size:=by obtain⟨o,e1,_⟩:=N.ty;exact kI e1
    unfold mh.«set.__init__» noKeywords Builtin.Frozenset.updateFrom
    generalize hPI:pyIter=PI
    wp_walk
    subst hPI
    obtain⟨oI,P,St,i1,W,st,hv⟩:=N.it (s.heap.push (pA w)) k1
    refine i1 _ _ _ (lq (iN ?_))
    have z1:(s.heap.push (pA w)).objs.size=s.heap.objs.size+1:=jl ..
    refine xq (W A.in1.in1.in1 hh).toS s.heap.objs.size ?_ rfl hv hb ks.length 0 _ ⋯ (kT _) st (SetN.none (bQ _ g1)) λs3 mv x=>?_
    ·rw[z1]
     simp only[jN,gc,or_false,not_or]
     exact⟨kj (f7 _),kl hlt⟩
    ·rw[jK mv]
     refine lg (lg ⟨rfl,s3.heap,s3.toks,rfl,x,λb o e=>mv.heap b o (λz=>?_) (bQ _ (k1 b o e))⟩)
     have hb':=kI e
     rcases jN.mp z with z|z
     ·rw[z] at hb';exact jJ _ hb'
     ·rw[dO.mp z,z1] at hb';exact jJ _ (km hb' (f7 _))
   ·cases r2 with
    | error e=>exact hr2
    | ok fl2 =>
     cases fl2 with
     | ret r =>
      obtain⟨rfl,h',tk,rfl,x,k⟩:=hr2
      repeat (any_goals (first|assumption|wp_step))
      exact q _ _ x k
     | _=>exact hr2.elim
  | _=>exact hr.elim
theorem src_list {l:mS}{items:Array mF}{ks:List Int}(hl:s.heap.IsList l items)(hi:me items.toList ks):NumSrc prog w s l "list" ks where
 ty:=by obtain⟨o,e,c,_⟩:=hl;exact⟨o,e,c⟩
 su:=F.sub_list_set
 sf:=F.sub_list_frozenset
 nd:=by decide
 it:=λh k=>by
  have hl2:h.IsList l items:=by obtain⟨o,e,r⟩:=hl;exact⟨o,k _ _ e,r⟩
  have hlt:l<h.objs.size:=by obtain⟨o,e,_⟩:=hl2;exact kI e
  have hz:ks.length=items.size:=by rw[<- jj hi,dj]
  rw[hz]
  exact⟨_,_,_,λA' E' Q q=>eM (s:={ s with heap:=h }) hl2 q,λA' hh=>lC hh h.objs.size l (kj hlt) items,⟨⟨_,da _ rfl,rfl,rfl⟩,hl2.push _⟩,λi v hv=>jk hi i v (by rw[cr];exact hv)⟩
theorem xx:isSubtype (.type "tuple") (.type "set")=pure false:=by rw[iS];kernel_rfl
theorem xy:isSubtype (.type "tuple") (.type "frozenset")=pure false:=by rw[iS];kernel_rfl
theorem E5 {l:mS}{items:Array mF}{ks:List Int}(hl:s.heap.IsTuple l items)(hi:me items.toList ks):NumSrc prog w s l "tuple" ks where
 ty:=by obtain⟨o,e,c,_⟩:=hl;exact⟨o,e,c⟩
 su:=xx
 sf:=xy
 nd:=by decide
 it:=λh k=>by
  have hl2:h.IsTuple l items:=by obtain⟨o,e,r⟩:=hl;exact⟨o,k _ _ e,r⟩
  have hlt:l<h.objs.size:=by obtain⟨o,e,_⟩:=hl2;exact kI e
  have hz:ks.length=items.size:=by rw[<- jj hi,dj]
  rw[hz]
  exact⟨_,_,_,λA' E' Q q=>dm (s:={ s with heap:=h }) hl2 q,λA' hh=>Walks.tuple hh h.objs.size l (kj hlt) items,⟨⟨_,da _ rfl,rfl,rfl⟩,hl2.push _⟩,λi v hv=>jk hi i v (by rw[cr];exact hv)⟩
end
def EA (prog:l8)(w:mD) (m:Nat):Prop:=∀ (A:mC)(E:mF->mn->Prop)(s:mn)(a:mS) (n:Nat)(vs:List mF)(ns:List Int)(P:PySem.Fin->mn->Prop),s.heap.get? a=some (seqObj "list" vs.toArray n)->me vs ns->vs.length<=m ->
 (∀ (us:List mF)(ms:List Int)(h':mQ) (c tk:Nat),me us ms->ms.Perm ns->ms.Pairwise (·<=·)->h'.get? a=some (seqObj "list" us.toArray c)->(∀ b o,b≠a->s.heap.get? b=some o->h'.get? b=some o)->P (.done (.ret .none)) { s with heap:=h',toks:=tk }) ->
 wpAny (model prog w) A (mh.«list.sort» ⟨[.ref a],[]⟩) P E s
theorem E6 (prog:l8)(w:mD):EA prog w 63:=by
 intro A E s a n vs ns P ho hi hl k
 refine list_sort_tree ho hi ⋯ λout ms i1 i2 i3=>?_
 obtain⟨c,hc⟩:=sortedHeap_at (out:=out) ho
 exact k out.toList ms _ c s.toks i1 i2 i3 (by rw[cQ];exact hc) λb o hb e=>(sortedHeap_old hb (kI e)).trans e
section
variable {X:Cx}
def EB (w:mD)(a:mS)(ns:List Int):HO:=.ext λh=>SetN w h a ns
inductive rSet (X:Cx)(xs:List V)(H:Hp)(Q:VK):Prop
 | mk (a:mS)(ns:List Int)(_:xs=[.ref a])(_:(SqL X.K H a (ns.map V.int) ∨ SqT X.K H a (ns.map V.int)))(_:ns.length+1<scanBound)(_:∀ p,H p=none->Q (.ref p) (n5 H p (EB X.w p (ns.foldl ol [])))):rSet X xs H Q
theorem MO (hc:X.calm=true):nO X (.type "set") (rSet X):=by
 rintro Z9 s σ H xs us Q I r ⟨a,ns,rfl,hl,hb,k⟩
 obtain⟨u,rfl,ru⟩:=vals1 r
 cases (show u=Value.ref a from ru)
 have fin:∀ {T:String},NumSrc X.prog X.w s a T ns->wpAny (model X.prog X.w) X.A (call (.type "set") [.ref a]) (EP X Z9 σ Q) X.xe s:=λ{T} N=>by
  refine Em (I.ok.hd hc) N hb λh' tk x kp=>?_
  refine⟨.ref s.heap.objs.size,_,I.laid (a:=s.heap.objs.size) (o:=EB X.w s.heap.objs.size (ns.foldl ol [])) (t':=tk) kp (kW _) ⟨x,?_,λh1 h2 y kk=>y.keep kk⟩,rfl,k _ (I.hok.fresh (kW _))⟩
  obtain⟨_,o,_,_,_,ho,_⟩:=x
  exact⟨o,ho⟩
 rcases hl with hl|hl
 ·obtain⟨Z7,rv,pl,_⟩:=I.list hl
  exact fin (src_list pl.isList (by simpa using DX rv))
 ·obtain⟨Z7,rv,pl,_⟩:=I.tuple hl
  exact fin (E5 pl (by simpa using DX rv))
inductive rSortS (X:Cx) (m:Nat)(xs:List V)(H:Hp)(Q:VK):Prop
 | mk (a:mS)(ns:List Int)(_:xs=[.ref a])(_:H a=some (EB X.w a ns))(_:ns.length<=m)(_:∀ p (ms:List Int),H p=none->ms.Perm ns->ms.Pairwise (·<=·)->Q (.ref p) (n5 H p (.lst (ms.map V.int)))):rSortS X m xs H Q
theorem GG (hc:X.calm=true){m:Nat}(hm:m<=100000)(S:EA X.prog X.w m):nO X (.builtin "sorted") (rSortS X m):=by
 rintro Z9 s σ H xs us Q I r ⟨a,ns,rfl,ha,hb,k⟩
 obtain⟨u,rfl,ru⟩:=vals1 r
 cases (show u=Value.ref a from ru)
 obtain⟨⟨nd,o,es,ep,t,ho,d⟩,_,_⟩:=(show ObjOk X.prog X.w H s.heap a (EB X.w a ns) from I.hok a _ ha)
 refine Calls.call_function_entry kind_sorted plain_sorted entry_sorted (args_sorted1 _) ?_
 unfold mh.«sorted»
 refine lq (m:=checkCount "sorted" 1 1 _) (lg (lq (yG (I.ok.hd hc) ho d λh1 tk dr vs k1 pv=>?_)))
 have hi:me vs (vs.map numOf):=by
  have:∀ x∈vs,∃ i t,x=.int i t:=λx hx=>by
   obtain⟨e,he,rfl⟩:=kC.mp (pv.mem_iff.mp hx)
   obtain⟨i,t,rfl⟩:=d.num e he
   exact⟨i,t,rfl⟩
  clear pv
  induction vs with
  | nil=>exact .nil
  | cons x r ih =>
   obtain⟨i,t,rfl⟩:=this x (by simp)
   exact .cons i t (ih λy hy=>this y (by simp[hy]))
 have pn:(vs.map numOf).Perm ns:=by
  refine (pv.map numOf).trans ?_
  rw[kG]
  exact d.perm
 have hl:vs.length<=m:=by have:=pn.length_eq;rw[iq] at this;lia
 refine lq (wpAny_newList ?_ (by rw[kP];lia))
 have hoL:(h1.push (seqObj "list" vs.toArray 0)).get? h1.objs.size=some (seqObj "list" vs.toArray 0):=da _ rfl
 have old:∀ b o,s.heap.get? b=some o->b≠h1.objs.size:=λb o e=>kj (kI (k1 b o e))
 show wpAny _ _ _ _ _ { s with heap:=h1.push (seqObj "list" vs.toArray 0),toks:=tk,drawn:=dr }
 refine lq (jq (fP slot_list_sort ⟨_,hoL,rfl⟩ entry_list_sort (S _ _ { s with heap:=h1.push (seqObj "list" vs.toArray 0),toks:=tk,drawn:=dr } _ _ vs _ _ hoL hi hl λus ms h' c tk' i1 i2 i3 i4 i5=>⟨_,rfl,?_⟩) (args_list_sort _)))
 have kp:∀ b o,s.heap.get? b=some o->h'.get? b=some o:=λb o e=>i5 b o (old b o e) (bQ _ (k1 b o e))
 have I0:Inv X Z9 σ H { s with drawn:=dr }:=⟨I.ok,I.os,I.bare,I.base,I.loc,I.cell,I.free,I.freeC,I.pin,I.hok,I.len⟩
 obtain⟨I2,hD⟩:=DT (a:=h1.objs.size) (o:=.lst (ms.map V.int)) (t':=tk') I0 kp old ⟨by rw[iq,i2.length_eq,iq,kP];lia,us,c,Ho i1,i4⟩
 exact lg ⟨_,rfl,.ref h1.objs.size,_,I2,rfl,k _ ms hD (i2.trans pn) i3⟩
end
def wW (m:Nat)(a:EW):EW:=λL Q=>a L λv L1=>wp (oV v) λxs=>wp (nR xs) λns=>ns.length<=m/\ns.length<=4000/\∀ ms:List Int,(∀ x,x∈ms↔x∈ns)->ms.Pairwise (· < ·)->Q (.lst (ms.map .int)) L1
@[scoped simp ↓] theorem K0 (m:Nat)(a:EW)(L:mV)(Q:FV->mV->Prop):wW m a L Q=(a L λv L1=>wp (oV v) λxs=>wp (nR xs) λns=>ns.length<=m/\ns.length<=4000/\∀ ms:List Int,(∀ x,x∈ms↔x∈ns)->ms.Pairwise (· < ·)->Q (.lst (ms.map .int)) L1):=propext mf
theorem uu:∀ (ks ns:List Int),ns.Nodup->(ks.foldl ol ns).Nodup
 | [],ns,h=>h
 | k :: ks,ns,h=>by
  refine uu ks _ ?_
  unfold ol
  split
  ·exact h
  ·rename_i hk
   rw[fu]
   exact⟨h,by simp,λx hx y hy z=>hk (by rw[dO.mp hy] at z;rw[<- z];exact hx)⟩
theorem Bq {ms:List Int}(h1:ms.Pairwise (·<=·))(h2:ms.Nodup):ms.Pairwise (· < ·):=by
 have:=List.Pairwise.and h1 h2
 exact this.imp λ{a b} h=>by have:=h.1;have:=h.2;lia
section
variable {X:Cx}{C:CC}{n:Nat}{sp:ke->Nat->Sp}{a:Expr}{ea:EW}{pos pos' p p':Pos}
theorem CL {m:Nat}(hm:m<=100000)(S:EA X.prog X.w m)(G:Good X C n sp)(hg:C.gl (j9 "sorted")=true)(hg':C.gl (j9 "set")=true)(hs:nv a=false)(ha:FR X C a ea):FE X C (.Call (.Name (j9 "sorted") p) [.Call (.Name (j9 "set") p') [a] [] pos'] [] pos) (wW m ea):=by
 have inner:=sF (X:=X.nox) (pos:=pos') (p:=p') (MO (X:=X.nox) G.calm) (G.gl hg') (G.blt "set" (by decide)) (by nofun) (nC ha n6 (m3 hs)) (by nofun) (by nofun) (m3 hs) rfl
 refine PE.imp (qQ (GG (X:=X.nox) G.calm hm S) (G.gl hg) (G.blt "sorted" (by decide)) (by nofun) (nC inner n6 (m3 rfl)) (by nofun) (by nofun) (m3 rfl) rfl) λσ H Q q1=>?_;obtain⟨c,L,S0,Q0,I,h,k⟩:=q1
 refine⟨c,L,S0,_,I,h,λv L1 hv x S1 H1 r1 I1 s1=>?_⟩
 obtain⟨xs,e1,hv⟩:=oB hv
 obtain⟨ns,e2,t1,t2,q⟩:=oB hv
 obtain⟨a,ys,rfl,hq,ry⟩:=r1.seq I1.sub e1
 cases nY ry e2
 have hfl:=uv ns []
 simp at hfl
 refine⟨a,ns,rfl,?_,by unfold scanBound;lia,λp hp=>?_⟩
 ·cases v with
  | tup _=>exact .inr hq
  | lst _=>exact .inl hq
  | scr _=>exact .inl hq
  | _=>cases e1
 refine⟨p,ns.foldl ol [],rfl,nz,by lia,λp2 ms hp2 pm po=>?_⟩
 have I2:=I1.new hp (EB X.w p (ns.foldl ol []))
 refine k _ L1 (q ms (λx=>?_) (Bq po (pm.nodup_iff.mpr (uu ns [] jd)))) _ _ _ ⟨p2,_,rfl,nz,RVs.ns ms⟩ (I2.new hp2 _) ((s1.trans (nH (I1.sn hp))).trans (nH (I2.sn hp2)))
 rw[pm.mem_iff,yr];simp
theorem KZ (G:Good X C n sp)(hg:C.gl (j9 "sorted")=true)(hg':C.gl (j9 "set")=true)(hs:nv a=false)(ha:FR X C a ea):FE X C (.Call (.Name (j9 "sorted") p) [.Call (.Name (j9 "set") p') [a] [] pos'] [] pos) (wW 63 ea):=CL (by decide) (E6 _ _) G hg hg' hs ha
end
end Kq
namespace Kq
open PySem PySem.Spec PyProof.Rows L2
def tx (v:FV)(lo hi:Option Int):Option FV:=(oF v).map λxs=>.lst (nT xs lo hi)
def Gz (a:EW)(l h:OW):EW:=λL Q=>a L λx L1=>l L1 λi L2=>h L2 λj L3=>wp (tx x i j) λz=>Q z L3
inductive RslL (K:ke)(x:V)(lo:Option Int)(hi:Option Int)(H:Hp)(Q:VK):Prop
 | mk (S:_)(v:_)(z:_)(_:Same S H)(_:RH K S H v x)(_:tx v lo hi=some z)(_:NewOr K S H Q z):RslL K x lo hi H Q
section
variable {X:Cx}{C:CC}{a:Expr}{ea:EW}{pos:Pos}
theorem LA:KN X (RslL X.K):=by
 intro Z9 s σ H x v vl vu lo hi sl Q I rx hsl pl pu ⟨S,p,z,hs,rp,e,k⟩
 obtain⟨ps,e1,rfl⟩:=bI.mp e
 obtain⟨a,xs,rfl,ha,ra⟩:=rp.list hs e1
 exact Ah Z9 s σ H _ v vl vu lo hi sl Q I rx hsl pl pu ⟨a,xs,rfl,ha,λp hp=>k.lst _ _ p rfl (wY ra) hp⟩
variable {xl xh:Option Expr}{wl wh:OW}{p2:Pos}
theorem Pq (ha:FE X C a ea)(hl:FO X C xl wl)(hh:FO X C xh wh):FE X C (.Subscript a (.Slice xl xh none p2) pos) (Gz ea wl wh):=PE.imp (tX LA ha hl hh) λσ H Q q1=>by obtain⟨c,L,S,Q0,I,h,k⟩:=q1;exact
 ⟨c,L,S,_,I,h,λv L1 hv x S1 H1 r1 I1 s1=>⟨c,L1,S1,_,I1,hv,λo1 L2 h1 S2 H2 I2 s2=>⟨c,L2,S2,_,I2,h1,λo2 L3 h2 S3 H3 I3 s3=>by
  obtain⟨z,e,q⟩:=oB h2
  exact⟨S3,v,z,I3.sub,.inl (r1.mono (s2.trans s3)),e,qS I3 λx S' H' r I' s'=>k z L3 q x S' H' r I' (s1.trans (s2.trans (s3.trans s')))⟩⟩⟩⟩
end
@[scoped simp ↓] theorem Oo (a:EW)(l h:OW)(L:mV)(Q:FV->mV->Prop):Gz a l h L Q=(a L λx L1=>l L1 λi L2=>h L2 λj L3=>wp (tx x i j) λz=>Q z L3):=propext mf
@[scoped simp ↓] theorem k_slL (v:FV)(lo hi:Option Int)(Q:FV->Prop):wp (tx v lo hi) Q↔wp (oF v) λxs=>Q (.lst (nT xs lo hi)):=oQ _ _ _
end Kq
namespace Kq
@[scoped simp ↓ high] theorem lk_1 (a0:Option FV)(v:FV)(L:mV)(Q:FV->Prop):wp (lk (a0 :: some v :: L) 1) Q=Q v:=propext mf
@[scoped simp ↓ high] theorem lk_2 (a0 a1:Option FV)(v:FV)(L:mV)(Q:FV->Prop):wp (lk (a0 :: a1 :: some v :: L) 2) Q=Q v:=propext mf
@[scoped simp ↓ high] theorem lk_3 (a0 a1 a2:Option FV)(v:FV)(L:mV)(Q:FV->Prop):wp (lk (a0 :: a1 :: a2 :: some v :: L) 3) Q=Q v:=propext mf
@[scoped simp ↓ high] theorem lk_4 (a0 a1 a2 a3:Option FV)(v:FV)(L:mV)(Q:FV->Prop):wp (lk (a0 :: a1 :: a2 :: a3 :: some v :: L) 4) Q=Q v:=propext mf
@[scoped simp ↓ high] theorem lk_5 (a0 a1 a2 a3 a4:Option FV)(v:FV)(L:mV)(Q:FV->Prop):wp (lk (a0 :: a1 :: a2 :: a3 :: a4 :: some v :: L) 5) Q=Q v:=propext mf
@[scoped simp ↓ high] theorem lk_6 (a0 a1 a2 a3 a4 a5:Option FV)(v:FV)(L:mV)(Q:FV->Prop):wp (lk (a0 :: a1 :: a2 :: a3 :: a4 :: a5 :: some v :: L) 6) Q=Q v:=propext mf
@[scoped simp ↓ high] theorem lk_7 (a0 a1 a2 a3 a4 a5 a6:Option FV)(v:FV)(L:mV)(Q:FV->Prop):wp (lk (a0 :: a1 :: a2 :: a3 :: a4 :: a5 :: a6 :: some v :: L) 7) Q=Q v:=propext mf
@[scoped simp ↓ high] theorem lk_8 (a0 a1 a2 a3 a4 a5 a6 a7:Option FV)(v:FV)(L:mV)(Q:FV->Prop):wp (lk (a0 :: a1 :: a2 :: a3 :: a4 :: a5 :: a6 :: a7 :: some v :: L) 8) Q=Q v:=propext mf
@[scoped simp ↓ high] theorem lk_9 (a0 a1 a2 a3 a4 a5 a6 a7 a8:Option FV)(v:FV)(L:mV)(Q:FV->Prop):wp (lk (a0 :: a1 :: a2 :: a3 :: a4 :: a5 :: a6 :: a7 :: a8 :: some v :: L) 9) Q=Q v:=propext mf
@[scoped simp ↓ high] theorem lk_10 (a0 a1 a2 a3 a4 a5 a6 a7 a8 a9:Option FV)(v:FV)(L:mV)(Q:FV->Prop):wp (lk (a0 :: a1 :: a2 :: a3 :: a4 :: a5 :: a6 :: a7 :: a8 :: a9 :: some v :: L) 10) Q=Q v:=propext mf
end Kq
namespace Kq
open PySem PySem.Spec PyProof.Rows L2
def OT:SW:=λ_ _=>False
@[scoped simp ↓] theorem No (L:mV)(Q:FFl->mV->Prop):OT L Q=False:=rfl
end Kq
namespace Kq
open PySem PySem.Spec PyProof.Rows L2
theorem vi {α:Type}(c:Array α):∀ n,n<=c.size->(lL n).filterMap (c[·]?)=c.toList.take n
 | 0,_=>rfl
 | n+1,h=>by
  rw[ic,List.filterMap_append,vi c n ⋯]
  have hn:n<c.toList.length:=by simp;lia
  rw[ae hn]
  congr 1
  simp[show n<c.size by lia]
theorem FX (p m:Str):(p++m).length=p.length+m.length:=by
 show (p.cps++m.cps).size=_
 rw[fK];rfl
def EJ (b:Bool):Int:=if b=true then 1 else 0
def xj (v w:FV):Option FV:=match v with
 | .str a=>match w with
  | .str b=>if a.length+b.length<=big then some (.str (a++b)) else none
  | _=>none
 | .bl a=>(pM w).bind λj=>some (.int (EJ a+j))
 | v=>m8 v w
def xz (v w:FV):Option FV:=match v with
 | .bl a=>(pM w).bind λj=>some (.int (EJ a-j))
 | .int i=>match w with
  | .bl b=>some (.int (i-EJ b))
  | .int j=>some (.int (i-j))
  | _=>none
 | _=>none
def Du (v w:FV):Option FV:=match v with
 | .bl a=>(pM w).bind λj=>some (.int (EJ a*j))
 | v=>pR v w
theorem E2 (a b:String):j9 a++j9 b=j9 (a++b):=by
 rw[bE,bE,bE,String.toList_append,il]
 show (⟨(_:Array Nat)++_⟩:Str)=⟨_⟩
 congr 1
 exact List.append_toArray ..
theorem wL {x:Str}(h:(x.length == 0)=true):x=⟨#[]⟩:=by
 obtain⟨x⟩:=x
 have:x.size=0:=beq_iff_eq.mp h
 rw[Array.eq_empty_of_size_eq_zero this]
section
variable {X:Cx}{C:CC}{a b x:Expr}{ea eb:EW}{pos p2:Pos}{xl:Option Expr}{wl:OW}
theorem Il:pD X (binaryOp .Add) (Rq X.K xj):=by
 intro Z9 s σ H x y u1 u2 Q I rx ry ⟨S,v,w,z,hs,hv,hw,e,k⟩
 cases v with
 | str a =>
  cases w with
  | str b =>
   obtain⟨hc,rfl⟩:=rn e
   obtain rfl:x=.str (j9 a):=hv.val rfl
   obtain rfl:y=.str (j9 b):=hw.val rfl
   obtain⟨t,rfl⟩:=rx
   obtain⟨u,rfl⟩:=ry
   have q:=k.str
   rw[<- E2] at q
   refine PySem.P.add_str ?_
   by_cases h1:((j9 a).length == 0)=true
   ·rw[if_pos h1]
    refine⟨.str (j9 b),H,I,⟨u,rfl⟩,?_⟩
    rw[wL h1] at q
    rwa [show (⟨#[]⟩:Str)++j9 b=j9 b from congrArg Str.mk (Array.empty_append ..)] at q
   ·rw[if_neg h1]
    by_cases h2:((j9 b).length == 0)=true
    ·rw[if_pos h2]
     refine⟨.str (j9 a),H,I,⟨t,rfl⟩,?_⟩
     rw[wL h2] at q
     rwa [show j9 a++(⟨#[]⟩:Str)=j9 a from congrArg Str.mk (eF ..)] at q
    ·rw[if_neg h2]
     refine⟨?_,.str _,H,I.tok _,⟨_,rfl⟩,q⟩
     have:=oj
     rw[FX,bV,bV];lia
  | _=>cases e
 | bl a =>
  obtain⟨j,e1,e⟩:=oz e
  cases e;cases nL e1
  obtain rfl:=hv.bl
  obtain rfl:=hw.int
  cases (show u1=_ from rx)
  obtain⟨t,rfl⟩:=ry
  exact PySem.IntBool.add_bool_int ⟨.int _,H,I.tok _,⟨_,rfl⟩,k.int⟩
 | _=>exact Hi Z9 s σ H x y u1 u2 Q I rx ry ⟨S,_,w,z,hs,hv,hw,e,k⟩
theorem Ic:pD X (binaryOp .Sub) (Rq X.K xz):=by
 intro Z9 s σ H x y u1 u2 Q I rx ry ⟨S,v,w,z,hs,hv,hw,e,k⟩
 cases v with
 | bl a =>
  obtain⟨j,e1,e⟩:=oz e
  cases e;cases nL e1
  obtain rfl:=hv.bl
  obtain rfl:=hw.int
  cases (show u1=_ from rx)
  obtain⟨t,rfl⟩:=ry
  exact PySem.IntBool.sub_bool_int ⟨.int _,H,I.tok _,⟨_,rfl⟩,k.int⟩
 | int i =>
  cases w with
  | bl b =>
   cases e
   obtain rfl:=hv.int
   obtain rfl:=hw.bl
   obtain⟨t,rfl⟩:=rx
   cases (show u2=_ from ry)
   exact PySem.IntBool.sub_int_bool ⟨.int _,H,I.tok _,⟨_,rfl⟩,k.int⟩
  | int j=>exact Hg Z9 s σ H x y u1 u2 Q I rx ry ⟨S,_,_,z,hs,hv,hw,e,k⟩
  | _=>cases e
 | _=>cases e
theorem Ig:pD X (binaryOp .Mult) (Rq X.K Du):=by
 intro Z9 s σ H x y u1 u2 Q I rx ry ⟨S,v,w,z,hs,hv,hw,e,k⟩
 cases v with
 | bl a =>
  obtain⟨j,e1,e⟩:=oz e
  cases e;cases nL e1
  obtain rfl:=hv.bl
  obtain rfl:=hw.int
  cases (show u1=_ from rx)
  obtain⟨t,rfl⟩:=ry
  exact PySem.IntBool.mul_bool_int ⟨.int _,H,I.tok _,⟨_,rfl⟩,k.int⟩
 | _=>exact C1 Z9 s σ H x y u1 u2 Q I rx ry ⟨S,_,w,z,hs,hv,hw,e,k⟩
theorem Oe (ha:FE X C a ea)(hb:FR X C b eb):FE X C (.BinOp a .Add b pos) (mX xj ea eb):=si Il ha hb
theorem N1 (ha:FE X C a ea)(hb:FR X C b eb):FE X C (.BinOp a .Sub b pos) (mX xz ea eb):=si Ic ha hb
theorem N2 (ha:FE X C a ea)(hb:FR X C b eb):FE X C (.BinOp a .Mult b pos) (mX Du ea eb):=si Ig ha hb
def tL (x:String):String:=String.ofList (x.toList.drop 1)
def tw (v:FV)(lo hi:Option Int):Option FV:=match v with
 | .str x=>if lo=some 1/\hi=none/\x.length<=big then some (.str (tL x)) else none
 | _=>none
def J1 (a:EW)(l h:OW):EW:=λL Q=>a L λx L1=>l L1 λi L2=>h L2 λj L3=>wp (tw x i j) λz=>Q z L3
inductive RslT (K:ke)(x:V)(lo:Option Int)(hi:Option Int)(H:Hp)(Q:VK):Prop
 | mk (S:_)(v:_)(z:_)(_:Same S H)(_:RH K S H v x)(_:tw v lo hi=some z)(_:NewOr K S H Q z):RslT K x lo hi H Q
theorem Db (len:Nat):am (some 1) none 1 len=kX 1 (len-1):=by
 unfold am sliceRange
 simp only[show (1:Int) > 0 from by decide,show ¬ (1:Int)<0 from by decide,if_true,if_false]
 by_cases z:len=0
 ·subst z;rfl
 ·have e:max (0:Int) (min 1 (len:Int))=1:=by lia
  rw[e]
  have e2:(if (1:Int)<(len:Int) then ((len:Int)-1+1-1) / 1 else 0).toNat=len-1:=by
   by_cases h:(1:Int)<len
   ·rw[if_pos h];lia
   ·rw[if_neg h];lia
  rw[e2,aV]
  refine c5 λk _=>?_
  lia
theorem BD {α:Type}(c:Array α):(kX 1 (c.size-1)).filterMap (c[·]?)=c.toList.drop 1:=by
 obtain⟨l⟩:=c
 cases l with
 | nil=>rfl
 | cons x r =>
  show (kX 1 (r.length+1-1)).filterMap (λi=>(⟨x :: r⟩:Array α)[i]?)=r
  rw[dI,aV,dW]
  have h:=vi r.toArray r.length (by simp)
  rw[bL (by simp)] at h
  exact (congrArg (λf=>(lL r.length).filterMap f) (funext λk=>by
   show (⟨x :: r⟩:Array α)[1+k]?=r.toArray[k]?
   rw[kA];simp)).trans h
theorem Lz:KN X (RslT X.K):=by
 intro Z9 s σ H x v vl vu lo hi sl Q I rx hs pl pu ⟨S,p,z,hs',rp,e,k⟩
 cases p with
 | str a =>
  obtain⟨⟨rfl,rfl,hz⟩,rfl⟩:=rn e
  obtain rfl:x=.str (j9 a):=rp.val rfl
  obtain⟨t,rfl⟩:=rx
  have eu:vu=.none:=by cases pu;rfl
  obtain⟨tk,rfl⟩:∃ tk,vl=.int 1 tk:=by cases pl;exact⟨_,rfl⟩
  subst eu
  refine⟨"str",_,PySem.F.slot_str_getitem.lookup,typeIs_str s _ t,?_⟩
  obtain⟨o,h1,h2,h3⟩:=hs
  refine wpAny_getItem_str_slice (l:=some ((1:Int),tk)) (u:=none) (st:=none) ⟨o,h1,h2,h3⟩ rfl ?_
  unfold sliceMade
  have e:slicePicked (j9 a) (some ((1:Int),tk)) none none=kX 1 ((j9 a).length-1):=Db _
  have hl:(j9 a).length=a.length:=bV a
  have et:j9 (tL a)=⟨((j9 a).cps.toList.drop 1).toArray⟩:=by
   rw[bE,bE]
   unfold tL
   rw[String.toList_ofList,jP]
  have ht:(⟨((kX 1 ((j9 a).length-1)).filterMap ((j9 a).cps[·]?)).toArray⟩:Str)=j9 (tL a):=by
   rw[et]
   exact congrArg (λl=>(⟨l.toArray⟩:Str)) (BD (j9 a).cps)
  rw[e]
  split
  ·rename_i z
   have z:=(cP.mp z).2
   have z:(j9 a).length=0:=by simp at z;lia
   have z:=wL (beq_iff_eq.mpr z)
   refine⟨.str (j9 a),H,I,⟨t,rfl⟩,?_⟩
   have q:=k.str
   rw[et,z] at q
   rw[z];exact q
  ·rw[ht]
   have:=oj
   refine⟨?_,.str _,H,I.tok _,⟨_,rfl⟩,k.str⟩
   rw[bV]
   unfold tL
   rw[cz,gj]
   have:a.toList.length=a.length:=cy
   lia
 | _=>cases e
variable {xh:Option Expr}{wh:OW}
theorem Pp (ha:FE X C a ea)(hl:FO X C xl wl)(hh:FO X C xh wh):FE X C (.Subscript a (.Slice xl xh none p2) pos) (J1 ea wl wh):=PE.imp (tX Lz ha hl hh) λσ H Q q1=>by obtain⟨c,L,S,Q0,I,h,k⟩:=q1;exact
 ⟨c,L,S,_,I,h,λv L1 hv x S1 H1 r1 I1 s1=>⟨c,L1,S1,_,I1,hv,λo1 L2 h1 S2 H2 I2 s2=>⟨c,L2,S2,_,I2,h1,λo2 L3 h2 S3 H3 I3 s3=>by
  obtain⟨z,e,q⟩:=oB h2
  exact⟨S3,v,z,I3.sub,.inl (r1.mono (s2.trans s3)),e,qS I3 λx S' H' r I' s'=>k z L3 q x S' H' r I' (s1.trans (s2.trans (s3.trans s')))⟩⟩⟩⟩
end
@[scoped simp ↓] theorem On (a:EW)(l h:OW)(L:mV)(Q:FV->mV->Prop):J1 a l h L Q=(a L λx L1=>l L1 λi L2=>h L2 λj L3=>wp (tw x i j) λz=>Q z L3):=propext mf
section
variable {Q:FV->Prop}{i j:Int}{b:Bool}
@[scoped simp ↓] theorem aa_ii:wp (xj (.int i) (.int j)) Q=Q (.int (i+j)):=propext mf
@[scoped simp ↓] theorem aa_bi:wp (xj (.bl b) (.int j)) Q=Q (.int (EJ b+j)):=propext mf
@[scoped simp ↓] theorem aa_ss (x y:String):wp (xj (.str x) (.str y)) Q↔x.length+y.length<=big/\Q (.str (x++y)):=by
 show wp (if _ then _ else _) Q↔_
 split
 ·rename_i h;exact⟨λq=>⟨h,q⟩,λq=>q.2⟩
 ·rename_i h;exact⟨λq=>q.elim,λq=>absurd q.1 h⟩
@[scoped simp ↓] theorem sa_ii:wp (xz (.int i) (.int j)) Q=Q (.int (i-j)):=propext mf
@[scoped simp ↓] theorem sa_bi:wp (xz (.bl b) (.int j)) Q=Q (.int (EJ b-j)):=propext mf
@[scoped simp ↓] theorem sa_ib:wp (xz (.int i) (.bl b)) Q=Q (.int (i-EJ b)):=propext mf
@[scoped simp ↓] theorem ma_bi:wp (Du (.bl b) (.int j)) Q=Q (.int (EJ b*j)):=propext mf
@[scoped simp ↓] theorem ma_ii:wp (Du (.int i) (.int j)) Q=wp (pR (.int i) (.int j)) Q:=propext mf
@[scoped simp ↓] theorem sl_tl (x:String):wp (tw (.str x) (some 1) none) Q↔x.length<=big/\Q (.str (tL x)):=by
 show wp (if (some (1:Int)=some 1/\(none:Option Int)=none/\x.length<=big) then _ else _) Q↔_
 by_cases h:x.length<=big
 ·rw[if_pos ⟨rfl,rfl,h⟩];exact⟨λq=>⟨h,q⟩,λq=>q.2⟩
 ·rw[if_neg λz=>h z.2.2];exact⟨λq=>q.elim,λq=>absurd q.1 h⟩
end
end Kq
set_option maxRecDepth 10000
set_option maxHeartbeats 1000000
namespace Kq
def MY (call:CW):SW:=nq (pX (nE (qd .int) (mT 0)) (nE FH (nE (qd .bool) (mT 0))))
def MX (call:CW):SW:=nq (pX (nE (qd .tuple) (mT 0)) (mX qI (nE ox (mT 0)) (mT 1)))
def MW (call:CW):SW:=nq (pX (nE (qd .tuple) (mT 1)) (nE u7 (nU 2 1 (qU (mT 1)) (.nm 2) nP (m4 call 3 (mU (mT 0) (mU (mT 2) mW))))))
def Ou (call:CW):SW:=nq (Op (m4 call 4 (mU (mT 0) (mU (mT 1) mW))) (m4 call 5 (mU (mT 1) mW)))
def R9 (call:CW):SW:=mZ (qB (pP (nk (m4 call 1 (mU (mT 1) (mU (eC (.int 3)) mW))))) (nq (eC (.bl false))) oM) (mZ (m7 (mT 1) (.tp [2,3,4])) (mZ (qB (tI (nk (mX uY (mT 2) (eC (.str "keep")))) (tI (pP (nk (m4 call 0 (mU (mT 3) mW)))) (pP (nk (m4 call 0 (mU (mT 4) mW)))))) (nq (eC (.bl false))) oM) (nq (pX (mX D0 (mT 3) (eC (.int 0))) (pX (mX D0 (mT 4) (eC (.int 1))) (mX Ht (mX m8 (mT 3) (mT 4)) (nE ox (mT 0))))))))
def R8 (call:CW):SW:=mZ (qB (pP (nk (m4 call 1 (mU (mT 0) (mU (eC (.int 2)) mW))))) (nq (eC (.bl false))) oM) (mZ (m7 (mT 0) (.tp [1,2])) (mZ (qB (tI (nk (mX uY (mT 1) (eC (.str "put")))) (pP (nk (nE (qd .tuple) (mT 2))))) (nq (eC (.bl false))) oM) (nq (pX (mX D0 (nE ox (mT 2)) (eC (.int 1))) (nE u7 (nU 3 1 (qU (mT 2)) (.nm 3) nP (m4 call 0 (mU (mT 3) mW))))))))
def R7 (call:CW):SW:=mZ (m7 (m4 call 7 (mU (mT 0) (mU (mT 1) mW))) (.nm 2)) (mZ (m7 (oy mW) (.nm 3)) (mZ (m7 (eC (.int 0)) (.nm 4)) (mZ (yY (nk (mX BR (mT 4) (nE ox (mT 1)))) (mZ (m7 (Op (m4 call 8 (mU (mT 0) (mU (mT 1) (mU (mT 2) (mU (mT 4) mW))))) (m4 call 9 (mU (mT 1) (mU (mT 2) (mU (mT 4) mW))))) (.nm 5)) (mZ (Bw (uz Ex 3 (mT 5))) (yZ (yO λi j=>i+j) 4 (m4 call 10 (mU (mT 5) mW)))))) (nq (nE oZ (mT 3))))))
def R6 (call:CW):SW:=mZ (m7 (mX (rm pR) (oy (mU (eC (.int 0)) mW)) (mX m8 (nE ox (mT 1)) (eC (.int 1)))) (.nm 2)) (mZ (m7 (mX pR (oy (mU (eC (.int 0)) mW)) (nE ox (mT 0))) (.nm 3)) (mZ (m7 (eC (.int 0)) (.nm 4)) (mZ (ql (AL (nE ox (mT 1))) (.nm 5) (mZ (m7 (mX m8 (rB (mT 3) (nF (eC (.int 1))) nW) (oy (mU (eC (.int 0)) mW))) (.nm 6)) (mZ (m7 (nU 8 2 (wQ (mT 0) (mT 6)) (.tp [8,9]) nP (AT (nk (mX qI (mT 8) (mX nK (mT 1) (mT 5)))) (mX m8 (mT 9) (eC (.int 1))) (eC (.int 0)))) (.nm 3)) (mZ (wv 2 (mT 5) (mX m8 (eC (.int 2)) (mT 4))) (mZ (m7 (mX x8 (mT 3) (eC (.int 0))) (.nm 7)) (mZ (qB (nk (mX EI (mT 7) (eC (.int 0)))) (wv 2 (mT 5) (mX vo (rR nK 2 (mT 5)) (mX m8 (eC (.int 2)) (rR nK 2 (mX m8 (mT 5) (mT 7)))))) oM) (m7 (mX vo (rR nK 2 (mT 5)) (mX m8 (eC (.int 1)) (mT 4))) (.nm 4)))))))) (nq (mT 2)))))
def R5 (call:CW):SW:=mZ (ql (qV (nE ox (mT 0))) (.nm 4) (mZ (m7 (eC (.int 0)) (.nm 5)) (yY (zR (nk (mX BR (mX m8 (mT 4) (mT 5)) (nE ox (mT 0)))) (zR (nk (mX BR (mX m8 (mT 3) (mT 5)) (nE ox (mT 1)))) (nk (mX qI (mX nK (mT 0) (mX m8 (mT 4) (mT 5))) (mX nK (mT 1) (mX m8 (mT 3) (mT 5))))))) (mZ (yZ (yO λi j=>i+j) 5 (eC (.int 1))) (qB (nk (mX qI (mX m8 (eC (.int 2)) (mX nK (mT 2) (mX m8 (mT 3) (mT 5)))) (mX nK (mT 2) (mT 3)))) (nq (oC (mU (eC (.str "keep")) (mU (mT 4) (mU (mT 5) mW))))) oM))))) (nq (eC .non))
def R4 (call:CW):SW:=mZ (m7 (eC (.int 1)) (.nm 3)) (mZ (yY (nk (mX uY (mX m8 (mX m8 (eC (.int 1)) (mT 3)) (mX nK (mT 1) (mX m8 (mT 2) (mT 3)))) (mX nK (mT 1) (mT 2)))) (yZ (yO λi j=>i+j) 3 (eC (.int 1)))) (nq (oC (mU (eC (.str "put")) (mU (rB (mT 0) (nF (mT 2)) (nF (mX m8 (mT 2) (mT 3)))) mW)))))
def G0 (call:CW):SW:=nq (AT (nk (mX qI (mX nK (mT 0) (eC (.int 0))) (eC (.str "keep")))) (mX nK (mT 0) (eC (.int 2))) (nE ox (mX nK (mT 0) (eC (.int 1)))))
def GZ (call:CW):SW:=nq (pX (m4 call 0 (mU (mT 0) mW)) (uA Ht BR (eC (.int 0)) (mT 0) (mT 1)))
def GY (call:CW):SW:=nq (zH 1 3 (qU (mX nK (mT 0) (eC (.int 1)))) (.tp [1,2,3]) nP (oC (mU (mT 1) (mU (mT 2) mW))) (mT 3))
def KH (call:CW):SW:=mZ (m7 (m4 call 12 (mU (mT 0) mW)) (.nm 2)) (nq (nU 3 2 (vD (mT 1)) (.tp [3,4]) nP (AT (nk (nE qr (mT 4))) (mX nK (mX nK (mT 0) (eC (.int 0))) (mT 3)) (mX vK (mT 2) (oC (mU (mT 4) (mU (mT 3) mW)))))))
def GX (call:CW):SW:=nq (nE xw (m4 call 13 (mU (mT 0) (mU (mT 1) mW))))
def KG (call:CW):SW:=mZ (m7 (oy (mU (mT 1) mW)) (.nm 2)) (mZ (m7 (mX nK (mT 0) (mT 1)) (.nm 3)) (mZ (yY (nk (nE qR (mT 3))) (mZ (Bw (uz Ex 2 (mT 3))) (m7 (mX nK (mT 0) (mT 3)) (.nm 3)))) (nq (nE CV (mT 2)))))
def KF (call:CW):SW:=mZ (m7 (m4 call 13 (mU (mT 0) (mU (mT 1) mW))) (.nm 2)) (nq (nE oZ (nU 3 1 (qV (nE ox (mT 1))) (.nm 3) nP (nE u8 (nU 4 1 (qU (m4 call 15 (mU (mT 1) (mU (mT 3) mW)))) (.nm 4) nP (mX nK (mT 2) (mT 4)))))))
def GW (call:CW):SW:=mZ (qB (tI (pP (nk (nE (qd .tuple) (mT 0)))) (pP (nk (mT 0)))) (nq (eC (.bl false))) oM) (mZ (qB (pP (nk (nE u7 (nU 2 1 (qU (mT 0)) (.nm 2) nP (m4 call 11 (mU (mT 2) (mU (mT 1) mW))))))) (nq (eC (.bl false))) oM) (nq (nE u7 (nU 2 2 (wQ (mT 0) (rB (mT 0) (nF (eC (.int 1))) nW)) (.tp [2,3]) nP (mX BR (mT 2) (mT 3))))))
def KE (call:CW):SW:=mZ (m7 (mT 0) (.tp [1,2])) (nq (oC (mU (mT 1) (mU (nE oZ (nU 3 2 (vD (mT 2)) (.tp [3,4]) nP (oC (mU (mT 3) (mU (mX m8 (mT 3) (eC (.int 1))) (mU (mT 4) mW)))))) mW))))
def GV (call:CW):SW:=nq (nE oZ (nU 2 1 (qV (nE ox (mX nK (mT 0) (eC (.int 0))))) (.nm 2) nP (AT (nk (mX B1 (mT 2) (mT 1))) (eC .non) (mX uV (mT 2) (eC (.int 1))))))
def GU (call:CW):SW:=nq (m4 call 14 (mU (m4 call 18 (mU (mT 0) mW)) (mU (m4 call 19 (mU (mT 0) (mU (mT 1) mW))) mW)))
def GT (call:CW):SW:=nq (m4 call 16 (mU (m4 call 18 (mU (mT 0) mW)) (mU (m4 call 19 (mU (mT 0) (mU (mT 1) mW))) mW)))
def KD (call:CW):SW:=mZ (m7 (mT 0) (.tp [3,4])) (nq (mX m8 (mX nK (mT 3) (mT 1)) (nE xw (rB (mT 4) (nF (mT 1)) (nF (mX uV (mT 2) (eC (.int 1))))))))
def GS (call:CW):SW:=nq (mX nK (m4 call 25 (mU (mT 0) (mU (mT 1) (mU (mT 2) mW)))) (eC (.int 0)))
def GR (call:CW):SW:=nq (nE oZ (nU 3 2 (qU (m4 call 25 (mU (mT 0) (mU (mT 1) (mU (mT 2) mW))))) (.tp [3,4]) nP (mT 3)))
def KC (call:CW):SW:=mZ (m7 (oy (mU (oC (mU (eC (.int 0)) (mU (oC mW) mW))) mW)) (.nm 3)) (mZ (ql (AL (nE ox (mX nK (mT 0) (eC (.int 0))))) (.nm 4) (mZ (m7 (m4 call 26 (mU (mT 0) (mU (mT 1) (mU (mT 2) (mU (mT 4) mW))))) (.nm 5)) (mZ (m7 (nU 7 3 (wQ (mT 5) (mT 3)) (.tn 7 [8,9]) nP (oC (mU (mX m8 (mT 7) (mT 8)) (mU (mX m8 (oC (mU (mT 4) mW)) (mT 9)) mW)))) (.nm 6)) (m7 (mX m8 (oy (mU (nE vn (mT 6)) mW)) (mT 3)) (.nm 3))))) (nq (mT 3)))
def KB (call:CW):SW:=mZ (m7 (oy mW) (.nm 4)) (mZ (m7 (eC (.int 0)) (.nm 5)) (mZ (ql (iRng2 (mT 3) (nE ox (mX nK (mT 0) (eC (.int 0))))) (.nm 6) (mZ (m7 (m4 call 22 (mU (mT 0) (mU (mT 3) (mU (mX m8 (mT 6) (eC (.int 1))) mW)))) (.nm 7)) (mZ (yZ (yO λi j=>i+j) 5 (mX pR (mX nK (mT 1) (mT 6)) (mT 7))) (Bw (uz Ex 4 (mX m8 (mX pR (mT 2) (mT 7)) (mT 5))))))) (nq (mT 4))))
def KA (call:CW):SW:=mZ (qB (tI (pP (nk (m4 call 0 (mU (mT 3) mW)))) (tI (pP (nk (m4 call 28 (mU (mT 0) (mU (mT 4) mW))))) (pP (nk (m4 call 30 (mU (mT 0) (mU (mT 1) (mU (mT 2) (mU (mT 5) mW))))))))) (nq (eC (.bl false))) oM) (nq (pX (mX qI (m4 call 29 (mU (mT 0) (mU (mT 1) (mU (mT 2) (mU (mT 4) mW))))) (mT 3)) (mX qI (mX nK (mT 5) (eC (.int 0))) (mT 3))))
def GQ (call:CW):SW:=nq (pX (m4 call 17 (mU (mT 1) (mU (nE ox (mX nK (mT 0) (eC (.int 0)))) mW))) (mX qI (mX nK (mT 1) (eC (.int 0))) (eC (.int 0))))
def Kz (call:CW):SW:=mZ (m7 (nU 5 2 (wQ (mT 1) (m4 call 21 (mU (mT 0) (mU (mT 3) mW)))) (.tp [5,6]) nP (mX pR (mT 5) (mT 6))) (.nm 4)) (nq (mX m8 (mX pR (mT 2) (m4 call 20 (mU (mT 0) (mU (mT 3) mW)))) (nE u8 (mT 4))))
def GP (call:CW):SW:=mZ (m7 (nE ox (mX nK (mT 0) (eC (.int 0)))) (.nm 4)) (mZ (qB (tI (pP (nk (m4 call 1 (mU (mT 3) (mU (mX m8 (mT 4) (eC (.int 1))) mW))))) (pP (nk (nE u7 (nU 7 1 (qU (mT 3)) (.nm 7) nP (m4 call 0 (mU (mT 7) mW))))))) (nq (eC (.bl false))) oM) (mZ (qB (nk (mX uY (mX nK (mT 3) (mT 4)) (eC (.int 0)))) (nq (eC (.bl false))) oM) (mZ (ql (qV (mT 4)) (.nm 5) (mZ (m7 (m4 call 26 (mU (mT 0) (mU (mT 1) (mU (mT 2) (mU (mT 5) mW))))) (.nm 6)) (qB (nk (mX uY (mX nK (mT 3) (mT 5)) (nE xZ (nU 7 2 (wQ (mT 6) (rB (mT 3) (nF (mX m8 (mT 5) (eC (.int 1)))) nW)) (.tp [7,8]) nP (mX m8 (mT 7) (mT 8)))))) (nq (eC (.bl false))) oM))) (nq (eC (.bl true))))))
def Ky (call:CW):SW:=mZ (m7 (mX t5 (mX pR (mX m8 (mX m8 (mX t5 (mT 0) (eC (.int 2147483629))) (mX pR (mX pR (mT 1) (mT 1)) (eC (.int 7919)))) (eC (.int 11))) (eC (.int 48271))) (eC (.int 2147483647))) (.nm 2)) (nq (mX t5 (mX pR (mT 2) (mT 2)) (eC (.int 1999999973))))
def Kx (call:CW):SW:=mZ (m7 (AT (nk (mX BR (mT 1) (nE ox (mT 0)))) (mX nK (mT 0) (mT 1)) (eC (.int 0))) (.nm 2)) (nq (oy (mU (mX pR (nE Ey (mT 2)) (nE sx (mX D0 (nE Ey (mT 2)) (mX ze (eC (.int 10)) (eC (.int 18)))))) (mU (mX m8 (mT 2) (mX pR (eC (.int 1000003)) (mT 1))) (mU (eC (.int 0)) mW)))))
def GO (call:CW):SW:=mZ (wv 0 (eC (.int 2)) (mX m8 (rR nK 0 (eC (.int 2))) (eC (.int 1)))) (mZ (qB (nk (mX EI (rR nK 0 (eC (.int 0))) (eC (.int 0)))) (mZ (m7 (mX t5 (rR nK 0 (eC (.int 0))) (mT 1)) (.nm 2)) (mZ (wv 0 (eC (.int 0)) (mX vF (rR nK 0 (eC (.int 0))) (mT 1))) (nq (mT 2)))) oM) (nq (mX t5 (mX vF (m4 call 31 (mU (m4 call 31 (mU (rR nK 0 (eC (.int 1))) (mU (rR nK 0 (eC (.int 2))) mW))) (mU (mX m8 (rR nK 0 (eC (.int 2))) (eC (.int 64))) mW))) (eC (.int 64))) (mT 1))))
def Kw (call:CW):SW:=mZ (m7 (nE pw (Gz (mT 0) nW (nF (mT 1)))) (.nm 2)) (mZ (ql (vD (Gz (mT 0) (nF (mT 1)) (nF (eC (.int 63))))) (.tp [3,4]) (wv 2 (mX t5 (mT 3) (mT 1)) (mX m8 (rR nK 2 (mX t5 (mT 3) (mT 1))) (mX pR (mT 4) (mX m8 (mT 3) (eC (.int 2))))))) (nq (mT 2)))
def Cj (call:CW):SW:=nq (nE u7 (nU 1 1 (qU (mT 0)) (.nm 1) nP (pX (nE (qd .int) (mT 1)) (nE FH (nE (qd .bool) (mT 1))))))
def Kv (call:CW):SW:=mZ (m7 (mX nK (oy (mU (eC (.int 2)) (mU (eC (.int 3)) (mU (eC (.int 1000)) (mU (eC (.int 5)) mW))))) (m5 call 33 0 (mU (eC (.int 4)) mW))) (.nm 2)) (nq (nE oZ (nU 3 1 (qV (mT 1)) (.nm 3) nP (m5 call 33 0 (mU (mT 2) mW)))))
def Ku (call:CW):SW:=mZ (m7 (AT (nk (mX EI (m5 call 33 0 (mU (eC (.int 8)) mW)) (eC (.int 0)))) (m5 call 33 0 (mU (eC (.int 9)) mW)) (mX m8 (eC (.int 9)) (m5 call 33 0 (mU (eC (.int 16)) mW)))) (.nm 1)) (nq (m5 call 36 0 (mU (mT 1) mW)))
def Kt (call:CW):SW:=mZ (m7 (nE pw (mT 1)) (.nm 2)) (mZ (ql (qV (mX m8 (eC (.int 1)) (m5 call 33 0 (mU (eC (.int 3)) mW)))) (.nm 3) (mZ (m7 (m5 call 33 0 (mU (mX m8 (nE ox (mT 2)) (eC (.int 1))) mW)) (.nm 4)) (mZ (m7 (mX vo (nE ox (mT 2)) (mX m8 (mX m8 (mT 4) (eC (.int 1))) (m5 call 33 0 (mU (eC (.int 4)) mW)))) (.nm 5)) (mZ (m7 (rB (mT 2) (nF (mT 4)) (nF (mT 5))) (.nm 6)) (mZ (m7 (m5 call 33 0 (mU (mX m8 (nE ox (mT 2)) (eC (.int 1))) mW)) (.nm 7)) (mZ (m7 (m5 call 33 0 (mU (eC (.int 5)) mW)) (.nm 8)) (qB (nk (mX qI (mT 8) (eC (.int 0)))) (m7 (mX m8 (mX m8 (rB (mT 2) nW (nF (mT 4))) (nE pw (m5 call 36 0 (mU (mX m8 (eC (.int 1)) (m5 call 33 0 (mU (eC (.int 3)) mW))) mW)))) (rB (mT 2) (nF (mT 4)) nW)) (.nm 2)) (qB (nk (mX qI (mT 8) (eC (.int 1)))) (m7 (mX m8 (rB (mT 2) nW (nF (mT 4))) (rB (mT 2) (nF (mT 5)) nW)) (.nm 2)) (qB (nk (mX qI (mT 8) (eC (.int 2)))) (mZ (m7 (mX m8 (rB (mT 2) nW (nF (mT 4))) (rB (mT 2) (nF (mT 5)) nW)) (.nm 9)) (m7 (mX m8 (mX m8 (rB (mT 9) nW (nF (mT 7))) (mT 6)) (rB (mT 9) (nF (mT 7)) nW)) (.nm 2))) (qB (nk (mX qI (mT 8) (eC (.int 3)))) (m7 (mX m8 (mX m8 (rB (mT 2) nW (nF (mT 7))) (mT 6)) (rB (mT 2) (nF (mT 7)) nW)) (.nm 2)) (m7 (mX m8 (mX m8 (rB (mT 2) nW (nF (mT 4))) (nU 10 1 (qU (mT 6)) (.nm 10) nP (mX t5 (mX m8 (mT 10) (eC (.int 1))) (eC (.int 1000))))) (rB (mT 2) (nF (mT 5)) nW)) (.nm 2)))))))))))) (nq (nE oZ (rB (mT 2) nW (nF (eC (.int 24)))))))
def Ks (call:CW):SW:=mZ (m7 (m5 call 33 0 (mU (eC (.int 4)) mW)) (.nm 2)) (mZ (qB (zR (nk (mX qI (mT 2) (eC (.int 3)))) (nk (mX qI (mT 1) (eC (.int 0))))) (nq (mX m8 (eC (.int 1)) (m5 call 33 0 (mU (mX uV (mX ze (eC (.int 10)) (eC (.int 9))) (eC (.int 12))) mW)))) oM) (nq (mX m8 (eC (.int 1)) (m5 call 33 0 (mU (mX nK (oy (mU (eC (.int 9)) (mU (eC (.int 9)) (mU (eC (.int 40)) (mU (eC (.int 3)) mW))))) (mT 2)) mW)))))
def Kr (call:CW):SW:=mZ (m7 (AT (nk (mX EI (m5 call 33 0 (mU (eC (.int 8)) mW)) (eC (.int 0)))) (mX m8 (eC (.int 1)) (m5 call 33 0 (mU (eC (.int 7)) mW))) (mX m8 (eC (.int 8)) (m5 call 33 0 (mU (mX uV (mT 1) (eC (.int 7))) mW)))) (.nm 2)) (mZ (m7 (m5 call 33 0 (mU (eC (.int 4)) mW)) (.nm 3)) (mZ (m7 (nE oZ (nU 5 1 (qV (mT 2)) (.nm 5) nP (mX m8 (m5 call 39 0 (mU (mT 3) mW)) (mX nK (oy (mU (eC (.int 0)) (mU (eC (.int 9)) mW))) (m5 call 33 0 (mU (eC (.int 2)) mW)))))) (.nm 4)) (nq (oC (mU (mT 4) (mU (nE oZ (nU 5 1 (qV (mX uV (mT 2) (eC (.int 1)))) (.nm 5) nP (m5 call 39 0 (mU (mT 3) mW)))) mW))))))
def Kp (call:CW):SW:=mZ (m7 (oC (mU (mX nK (oy (mU (eC (.int 1)) (mU (eC (.int 2)) (mU (eC (.int 4)) (mU (eC (.int 30)) (mU (mX m8 (mX ze (eC (.int 10)) (eC (.int 9))) (eC (.int 1))) mW)))))) (m5 call 33 0 (mU (eC (.int 5)) mW))) (mU (m5 call 33 0 (mU (eC (.int 5)) mW)) mW))) (.tp [2,3])) (mZ (m7 (nU 6 1 (qV (mT 1)) (.nm 6) nP (mX vF (mX pR (m5 call 33 0 (mU (mT 2) mW)) (m5 call 33 0 (mU (eC (.int 3)) mW))) (eC (.int 2)))) (.nm 4)) (mZ (m7 (oy (mU (eC (.int 0)) (mU (eC (.int 1)) (mU (mX m8 (eC (.int 1)) (m5 call 33 0 (mU (eC (.int 9)) mW))) (mU (m5 call 33 0 (mU (mX m8 (mX ze (eC (.int 10)) (eC (.int 9))) (eC (.int 1))) mW)) (mU (eC (.int 1)) mW)))))) (.nm 5)) (nq (oC (mU (nE oZ (mT 4)) (mU (mX nK (mT 5) (mT 3)) mW))))))
def Ko (call:CW):SW:=mZ (m7 (nE ox (mX nK (mT 0) (eC (.int 0)))) (.nm 3)) (mZ (m7 (eC (.dct [] [])) (.nm 4)) (mZ (ql (qV (mT 3)) (.nm 5) (mZ (m7 (mX nK (mX nK (mT 0) (eC (.int 0))) (mT 5)) (.nm 6)) (mZ (m7 (mX pR (mX m8 (mT 2) (mX nK (mT 1) (mT 5))) (mT 6)) (.nm 7)) (mZ (Aj 4 (oC (mU (mT 5) (mU (mX m8 (mT 5) (eC (.int 1))) mW))) (mT 7)) (ql (iRng2 (mX m8 (mT 5) (eC (.int 1))) (mT 3)) (.nm 8) (mZ (m7 (mX nK (mX nK (mT 0) (eC (.int 1))) (mX uV (mT 8) (eC (.int 1)))) (.nm 9)) (mZ (m7 (mX m8 (mT 6) (mT 9)) (.nm 6)) (mZ (m7 (mX m8 (mT 7) (mX pR (mT 2) (mT 9))) (.nm 7)) (mZ (m7 (mX m8 (mT 7) (mX pR (mX nK (mT 1) (mT 8)) (mT 6))) (.nm 7)) (Aj 4 (oC (mU (mT 5) (mU (mX m8 (mT 8) (eC (.int 1))) mW))) (mT 7))))))))))) (nq (mT 4))))
def GN (call:CW):SW:=mZ (m7 (nE ox (mX nK (mT 0) (eC (.int 0)))) (.nm 3)) (mZ (qB (tI (pP (nk (nE (qd .tuple) (mT 2)))) (tI (nk (mX qI (mT 2) (oC mW))) (pP (nk (m4 call 35 (mU (mT 2) mW)))))) (nq (eC .non)) oM) (mZ (qB (tI (nk (mX uY (mX nK (mT 2) (eC (.int 0))) (eC (.int 0)))) (tI (nk (mX uY (nE pw (mT 2)) (wW 63 (mT 2)))) (nk (mX D0 (mX nK (mT 2) (nE BM (eC (.int 1)))) (mT 3))))) (nq (eC .non)) oM) (nq (nE u8 (nU 4 1 (wQ (mT 2) (mX m8 (nE pw (rB (mT 2) (nF (eC (.int 1))) nW)) (oy (mU (mT 3) mW)))) (.nm 4) nP (mX vK (mT 1) (mT 4)))))))
def Kn (call:CW):SW:=mZ (m7 (nE ox (mX nK (mT 0) (eC (.int 0)))) (.nm 5)) (mZ (qB (tI (pP (nk (m4 call 35 (mU (oy (mU (mT 2) mW)) mW)))) (tI (pP (nk (nE (qd .tuple) (mT 4)))) (nk (mX uY (nE ox (mT 4)) (mX m8 (mT 5) (eC (.int 1))))))) (nq (eC (.bl false))) oM) (mZ (qB (tI (pP (nk (m4 call 35 (mU (mT 4) mW)))) (tI (nk (mX uY (mX nK (mT 4) (mT 5)) (eC (.int 0)))) (nk (mX uY (mX nK (mT 4) (eC (.int 0))) (mT 2))))) (nq (eC (.bl false))) oM) (mZ (ql (qV (mT 5)) (.nm 6) (qB (nk (mX uY (mX nK (mT 4) (mT 6)) (nE xZ (nU 7 1 (iRng2 (mX m8 (mT 6) (eC (.int 1))) (mX m8 (mT 5) (eC (.int 1)))) (.nm 7) nP (mX m8 (mX vK (mT 1) (oC (mU (mT 6) (mU (mT 7) mW)))) (mX nK (mT 4) (mT 7))))))) (nq (eC (.bl false))) oM)) (nq (mX qI (m4 call 43 (mU (mT 0) (mU (mT 1) (mU (mT 3) mW)))) (mT 2))))))
def zQ (call:CW):SW:=mZ (qB (tI (pP (nk (nE (qd .tuple) (mT 1)))) (tI (nk (mX BR (nE ox (mT 1)) (eC (.int 2)))) (pP (nk (nE (qd .str) (mX nK (mT 1) (eC (.int 0)))))))) (nq (eC (.bl false))) oM) (mZ (qB (nk (mX qI (mX nK (mT 1) (eC (.int 0))) (eC (.str "put")))) (nq (pX (mX qI (nE ox (mT 1)) (eC (.int 2))) (pX (nE (qd .tuple) (mX nK (mT 1) (eC (.int 1)))) (pX (mX uY (mX nK (mT 1) (eC (.int 1))) (oC mW)) (m4 call 35 (mU (mX nK (mT 1) (eC (.int 1))) mW)))))) oM) (mZ (qB (tI (nk (mX uY (mX nK (mT 1) (eC (.int 0))) (eC (.str "keep")))) (tI (nk (mX uY (nE ox (mT 1)) (eC (.int 3)))) (pP (nk (m4 call 35 (mU (rB (mT 1) (nF (eC (.int 1))) nW) mW)))))) (nq (eC (.bl false))) oM) (nq (pX (mX D0 (mX nK (mT 1) (eC (.int 1))) (eC (.int 0))) (pX (mX D0 (mX nK (mT 1) (eC (.int 2))) (eC (.int 1))) (mX Ht (mX m8 (mX nK (mT 1) (eC (.int 1))) (mX nK (mT 1) (eC (.int 2)))) (mT 0)))))))
def Ew (call:CW):SW:=nq (pX (nE (qd .tuple) (mT 1)) (nE u7 (nU 2 1 (qU (mT 1)) (.nm 2) nP (m4 call 45 (mU (nE ox (mT 0)) (mU (mT 2) mW))))))
def GM (call:CW):SW:=mZ (m7 (oy (mU (oC mW) mW)) (.nm 1)) (mZ (qB (nk (nE (ym .list .tuple) (mT 0))) (ql (vD (mT 0)) (.tp [2,3]) (Bw (uz JW 1 (nU 4 1 (qU (m4 call 47 (mU (mT 3) mW))) (.nm 4) nP (mX m8 (oC (mU (mT 2) mW)) (mT 4)))))) oM) (nq (mT 1)))
def Km (call:CW):SW:=mZ (ql (qU (mT 1)) (.nm 2) (m7 (mX nK (mT 0) (mT 2)) (.nm 0))) (nq (mT 0))
def Ev (call:CW):SW:=mZ (qB (nk (mX qI (mT 1) (oC mW))) (nq (mT 2)) oM) (mZ (m7 (nE pw (mT 0)) (.nm 3)) (mZ (wv 3 (mX nK (mT 1) (eC (.int 0))) (m4 call 49 (mU (rR nK 3 (mX nK (mT 1) (eC (.int 0)))) (mU (rB (mT 1) (nF (eC (.int 1))) nW) (mU (mT 2) mW))))) (nq (AT (nk (nE (qd .list) (mT 0))) (Ql 3) (nE oZ (mT 3))))))
def yN (call:CW):SW:=mZ (qB (nk (nE (ym .list .tuple) (mT 1))) (mZ (m7 (nE pw (mT 1)) (.nm 2)) (mZ (m7 (oC (mU (m5 call 33 0 (mU (mX m8 (nE ox (mT 2)) (eC (.int 1))) mW)) (mU (m5 call 33 0 (mU (eC (.int 3)) mW)) mW))) (.tp [3,4])) (mZ (m7 (oy (mU (mX m8 (rB (mT 2) nW (nF (mT 3))) (rB (mT 2) (nF (mX m8 (mT 3) (eC (.int 1)))) nW)) (mU (mX m8 (mX m8 (rB (mT 2) nW (nF (mT 3))) (rB (mT 2) (nF (mT 3)) (nF (mX m8 (mT 3) (eC (.int 1)))))) (rB (mT 2) (nF (mT 3)) nW)) mW))) (.nm 5)) (mZ (m7 (mX m8 (mT 5) (oy (mU (mX m8 (mX m8 (rB (mT 2) nW (nF (mT 3))) (oy (mU (mX nK (oy (mU (eC (.int 0)) (mU (eC .non) (mU (oC mW) mW)))) (mT 4)) mW))) (rB (mT 2) (nF (mT 3)) nW)) (mU (mX m8 (mX m8 (rB (mT 2) nW (nF (mT 3))) (nE v8 (rB (mT 2) (nF (mT 3)) (nF (mX m8 (mT 3) (eC (.int 2))))))) (rB (mT 2) (nF (mX m8 (mT 3) (eC (.int 2)))) nW)) mW)))) (.nm 5)) (mZ (m7 (mX m8 (mT 5) (oy (mU (nE v8 (mT 2)) (mU (mT 2) (mU (oy (mU (mT 1) mW)) (mU (oy mW) mW)))))) (.nm 5)) (mZ (m7 (m5 call 33 0 (mU (eC (.int 8)) mW)) (.nm 6)) (nq (AT (nk (mX uY (nE (qd .tuple) (mT 1)) (mX qI (mT 6) (eC (.int 5))))) (nE oZ (mX nK (mT 5) (mT 6))) (mX nK (mT 5) (mT 6)))))))))) oM) (mZ (qB (nk (nE (qd .str) (mT 1))) (nq (mX nK (oy (mU (eC (.str "keep")) (mU (eC (.str "put")) (mU (J1 (mT 1) (nF (eC (.int 1))) nW) (mU (mX xj (mT 1) (eC (.str "s"))) (mU (eC .non) (mU (oC (mU (mT 1) mW)) (mU (oy (mU (mT 1) mW)) (mU (eC (.int 0)) mW))))))))) (m5 call 33 0 (mU (eC (.int 8)) mW)))) oM) (mZ (qB (nk (nE qr (mT 1))) (nq (mX nK (oy (mU (eC (.int 0)) (mU (eC (.int 1)) (mU (eC (.bl false)) (mU (eC (.str "")) (mU (oC (mU (eC .non) mW)) (mU (nE BM (eC (.int 1))) mW))))))) (m5 call 33 0 (mU (eC (.int 6)) mW)))) oM) (mZ (m7 (oy (mU (mX xj (mT 1) (eC (.int 1))) (mU (mX xz (mT 1) (eC (.int 1))) (mU (mX xj (mT 1) (eC (.int 1))) (mU (mX xz (mT 1) (eC (.int 1))) (mU (AT (nk (mX B1 (mT 1) (oC (mU (eC (.int 0)) (mU (eC (.int 1)) mW))))) (mX qI (mT 1) (eC (.int 1))) (mX xj (mT 1) (eC (.int 2)))) (mU (mX xz (eC (.int 0)) (mT 1)) mW))))))) (.nm 7)) (nq (mX nK (mX m8 (mT 7) (oy (mU (eC .non) (mU (nE xD (mT 1)) (mU (oC (mU (mT 1) mW)) (mU (eC (.int 0)) (mU (eC (.int 1)) (mU (mX Du (mT 1) (eC (.int 2))) mW)))))))) (m5 call 33 0 (mU (eC (.int 12)) mW)))))))
def GL (call:CW):SW:=mZ (qB (nk (mX qI (mT 1) (eC (.int 0)))) (mZ (m7 (m5 call 40 0 (mU (eC (.int 30)) mW)) (.nm 2)) (mZ (m7 (m5 call 41 0 (mU (nE ox (mX nK (mT 2) (eC (.int 0)))) mW)) (.tp [3,4])) (mZ (m7 (m4 call 23 (mU (mT 2) (mU (mT 3) (mU (mT 4) mW)))) (.tp [5,6])) (nq (oC (mU (oy (mU (mT 2) (mU (mT 3) (mU (mT 4) mW)))) (mU (oC (mU (mT 5) (mU (mT 6) (mU (m4 call 24 (mU (mT 2) (mU (mT 3) (mU (mT 4) mW)))) mW)))) mW))))))) oM) (mZ (m7 (m5 call 37 0 mW) (.nm 7)) (nq (oC (mU (oy (mU (mT 7) mW)) (mU (m4 call 6 (mU (mT 7) (mU (m5 call 38 0 (mU (mT 7) mW)) mW))) mW)))))
def GK (call:CW):SW:=mZ (qB (nk (mX qI (mT 0) (eC (.int 0)))) (nq (m4 call 27 (mU (mX nK (mT 1) (eC (.int 0))) (mU (mX nK (mT 1) (eC (.int 1))) (mU (mX nK (mT 1) (eC (.int 2))) (mU (mX nK (mT 2) (eC (.int 0))) (mU (mX nK (mT 2) (eC (.int 1))) (mU (mX nK (mT 2) (eC (.int 2))) mW)))))))) oM) (nq (m4 call 2 (mU (mX nK (mT 1) (eC (.int 0))) (mU (mT 2) mW))))
def GJ (call:CW):SW:=mZ (qB (nk (mX qI (mT 0) (eC (.int 0)))) (nq (m4 call 44 (mU (mX nK (mT 1) (eC (.int 0))) (mU (m4 call 42 (mU (mX nK (mT 1) (eC (.int 0))) (mU (mX nK (mT 1) (eC (.int 1))) (mU (mX nK (mT 1) (eC (.int 2))) mW)))) (mU (mX nK (mT 2) (eC (.int 0))) (mU (mX nK (mT 2) (eC (.int 1))) (mU (mX nK (mT 2) (eC (.int 2))) mW))))))) oM) (nq (m4 call 46 (mU (mX nK (mT 1) (eC (.int 0))) (mU (mT 2) mW))))
def Kl (call:CW):SW:=mZ (ql (qV (mX m8 (eC (.int 1)) (nE sx (pX (mX EI (mT 3) (eC (.int 1))) (mX qI (m5 call 33 0 (mU (eC (.int 3)) mW)) (eC (.int 0))))))) (.nm 4) (mZ (m7 (nU 7 1 (qU (m4 call 47 (mU (mT 1) mW))) (.nm 7) (tI (nk (mX uY (mT 7) (oC mW))) (nk (mT 2))) (mT 7)) (.nm 5)) (mZ (m7 (AT (zR (nk (mX qI (mT 3) (eC (.int 0)))) (nk (mX qI (mT 4) (eC (.int 0))))) (mX nK (mT 5) (nE BM (eC (.int 1)))) (mX nK (mT 5) (m5 call 33 0 (mU (nE ox (mT 5)) mW)))) (.nm 6)) (m7 (m4 call 49 (mU (mT 1) (mU (mT 6) (mU (m5 call 50 0 (mU (m4 call 48 (mU (mT 1) (mU (mT 6) mW))) mW)) mW)))) (.nm 1))))) (nq (mT 1))
def Kk (call:CW):SW:=mZ (m7 (nE xD (oy (mU (mT 1) (mU (mT 2) mW)))) (.nm 3)) (mZ (m7 (m4 call 52 (mU (mT 0) (mU (mT 1) (mU (mT 2) mW)))) (.nm 4)) (nq (pX (nE (qd .bool) (mT 4)) (pX (mX qI (mT 4) (m4 call 53 (mU (mT 0) (mU (mT 1) (mU (mT 2) mW))))) (mX qI (nE xD (oy (mU (mT 1) (mU (mT 2) mW)))) (mT 3))))))
def Kj (call:CW):SW:=mZ (m7 (m4 call 34 (mU (mT 0) (mU (eC (.int 7)) mW))) (.nm 1)) (mZ (ql (qV (mX AA (eC (.int 3)) (nE ox (mT 1)))) (.nm 2) (mZ (m7 (m4 call 32 (mU (mT 1) (mU (mT 2) mW))) (.nm 3)) (mZ (wv 3 (eC (.int 1)) (mX m8 (rR nK 3 (eC (.int 1))) (eC (.int 1800)))) (ql (qU (oC (mU (eC (.int 0)) (mU (eC (.int 1)) mW)))) (.nm 4) (mZ (m7 (m5 call 51 3 (mU (mT 4) mW)) (.tp [5,6])) (mZ (qB (tI (nk (nE (wD true) (m4 call 52 (mU (mT 4) (mU (mT 5) (mU (mT 6) mW)))))) (pP (nk (m4 call 53 (mU (mT 4) (mU (mT 5) (mU (mT 6) mW))))))) (nq (eC (.bl false))) oM) (ql (qV (eC (.int 12))) (.nm 7) (qB (pP (nk (m4 call 55 (mU (mT 4) (mU (mT 5) (mU (m5 call 54 3 (mU (mT 6) (mU (mX qI (mT 4) (eC (.int 1))) (mU (mT 7) mW)))) mW)))))) (nq (eC (.bl false))) oM)))))))) (nq (eC (.bl true))))
def MF:FD:=⟨1,1,MY,false,false⟩
def ME:FD:=⟨2,2,MX,false,false⟩
def Of:FD:=⟨2,2,MW,false,false⟩
def PY:FD:=⟨2,2,Ou,false,false⟩
def PX:FD:=⟨2,5,R9,false,false⟩
def PV:FD:=⟨1,3,R8,false,false⟩
def PU:FD:=⟨2,6,R7,false,false⟩
def PR:FD:=⟨2,8,R6,false,true⟩
def PQ:FD:=⟨4,6,R5,false,false⟩
def PP:FD:=⟨3,4,R4,false,false⟩
def JV:FD:=⟨1,1,G0,false,false⟩
def JU:FD:=⟨2,2,GZ,false,false⟩
def JT:FD:=⟨1,1,GY,false,false⟩
def JS:FD:=⟨2,3,KH,false,false⟩
def JR:FD:=⟨2,2,GX,false,false⟩
def JQ:FD:=⟨2,4,KG,false,false⟩
def JP:FD:=⟨2,3,KF,false,false⟩
def Gr:FD:=⟨2,2,GW,false,false⟩
def JO:FD:=⟨1,3,KE,false,false⟩
def JN:FD:=⟨2,2,GV,false,false⟩
def JM:FD:=⟨2,2,GU,false,false⟩
def JL:FD:=⟨2,2,GT,false,false⟩
def JK:FD:=⟨3,5,KD,false,false⟩
def JJ:FD:=⟨3,3,GS,false,false⟩
def JI:FD:=⟨3,3,GR,false,false⟩
def JH:FD:=⟨3,7,KC,false,false⟩
def JG:FD:=⟨4,8,KB,false,true⟩
def JF:FD:=⟨6,6,KA,false,false⟩
def JE:FD:=⟨2,2,GQ,false,false⟩
def JD:FD:=⟨4,5,Kz,false,false⟩
def Gq:FD:=⟨4,7,GP,false,false⟩
def JC:FD:=⟨2,3,Ky,false,false⟩
def JB:FD:=⟨2,3,Kx,false,true⟩
def Gp:FD:=⟨2,3,GO,true,false⟩
def JA:FD:=⟨2,5,Kw,false,true⟩
def zC:FD:=⟨1,1,Cj,false,false⟩
def Jz:FD:=⟨2,3,Kv,true,false⟩
def Jy:FD:=⟨1,2,Ku,true,false⟩
def Jx:FD:=⟨2,10,Kt,true,false⟩
def Jw:FD:=⟨2,3,Ks,true,false⟩
def Jv:FD:=⟨2,5,Kr,true,false⟩
def Ju:FD:=⟨2,6,Kp,true,false⟩
def Jt:FD:=⟨3,10,Ko,false,true⟩
def Go:FD:=⟨3,4,GN,false,false⟩
def Js:FD:=⟨5,7,Kn,false,false⟩
def zB:FD:=⟨2,2,zQ,false,false⟩
def Gn:FD:=⟨2,2,Ew,false,false⟩
def fd47:FD:=⟨1,4,GM,false,true⟩
def Jr:FD:=⟨2,3,Km,false,false⟩
def B6:FD:=⟨3,4,Ev,false,false⟩
def sZ:FD:=⟨2,8,yN,true,false⟩
def Gm:FD:=⟨2,8,GL,true,false⟩
def D8:FD:=⟨3,3,GK,false,false⟩
def D7:FD:=⟨3,3,GJ,false,false⟩
def Jq:FD:=⟨4,7,Kl,true,false⟩
def Jp:FD:=⟨3,5,Kk,false,false⟩
def Jo:FD:=⟨1,8,Kj,false,false⟩
def tb:List FD:=[MF,ME,Of,PY,PX,PV,PU,PR,PQ,PP,JV,JU,JT,JS,JR,JQ,JP,Gr,JO,JN,JM,JL,JK,JJ,JI,JH,JG,JF,JE,JD,Gq,JC,JB,Gp,JA,zC,Jz,Jy,Jx,Jw,Jv,Ju,Jt,Go,Js,zB,Gn,fd47,Jr,B6,sZ,Gm,D8,D7,Jq,Jp,Jo]
def Mh (a k:Int):Int:=((a % 2147483629+k*k*7919+11)*48271 % 2147483647)*((a % 2147483629+k*k*7919+11)*48271 % 2147483647) % 1999999973
theorem Bu (x:Int):small (x % 2147483647)=true:=by
 have:=iC x (show (2147483647:Int)≠0 by decide)
 have:=dY x (show (0:Int)<2147483647 by decide)
 simp only[small,decide_eq_true_eq];lia
theorem oD {i:Int}(h:0<=i)(h':i<2 ^ 60):small i=true:=by
 simp only[small,decide_eq_true_eq];lia
theorem nu {i:Int}(h:0<=i)(h':i<2 ^ 60):oJ i=true:=by
 simp only[oJ,decide_eq_true_eq];lia
theorem IY (d:Nat) (a k:Int)(hk:small k=true)(Q:FV×FV->Prop):callW tb (d+1) 31 [.int a,.int k] Q↔Q (.int (Mh a k),.non):=by
 have h2:small 48271=true:=by decide
 have h3:small 7919=true:=by decide
 rw[pW (fd:=JC) rfl rfl]
 simp[JC,Ky,h2,h3,hk,Bu,Mh]
def Lf (n:Int)(v:FV):Prop:=∃ a b c,v=.lst [.int a,.int b,.int c]/\0<=c/\c<=n
theorem Lf.mono {n m:Int}{v:FV}(h:Lf n v)(k:n<=m):Lf m v:=by
 obtain⟨a,b,c,h,h1,h2⟩:=h
 exact⟨a,b,c,h,h1,by lia⟩
theorem nh (d:Nat){many n:Int}{v:FV}{Q:FV×FV->Prop}(hs:Lf n v)(hn:n<1000000)(h1:0<many)(h2:many<1073741824)
  (q:∀ u v',0<=u->u<many->Lf (n+1) v'->Q (.int u,v')):callW tb (d+2) 33 [v,.int many] Q:=by
 obtain⟨a,b,c,rfl,h3,h4⟩:=hs
 refine mY (fd:=Gp) rfl rfl ?_
 have s1:small (c+1)=true:=oD ⋯ ⋯
 have s2:small (c+1+64)=true:=oD ⋯ ⋯
 by_cases ha:0<a
 ·simp[Gp,GO,ixN,ha,h1,h2]
  exact q _ _ (iC _ ⋯) (dY _ h1) ⟨_,_,_,rfl,by lia,by lia⟩
 ·simp[Gp,GO,ixN,ha,h1,h2,IY,s1,s2]
  exact q _ _ (iC _ ⋯) (dY _ h1) ⟨_,_,_,rfl,by lia,by lia⟩
mutual
noncomputable def dF:D->FV
 | .non=>.non
 | .bl b=>.bl b
 | .int i=>.int i
 | .str x=>.str x
 | .tup xs=>.tup (dFs xs)
 | .lst xs=>.lst (dFs xs)
noncomputable def dFs:List D->List FV
 | []=>[]
 | x :: r=>dF x :: dFs r
end
theorem nj:∀ xs:List D,dFs xs=xs.map dF
 | []=>rfl
 | x :: r=>by show dF x :: dFs r=_;rw[nj r];rfl
mutual
noncomputable def pI:D->Nat
 | .tup xs=>deps xs+1
 | .lst xs=>deps xs+1
 | .non=>0|.bl _=>0|.int _=>0|.str _=>0
noncomputable def deps:List D->Nat
 | []=>0
 | x :: r=>max (pI x) (deps r)
end
mutual
theorem vG:∀ (x:D) (n:Nat),pI x<n->fD n (dF x)=some x
 | .non,0,h=>by lia
 | .non,n+1,h=>rfl
 | .bl _,0,h=>by lia
 | .bl _,n+1,h=>rfl
 | .int _,0,h=>by lia
 | .int _,n+1,h=>rfl
 | .str _,0,h=>by lia
 | .str _,n+1,h=>rfl
 | .tup xs,0,h=>by lia
 | .tup xs,n+1,h=>by show (pN (fD n) (dFs xs)).map _=_;rw[fDs_dF xs n (bJ h)];rfl
 | .lst xs,0,h=>by lia
 | .lst xs,n+1,h=>by show (pN (fD n) (dFs xs)).map _=_;rw[fDs_dF xs n (bJ h)];rfl
theorem fDs_dF:∀ (xs:List D) (n:Nat),deps xs<n->pN (fD n) (dFs xs)=some xs
 | [],n,h=>rfl
 | x :: r,n,h=>by
  have h:max (pI x) (deps r)<n:=h
  show ((fD n (dF x)).bind λy=>(pN (fD n) (dFs r)).map (y :: ·))=_
  rw[vG x n ⋯,fDs_dF r n ⋯];rfl
end
def Vl (k p:Nat)(x:FV):Prop:=∃ d,x=dF d/\pI d<=p/\d.fit=true/\d.wt<=k
theorem Vl.mono {k k' p p':Nat}{x:FV}(h:Vl k p x)(hk:k<=k')(hp:p<=p'):Vl k' p' x:=by
 obtain⟨d,e,h1,h2,h3⟩:=h
 exact⟨d,e,by lia,h2,by lia⟩
theorem Vl.all {k p:Nat}:∀ {xs:List FV},(∀ x∈xs,Vl k p x)->∃ ds:List D,xs=dFs ds/\deps ds<=p/\D.fits ds=true/\D.wts ds<=ds.length*(k+1)/\ds.length=xs.length
 | [],_=>⟨[],rfl,kT _,rfl,by simp[D.wts],rfl⟩
 | x :: r,h=>by
  obtain⟨d,e,h1,h2,h3⟩:=h x (dQ ..)
  obtain⟨ds,e',h1',h2',h3',h4'⟩:=Vl.all (xs:=r) λy hy=>h y (cI _ hy)
  refine⟨d :: ds,by rw[e,e'];rfl,lK.mpr ⟨h1,h1'⟩,by show (_ && _)=true;rw[h2,h2'];rfl,?_,by simp[h4']⟩
  simp only[D.wts,gm,Nat.add_mul,Nat.one_mul];lia
theorem Vl.tup {k p m:Nat}{xs:List FV}(h:∀ x∈xs,Vl k p x)(hl:xs.length<=m):Vl (m*(k+1)) (p+1) (.tup xs):=by
 obtain⟨ds,e,h1,h2,h3,h4⟩:=Vl.all h
 refine⟨.tup ds,by rw[e];rfl,fZ ⋯,h2,?_⟩
 simp only[D.wt]
 exact kq h3 (cA _ ⋯)
theorem Vl.lst {k p m:Nat}{xs:List FV}(h:∀ x∈xs,Vl k p x)(hl:xs.length<=m):Vl (m*(k+1)) (p+1) (.lst xs):=by
 obtain⟨ds,e,h1,h2,h3,h4⟩:=Vl.all h
 refine⟨.lst ds,by rw[e];rfl,fZ ⋯,h2,?_⟩
 simp only[D.wt]
 exact kq h3 (cA _ ⋯)
theorem Vl.int {i:Int}(h:-(2 ^ 40)<i)(h':i<2 ^ 40):Vl 41 0 (.int i):=⟨.int i,rfl,kW _,decide_eq_true ⋯,by simp only[D.wt];rw[if_pos ⟨h,h'⟩];exact kW _⟩
theorem A3 (xs:List FV)(lo hi:Option Int):(nT xs lo hi).length<=xs.length:=by
 unfold nT;rw[gi,gj];lia
theorem HP {k p:Nat}{x:FV}(h:Vl k p x)(hk:k<=big)(hp:p<40):∃ y,xD x=some y/\∀ R:Bool->Prop,wp (sU y y) R=R true:=by
 obtain⟨d,rfl,h1,h2,h3⟩:=h
 have big':∀ e:D,pI e<40->e.fit=true->e.wt<=big->(fD nB (dF e)).bind (λd=>if d.fit=true/\d.wt<=big then some (FV.shn d) else none)=some (.shn e):=λe h1 h2 h3=>by
  rw[vG e nB h1]
  show (if e.fit=true/\e.wt<=big then some (FV.shn e) else none)=_
  rw[if_pos ⟨h2,h3⟩]
 cases d with
 | non=>exact⟨_,rfl,λR=>by simp⟩
 | bl b=>exact⟨_,rfl,λR=>by simp⟩
 | str x=>exact⟨_,rfl,λR=>by simp⟩
 | int i =>
  replace h2:=of_decide_eq_true h2
  exact⟨_,(show (if -(2 ^ 150)<i/\i<2 ^ 150 then some (FV.str (toString i)) else none)=some (.str (toString i)) by rw[if_pos h2]),λR=>by simp⟩
 | tup xs=>exact⟨_,big' (.tup xs) ⋯ h2 ⋯,λR=>by simp⟩
 | lst xs=>exact⟨_,big' (.lst xs) ⋯ h2 ⋯,λR=>by simp⟩
theorem AR {a b:D}(ha:pI a<40)(hb:pI b<40):sU (dF a) (dF b)=some (D.eqv a b):=by
 have go:(fD nB (dF a)).bind (λx=>(fD nB (dF b)).bind λy=>some (D.eqv x y))=some (D.eqv a b):=by
  rw[vG a nB ha,vG b nB hb];rfl
 unfold sU
 split
 ·rename_i x y e1 e2;cases a<;>cases e1
 ·exact go
theorem pB {α:Type}(xs:List α) (n:Nat):nT xs (some (n:Int)) none=xs.drop n:=by
 have h:sIx xs.length 0 (some (n:Int))=min n xs.length:=by simp only[sIx];rw[if_neg ⋯];simp
 unfold nT
 rw[h]
 show (xs.drop (min n xs.length)).take (xs.length-min n xs.length)=_
 by_cases hn:n<=xs.length
 ·rw[hW hn,bL (by simp)]
 ·rw[f6 ⋯,bO (kW _),bO ⋯];simp
theorem zJ {α:Type}(xs:List α) (n:Nat):nT xs none (some (n:Int))=xs.take n:=by
 have h:sIx xs.length xs.length (some (n:Int))=min n xs.length:=by simp only[sIx];rw[if_neg ⋯];simp
 unfold nT
 rw[h]
 show (xs.drop 0).take (min n xs.length-0)=_
 rw[jh,Nat.sub_zero,bZ];lia
theorem rh:∀ xs:List D,xs.length<=D.wts xs
 | []=>kW _
 | x :: r=>by have:=rh r;simp only[D.wts,gm];lia
theorem oY {x:D}:∀ {xs:List D},x∈xs->pI x<=deps xs
 | [],h=>by cases h
 | y :: r,h=>by
  simp only[deps]
  rcases jN.mp h with rfl|h
  ·lia
  ·have:=oY h;lia
theorem rV {x:D}:∀ {xs:List D},x∈xs->x.wt<=D.wts xs
 | [],h=>by cases h
 | y :: r,h=>by
  simp only[D.wts]
  rcases jN.mp h with rfl|h
  ·lia
  ·have:=rV h;lia
theorem pq {α β:Type}(f:α->FV)(g:β->FV):∀ (xs:List α)(ys:List β),oX (xs.map f) (ys.map g)=(xs.zip ys).map λp=>.tup [f p.1,g p.2]
 | [],ys=>rfl
 | x :: xs,[]=>rfl
 | x :: xs,y :: ys=>by
  show FV.tup [f x,g y] :: oX (xs.map f) (ys.map g)=_
  rw[pq f g xs ys];rfl
abbrev Co:=Nat×Nat×Int
def yw (c:Co):FV:=.tup [.int c.1,.int c.2.1,.int c.2.2]
structure Gst (ws:List Int)(cs:List Co):Prop where
 w:∀ x∈ws,1<=x
 c:∀ x∈cs,x.1<ws.length/\x.2.1<ws.length/\x.1≠x.2.1/\1<=x.2.2
 s:∀ x∈cs.zip (cs.drop 1),lexLt [(x.1.1:Int),x.1.2.1] [(x.2.1:Int),x.2.2.1]=true
def yu (ws:List Int)(cs:List Co):FV:=.tup [.tup (ws.map .int),.tup (cs.map yw)]
theorem ul {cs:List Co}(h:∀ x∈cs.zip (cs.drop 1),lexLt [(x.1.1:Int),x.1.2.1] [(x.2.1:Int),x.2.2.1]=true):(cs.map λc=>[(c.1:Int),c.2.1]).Nodup:=by
 have lt:∀ a b c d:Int,lexLt [a,b] [c,d]=true↔(a<c ∨ a=c/\b<d):=λa b c d=>by
  by_cases e:a=c
  ·subst e
   by_cases e2:b=d
   ·subst e2;simp[lexLt]
   ·simp[lexLt,e2]
  ·simp[lexLt,e]
 have go:∀ (cs:List Co) (a b:Nat),(∀ x∈cs.zip (cs.drop 1),lexLt [(x.1.1:Int),x.1.2.1] [(x.2.1:Int),x.2.2.1]=true)->(∀ c∈cs.head?,a<c.1 ∨ a=c.1/\b<c.2.1)->(∀ c∈cs,a<c.1 ∨ a=c.1/\b<c.2.1)/\(cs.map λc=>[(c.1:Int),c.2.1]).Nodup:=by
  intro cs
  induction cs with
  | nil=>intro a b _ _;simp
  | cons x r ih =>
   intro a b hs hh
   have hx:=hh x (by simp)
   have h2:=ih x.1 x.2.1 (λp hp=>hs p (by
    cases r with
    | nil=>simp at hp
    | cons y q=>simp at hp ⊢;exact .inr hp)) (λc hc=>by
    cases r with
    | nil=>simp at hc
    | cons y q =>
     simp at hc;subst hc
     have:=(lt _ _ _ _).mp (hs (x,y) (by simp))
     dsimp only at this
     lia)
   refine⟨λc hc=>?_,?_⟩
   ·rcases jN.mp hc with rfl|hc
    ·exact hx
    ·have:=h2.1 c hc;lia
   ·simp only[jQ,ig]
    refine⟨λhm=>?_,h2.2⟩
    obtain⟨c,hc,e⟩:=kC.mp hm
    have:=h2.1 c hc
    simp at e;lia
 cases cs with
 | nil=>simp
 | cons x r =>
  have h2:=go r x.1 x.2.1 (λp hp=>h p (by
   cases r with
   | nil=>simp at hp
   | cons y q=>simp at hp ⊢;exact .inr hp)) (λc hc=>by
   cases r with
   | nil=>simp at hc
   | cons y q =>
    simp at hc;subst hc
    have:=(lt _ _ _ _).mp (h (x,y) (by simp))
    dsimp only at this
    lia)
  simp only[jQ,ig]
  refine⟨λhm=>?_,h2.2⟩
  obtain⟨c,hc,e⟩:=kC.mp hm
  have:=h2.1 c hc
  simp at e;lia
def keyH (c:Co):List Int:=[c.1,c.2.1]
theorem CN (d:Nat){ws:List Int}{cs:List Co}(h:Gst ws cs)(hc:cs.length<=1000){Q:FV×FV->Prop}(q:Q (.dct (cs.map keyH) (cs.map λc=>.int c.2.2),.non)):callW tb (d+1) 12 [yu ws cs] Q:=by
 refine mY (fd:=JT) rfl rfl ?_
 simp[JT,GY,yu,big]
 refine⟨by lia,?_⟩
 refine vO (f:=yw) (g:=keyH) (h:=λc=>.int c.2.2) cs [] [] (by simp) (ul h.s) (λx hx K k=>?_) (by simpa using q)
 simp[yw,big]
 exact k
def rQ:Option Nat->FV|none=>.non|some a=>.int a
theorem AK (m:Int)(ks:List Int)(R:Bool->Prop):wp (DW (.int m) (.tup (ks.map .int))) R↔R (decide (m∈ks)):=by
 have h:FV.tup (ks.map .int)=dF (.tup (ks.map .int)):=by show _=FV.tup (dFs _);rw[nj,kG];rfl
 have hd:∀ xs:List Int,deps (xs.map D.int)=0:=λxs=>by induction xs with|nil=>rfl|cons x r ih=>exact (by show max 0 _=0;rw[ih];rfl)
 have e:DW (.int m) (.tup (ks.map .int))=some (decide (m∈ks)):=by
  unfold DW
  rw[h,show FV.int m=dF (.int m) from rfl,vG (.int m) nB (show 0<nB by decide),vG _ nB (by show deps _+1<_;rw[hd];decide)]
  show some (List.any _ _)=some _
  congr 1
  induction ks with
  | nil=>simp
  | cons x r ih =>
   have ih:(r.map D.int).any (λy=>D.eqv y (D.int m))=decide (m∈r):=ih (by simp[dF,nj,fE])
   simp only[jQ,jS,D.eqv_int,ih,jN]
   rw[iJ];simp;constructor<;>(rintro (h|h)<;>first|exact .inl h.symm|exact .inr h)
 rw[e];exact mf
theorem yd (d:Nat){n g:Int}{v:FV}{Q:FV×FV->Prop}(hs:Lf n v)(h0:0<=n)(hn:n<100000)(q:∀ s v',1<=s->s<1000000000->Lf (n+2) v'->Q (.int s,v')):callW tb (d+3) 39 [v,.int g] Q:=by
 refine mY (fd:=Jw) rfl rfl ?_
 simp[Jw,Ks,big]
 refine nh d hs ⋯ (by decide) (by decide) λu v1 u0 u1 l1=>?_
 simp
 have fin:wp (vW [FV.int 9,FV.int 9,FV.int 40,FV.int 3] u) λz=>callW tb (d+2) 33 [v1,z] λz=>wp (m8 (FV.int 1) z.fst) λz_1=>Q (z_1,z.snd):=by
  refine oT u0 u1 ?_
  intro f hf
  obtain⟨k,rfl,k0,k1⟩:∃ k:Int,f=.int k/\0<k/\k<=40:=by
   simp at hf
   rcases hf with rfl|rfl|rfl|rfl<;>exact⟨_,rfl,by decide,by decide⟩
  refine nh d l1 ⋯ k0 ⋯ λw v2 w0 w1 l2=>?_
  simp
  exact q _ _ ⋯ ⋯ (l2.mono ⋯)
 refine nI (λh=>?_) (λh=>fin)
 refine nI (λh=>?_) (λh=>fin)
 refine⟨by decide,nh d l1 ⋯ (by decide) (by decide) λw v2 w0 w1 l2=>?_⟩
 simp
 exact q _ _ ⋯ ⋯ (l2.mono ⋯)
def Bb (xs:List Int):Prop:=∀ x∈xs,1<=x/\x<2000000000
theorem HZ (d:Nat) {n M:Int} {v:FV} {Q:FV×FV->Prop} (hs:Lf n v) (h0:0<=n) (hn:n<10000) (hM:8<=M) (hM2:M<=30) (q:∀ (ws ss:List Int) v',1<=ws.length->ws.length<=30->ss.length+1=ws.length->Bb ws->Bb ss->Lf (n+200) v'->Q (.tup [.tup (ws.map .int),.tup (ss.map .int)],v')):callW tb (d+4) 40 [v,.int M] Q:=by
  refine mY (fd:=Jv) rfl rfl ?_
  simp[Jv,Kr,big]
  refine nh (d+1) hs ⋯ (by decide) (by decide) λu v1 u0 u1 l1=>?_
  simp
  have tail : ∀ (m : Nat) (v2 : FV), 1 <= m -> m <= 30 -> Lf (n + 2) v2 -> callW tb (d + 3) 33 [v2, FV.int 4] fun z =>
      oJ (m:Int)=true/\(sQ 0 (m:Int).toNat).length<=100000 /\
        pV 5 1 (Tg.nm 5) nP
          (mX m8 (m5 (callW tb (d + 3)) 39 0 (mU (mT 3) mW))
            (mX nK (oy (mU (eC (FV.int 0)) (mU (eC (FV.int 9)) mW)))
              (m5 (callW tb (d + 3)) 33 0 (mU (eC (FV.int 2)) mW))))
          (sQ 0 (m : Int).toNat) [] [some z.snd, some (FV.int M), some (FV.int m), some z.fst, none] fun ys L2 =>
          wp (lk (lY L2 4 (some (FV.tup ys))) 4) fun x =>
            wp (lk (lY L2 4 (some (FV.tup ys))) 2) fun x_1 =>
              wp (uV x_1 (FV.int 1)) fun z =>
                wp (pM z) fun j =>
                  oJ j = true /\ kZ L2 = 5 /\ (sQ 0 j.toNat).length <= 100000 /\
                        pV 5 1 (Tg.nm 5) nP (m5 (callW tb (d + 3)) 39 0 (mU (mT 3) mW)) (sQ 0 j.toNat)
                          [] (lY L2 4 (some (FV.tup ys))) fun ys L2 =>
                          wp (lk L2 0) fun x_2 => Q (FV.tup [x, FV.tup ys], x_2) := by
    intro m v2 m1 m2 l2
    refine nh (d+1) l2 ⋯ (by decide) (by decide) λg v3 g0 g1 l3=>?_
    refine⟨nu ⋯ ⋯,?_⟩
    rw[fC,oU]
    refine⟨by simp;lia,?_⟩
    refine qj (f:=λi:Nat=>FV.int i) (I:=λds Z8 L=>∃ v' xs,L=[some v',some (.int M),some (.int m),some (.int g),none]/\Z8=xs.map .int/\xs.length=ds.length/\Bb xs/\Lf (n+3+3*ds.length) v') (lL m) (lL m) [] [] _ rfl ⟨v3,[],rfl,rfl,rfl,by simp[Bb],by simpa[Int.add_assoc] using l3⟩ ?_ ?_
    · rintro ds x r Z8 L K e ⟨v',xs,rfl,rfl,hl,hx,lf⟩ k
      have hd:ds.length<30:=by have:=congrArg kZ e;simp at this;lia
      simp
      refine yd d lf ⋯ ⋯ λs v4 s0 s1 l4=>?_
      simp[big]
      refine nh (d+1) l4 ⋯ (by decide) (by decide) λw v5 w0 w1 l5=>?_
      simp
      refine oT w0 w1 ?_
      intro f hf
      obtain⟨p,rfl,p0,p1⟩:∃ p:Int,f=.int p/\0<=p/\p<=9:=by
        simp at hf
        rcases hf with rfl | rfl <;> exact ⟨_, rfl, by decide, by decide⟩
      simp
      refine k _ _ ⟨v5,xs++[s+p],rfl,by simp,by simp[hl],?_,l5.mono (by simp;lia)⟩
      intro y hy
      rcases ik.mp hy with hy|hy
      · exact hx y hy
      · simp at hy;subst hy;lia
    · rintro ys L ⟨v',ws,rfl,rfl,hl,hx,lf⟩
      simp only[fw] at hl lf
      simp
      refine⟨nu ⋯ ⋯,?_⟩
      rw[oU]
      refine⟨by simp;lia,?_⟩
      refine qj (f:=λi:Nat=>FV.int i) (I:=λds Z8 L=>∃ v' xs,L=[some v',some (.int M),some (.int m),some (.int g),some (.tup (ws.map .int))]/\Z8=xs.map .int/\xs.length=ds.length/\Bb xs/\Lf (n+93+3*ds.length) v') (lL (m-1)) (lL (m-1)) [] [] _ rfl ⟨v',[],rfl,rfl,rfl,by simp[Bb],lf.mono (by simp;lia)⟩ ?_ ?_
      · rintro ds x r Z8 L K e ⟨v',xs,rfl,rfl,hl,hx,lf⟩ k
        have hd : ds.length < 30 := by have := congrArg kZ e; simp at this; lia
        simp
        refine yd d lf ⋯ ⋯ fun s v4 s0 s1 l4 => ?_
        simp
        refine k _ _ ⟨v4, xs ++ [s], rfl, by simp, by simp [hl], ?_, l4.mono (by simp; lia)⟩
        intro y hy
        rcases ik.mp hy with hy | hy
        · exact hx y hy
        · simp at hy; subst hy; lia
      · rintro ys L ⟨v',ss,rfl,rfl,hl2,hx2,lf⟩
        simp only [fw] at hl2 lf
        simp
        exact q ws ss v' ⋯ ⋯ ⋯ hx hx2 (lf.mono ⋯)
  refine nI (λh=>?_) (λh=>?_)
  · refine nh (d+1) l1 ⋯ (by decide) (by decide) λw v2 w0 w1 l2=>?_
    obtain⟨m,hm⟩:∃ m:Nat,1+w=m:=⟨(1+w).toNat,by lia⟩
    simp
    rw[hm]
    exact tail m v2 ⋯ ⋯ (l2.mono ⋯)
  · refine nh (d+1) l1 ⋯ ⋯ ⋯ λw v2 w0 w1 l2=>?_
    obtain⟨m,hm⟩:∃ m:Nat,8+w=m:=⟨(8+w).toNat,by lia⟩
    simp
    rw[hm]
    exact tail m v2 ⋯ ⋯ (l2.mono ⋯)
def sC (ss:List Int):List Co:=(lL ss.length).map λi=>(i,i+1,ss.getD i 0)
theorem E8 {ws ss:List Int}(hw:Bb ws)(hs:Bb ss)(hl:ss.length+1=ws.length):Gst ws (sC ss):=by
 refine⟨λx hx=>(hw x hx).1,λx hx=>?_,λx hx=>?_⟩
 ·obtain⟨i,hi,rfl⟩:=kC.mp hx
  have hi:=je.mp hi
  refine⟨by show i<_;lia,by show i+1<_;lia,by show i≠i+1;lia,?_⟩
  show 1<=ss.getD i 0
  simp only[lP,aX hi,fW]
  exact (hs _ (gn hi)).1
 ·obtain⟨j,hj⟩:=List.mem_iff_getElem?.mp hx
  obtain⟨h1,h2⟩:=List.getElem?_zip_eq_some.mp hj
  rw[dU] at h2
  simp only[sC,fx] at h1 h2
  obtain⟨a,e1,e2⟩:=bI.mp h1
  obtain⟨b,e3,e4⟩:=bI.mp h2
  have ha:a=j:=by have:=(aI.mp e1).2;simpa using this.symm
  have hb:b=1+j:=by have:=(aI.mp e3).2;simpa using this.symm
  rw[<- e2,<- e4,ha,hb]
  show lexLt [(j:Int),((j+1:Nat):Int)] [((1+j:Nat):Int),((1+j+1:Nat):Int)]=true
  have:¬ (j:Int)=((1+j:Nat):Int):=by lia
  rw[lexLt,if_neg this,decide_eq_true_eq]
  lia
theorem CT (ss:List Int):(sC ss).length=ss.length:=by simp[sC]
def uk (ks:List Nat) (n:Nat):List (Option Nat):=(lL n).map λm=>if m∈ks then none else some (m-1)
theorem ve (d:Nat){ws ss:List Int}(hl:ss.length<=30){Q:FV×FV->Prop}(q:Q (yu ws (sC ss),.non)):callW tb (d+1) 18 [.tup [.tup (ws.map .int),.tup (ss.map .int)]] Q:=by
 refine mY (fd:=JO) rfl rfl ?_
 simp[JO,KE,big]
 rw[oU,pq]
 refine⟨by simp;lia,?_⟩
 refine nD (g:=λp:Nat×Int=>yw (p.1,p.1+1,p.2)) ((lL ss.length).zip ss) [] (λx hx K k=>?_) ?_
 ·simp[big]
  simpa[yw] using k
 ·have e:((lL ss.length).zip ss).map (λp:Nat×Int=>yw (p.1,p.1+1,p.2))=(sC ss).map yw:=by
   apply gr
   ·simp[sC]
   ·intro i h1 h2
    simp at h1 h2
    have:i<ss.length:=by simpa[sC] using h2
    simp[sC,this,lP]
  rw[ii,e]
  simpa[yu] using q
theorem Gd (m:Nat)(ks:List Nat)(R:Bool->Prop):wp (DW (.int m) (.tup (ks.map λi:Nat=>.int i))) R↔R (decide (m∈ks)):=by
 have ek:(ks.map λi:Nat=>FV.int i)=(ks.map λi:Nat=>(i:Int)).map .int:=by simp
 rw[ek,AK]
 have:((m:Int)∈ks.map λi:Nat=>(i:Int))↔m∈ks:=by
  rw[kC]
  exact⟨λ⟨a,h,e⟩=>(show a=m by lia) ▸ h,λh=>⟨m,h,rfl⟩⟩
 simp only[this]
theorem Ak (d:Nat){ws ss:List Int}{ks:List Nat}(hl:ws.length<=30)(h0:0∈ks){Q:FV×FV->Prop}(q:Q (.tup ((uk ks ws.length).map rQ),.non)):callW tb (d+1) 19 [.tup [.tup (ws.map .int),.tup (ss.map .int)],.tup (ks.map λi:Nat=>.int i)] Q:=by
 refine mY (fd:=JN) rfl rfl ?_
 simp[JN,GV,big]
 refine⟨nu ⋯ ⋯,?_⟩
 rw[oU]
 refine⟨by simp;lia,?_⟩
 refine nD (f:=λi:Nat=>FV.int i) (g:=λm=>rQ (if m∈ks then none else some (m-1))) (lL ws.length) [] (λm hm K k=>?_) ?_
 ·simp[Gd]
  refine nI (λh=>?_) (λh=>?_)
  ·rw[if_pos h] at k;simpa[rQ] using k
  ·rw[if_neg h] at k
   have hm0:m≠0:=λz=>h (by rw[z];exact h0)
   have:((m-1:Nat):Int)=(m:Int)-1:=by lia
   simpa[rQ,this] using k
 ·simp
  simpa[uk,fE] using q
theorem w4 {α:Type}(xs:List α) (i t:Nat):nT xs (some (i:Int)) (some ((i:Int)+(t:Int)))=(xs.drop i).take t:=by
 have h1:sIx xs.length 0 (some (i:Int))=min i xs.length:=by simp only[sIx];rw[if_neg ⋯];simp
 have h2:sIx xs.length xs.length (some ((i:Int)+(t:Int)))=min (i+t) xs.length:=by simp only[sIx];rw[if_neg ⋯];congr 1
 unfold nT
 rw[h1,h2]
 by_cases hi:i<=xs.length
 ·rw[hW hi,bZ,gj];lia
 ·rw[f6 (show xs.length<=i by lia),bO (kW _),bO ⋯];simp
theorem tH {α:Type}(xs:List α){i j:Nat}(h:i<=j):nT xs (some (i:Int)) (some (j:Int))=(xs.drop i).take (j-i):=by
 obtain⟨t,rfl⟩:∃ t,j=i+t:=⟨j-i,by lia⟩
 rw[bn,<- w4];simp
def kp (ws ss:List Int)(ks:List Nat) (m:Nat):Int:=if m∈ks then ws.getD m 0 else ss.getD (m-1) 0
def pF (ks:List Nat):Nat->List Nat
 | 0=>[0]
 | m+1=>if m+1∈ks then [m+1] else pF ks m++[m+1]
theorem Cs {ks:List Nat}(h0:0∈ks){b:Nat}(hb:b∈ks):∀ j,b<=j->(∀ i,b<i->i<=j->i ∉ ks)->pF ks j=kX b (j+1-b)
 | 0,h,_=>by
  have:b=0:=by lia
  subst this;rfl
 | j+1,h,hn=>by
  unfold pF
  by_cases e:b=j+1
  ·rw[if_pos (e ▸ hb),<- e,show b+1-b=1 by lia];rfl
  ·rw[if_neg (hn (j+1) ⋯ (kW _)),Cs h0 hb j ⋯ (λi h1 h2=>hn i h1 ⋯),show j+1+1-b=(j+1-b)+1 by lia,dM]
   congr 2;lia
def pC (ws ss:List Int) (b e:Nat):Int:=ws.getD b 0+((ss.drop b).take (e-1-b)).sum
theorem Af {ws ss:List Int}{ks:List Nat}{b e:Nat}(hb:b∈ks)(h1:b<e)(h2:e<=ss.length+1)(hn:∀ i,b<i->i<e->i ∉ ks):((kX b (e-b)).map (kp ws ss ks)).sum=pC ws ss b e:=by
 obtain⟨t,rfl⟩:∃ t,e=b+t+1:=⟨e-b-1,by lia⟩
 have e1:b+t+1-b=t+1:=by lia
 have e2:b+t+1-1-b=t:=by lia
 rw[pC,e1,e2,gb,jQ,jM,kp,if_pos hb]
 congr 2
 apply gr
 ·simp;lia
 ·intro i h3 h4
  have h5:i<t:=by simpa using h3
  simp only[gp,List.getElem_range',List.getElem_take,List.getElem_drop]
  rw[kp,if_neg (hn _ ⋯ ⋯),show b+1+1*i-1=b+i by lia,lP,aX ⋯];rfl
def pf (ks:List Nat) (n:Nat):List (Nat×Nat):=ks.zip (ks.drop 1++[n])
theorem rk:∀ {ks:List Nat}{n:Nat},ks.Pairwise (· < ·)->(∀ k∈ks,k<n)->∀ p∈pf ks n,p.1∈ks/\p.1<p.2/\p.2<=n/\∀ i,p.1<i->i<p.2->i ∉ ks
 | [],n,_,_,p,hp=>by simp[pf] at hp
 | [k],n,_,hk,p,hp=>by
  have:p=(k,n):=by simpa[pf] using hp
  subst this
  have:=hk k (by simp)
  exact⟨by simp,this,kW _,λi h1 h2 h3=>by simp at h3;lia⟩
 | k :: k2 :: r,n,hs,hk,p,hp=>by
  obtain⟨h1,h2⟩:=dN.mp hs
  have hp:p=(k,k2) ∨ p∈pf (k2 :: r) n:=by simpa[pf] using hp
  rcases hp with rfl|hp
  ·refine⟨by simp,h1 k2 (by simp),kr (hk k2 (by simp)),λi h3 h4 h5=>?_⟩
   rcases jN.mp h5 with h5|h5
   ·simp at h3;lia
   ·rcases jN.mp h5 with h6|h6
    ·simp at h4;lia
    ·have:=(dN.mp h2).1 i h6
     simp at h4;lia
  ·obtain⟨a,b,c,d⟩:=rk h2 (λx hx=>hk x (cI _ hx)) p hp
   refine⟨cI _ a,b,c,λi h3 h4 h5=>?_⟩
   rcases jN.mp h5 with h5|h5
   ·have:=h1 _ a;lia
   ·exact d i h3 h4 h5
theorem xB {α:Type}(f:Nat->α):∀ {k:Nat}{r:List Nat}{n:Nat},(k :: r).Pairwise (· < ·)->(∀ x∈k :: r,x<n)->(pf (k :: r) n).flatMap (λp=>(kX p.1 (p.2-p.1)).map f)=(kX k (n-k)).map f
 | k,[],n,_,_=>by simp[pf]
 | k,k2 :: r,n,hs,hk=>by
  obtain⟨h1,h2⟩:=dN.mp hs
  have e:pf (k :: k2 :: r) n=(k,k2) :: pf (k2 :: r) n:=by simp[pf]
  rw[e,fA,xB f h2 λx hx=>hk x (cI _ hx),<- il]
  congr 1
  have a:=h1 k2 (by simp)
  have b:=hk k2 (by simp)
  show kX k (k2-k)++kX k2 (n-k2)=_
  have e2:kX k2 (n-k2)=kX (k+1*(k2-k)) (n-k2):=by congr 1;lia
  rw[e2,List.range'_append]
  congr 1;lia
theorem vB {ks:List Nat}(h0:0∈ks)(hs:ks.Pairwise (· < ·)):∃ r,ks=0 :: r:=by
 cases ks with
 | nil=>cases h0
 | cons k r =>
  rcases jN.mp h0 with h|h
  ·exact⟨r,by rw[<- h]⟩
  ·have:=(dN.mp hs).1 0 h;lia
theorem tM {α:Type}(f:Nat->α){ks:List Nat}{n:Nat}(h0:0∈ks)(hs:ks.Pairwise (· < ·))(hk:∀ x∈ks,x<n):(pf ks n).flatMap (λp=>(kX p.1 (p.2-p.1)).map f)=(lL n).map f:=by
 obtain⟨r,rfl⟩:=vB h0 hs
 rw[xB f hs hk,cC];rfl
def rd (ws ss:List Int)(ks:List Nat) (m:Nat):Int:=((pF ks m).map (kp ws ss ks)).sum
theorem ux {α:Type}(g:α->List Int):∀ xs:List α,(xs.flatMap g).sum=(xs.map λx=>(g x).sum).sum
 | []=>rfl
 | x :: r=>by rw[fA,ib,ux g r];rfl
theorem Fa {ws ss:List Int}{ks:List Nat}(hl:ss.length+1=ws.length)(h0:0∈ks)(hs:ks.Pairwise (· < ·))(hk:∀ x∈ks,x<ws.length):((lL ws.length).map (kp ws ss ks)).sum=((pf ks ws.length).map λp=>pC ws ss p.1 p.2).sum:=by
 rw[<- tM _ h0 hs hk,ux]
 congr 1
 apply c5
 intro p hp
 obtain⟨a,b,c,d⟩:=rk hs hk p hp
 exact Af a b ⋯ d
theorem Ib {ws ss:List Int}{ks:List Nat}(hl:ss.length+1=ws.length)(h0:0∈ks)(hs:ks.Pairwise (· < ·))(hk:∀ x∈ks,x<ws.length){p:Nat×Nat}(hp:p∈pf ks ws.length){j:Nat}(h1:p.1<=j)(h2:j<p.2):rd ws ss ks j=pC ws ss p.1 (j+1):=by
 obtain⟨a,b,c,d⟩:=rk hs hk p hp
 rw[rd,Cs h0 a j h1 (λi h3 h4=>d i h3 ⋯)]
 exact Af a ⋯ ⋯ (λi h3 h4=>d i h3 ⋯)
theorem AN:∀ {cs:List Co}{c:Co},(cs.map keyH).Nodup->c∈cs->o6 (cs.map keyH) (cs.map λc=>FV.int c.2.2) (keyH c)=some (.int c.2.2)
 | x :: r,c,hn,hc=>by
  simp only[jQ,ig] at hn
  show (if keyH x=keyH c then some (FV.int x.2.2) else o6 (r.map keyH) (r.map λc=>FV.int c.2.2) (keyH c))=_
  rcases jN.mp hc with rfl|hc
  ·rw[if_pos rfl]
  ·rw[if_neg λe:keyH x=keyH c=>hn.1 (by rw[e];exact kC.mpr ⟨c,hc,rfl⟩)]
   exact AN hn.2 hc
theorem yt (ws:List Int)(cs:List Co)(Q:List FV->Prop):wp (oV (yu ws cs)) Q↔Q [.tup (ws.map .int),.tup (cs.map yw)]:=mf
theorem oO {xs:List Int}{i:Nat}(h:i<xs.length)(Q:FV->Prop):wp (vW (xs.map .int) (i:Int)) Q↔Q (.int (xs.getD i 0)) :=
 nN rfl (by rw[fx,aX h];simp[lP,h])
theorem CH {xs:List Int}(hl:xs.length<=1000)(h:∀ x∈xs,0<=x/\x<2000000000){Q:Int->Prop}(q:Q xs.sum):wp (CJ (xs.map .int)) Q:=by
 simp only[CJ,o9,ints_map,oo]
 rw[pS]
 refine⟨⟨by simp only[big];lia,?_⟩,q⟩
 rw[gw]
 intro x hx
 have:=h x hx
 simp only[tu,decide_eq_true_eq];lia
theorem DK (ks:List Nat) (n:Nat):oX ((lL n).map λi:Nat=>FV.int i) ((uk ks n).map rQ)=(lL n).map λm:Nat=>FV.tup [.int (m:Int),rQ (if m∈ks then none else some (m-1))]:=by
 rw[pq]
 apply gr
 ·simp[uk]
 ·intro i h1 h2
  simp[uk]
structure Rw (ws ss:List Int)(ks:List Nat):Prop where
 hw:Bb ws
 hs:Bb ss
 hl:ss.length+1=ws.length
 hn:ws.length<=30
 h0:0∈ks
 hc:ks.length<=30
 hp:ks.Pairwise (· < ·)
 hk:∀ k∈ks,k<ws.length
theorem wT {xs:List Int}(h:Bb xs){i:Nat}(hi:i<xs.length):1<=xs.getD i 0/\xs.getD i 0<2000000000:=by
 rw[lP,aX hi];exact h _ (gn hi)
theorem Ml {ws ss:List Int}{ks:List Nat}(h:Rw ws ss ks){m:Nat}(hm:m<ws.length):1<=kp ws ss ks m/\kp ws ss ks m<2000000000:=by
 unfold kp
 split
 ·exact wT h.hw hm
 ·rename_i hk
  have:m≠0:=λz=>hk (z ▸ h.h0)
  have:=h.hl
  exact wT h.hs ⋯
def vI (ks:List Nat) (n:Nat):FV:=.tup ((uk ks n).map rQ)
theorem rA (ks:List Nat) (n:Nat)(Q:List FV->Prop):wp (oV (vI ks n)) Q↔Q ((uk ks n).map rQ):=mf
theorem yj (ks:List Nat) (n:Nat):(uk ks n).length=n:=by simp[uk]
theorem DN (d:Nat){ws ss:List Int}{ks:List Nat}(h:Rw ws ss ks){Q:FV×FV->Prop}(q:Q (.lst (((lL ws.length).map (kp ws ss ks)).map .int),.non)):callW tb (d+2) 13 [yu ws (sC ss),vI ks ws.length] Q:=by
 have hn:=h.hn
 have hl:=h.hl
 have hG:=E8 h.hw h.hs h.hl
 refine mY (fd:=JS) rfl rfl ?_
 simp[JS,KH]
 refine CN d hG (by rw[CT];lia) ?_
 simp[rA,yj,yt]
 rw[oU,DK]
 refine⟨by simp[big];lia,?_⟩
 refine nD (g:=λm=>.int (kp ws ss ks m)) (lL ws.length) [] (λm hm K k=>?_) ?_
 ·have hm:=je.mp hm
  by_cases hk:m∈ks
  ·rw[kp,if_pos hk] at k
   simp[hk,rQ,yt]
   rw[oO hm]
   exact k
  ·rw[kp,if_neg hk] at k
   have m0:m≠0:=λz=>hk (z ▸ h.h0)
   have mem:((m-1,m,ss.getD (m-1) 0):Co)∈sC ss:=kC.mpr ⟨m-1,je.mpr ⋯,by rw[show m-1+1=m by lia]⟩
   have e:=AN (ul hG.s) mem
   simp only[keyH] at e
   simp[hk,rQ,big]
   rw[e]
   exact k
 ·simpa[kG,fE] using q
theorem E9 (d:Nat){ws ss:List Int}{ks:List Nat}(h:Rw ws ss ks){Q:FV×FV->Prop}(q:Q (.int ((lL ws.length).map (kp ws ss ks)).sum,.non)):callW tb (d+3) 14 [yu ws (sC ss),vI ks ws.length] Q:=by
 have hn:=h.hn
 refine mY (fd:=JR) rfl rfl ?_
 simp[JR,GX]
 refine DN d h ?_
 simp only[Bs]
 refine CH (by simp;lia) ?_ q
 intro x hx
 obtain⟨m,hm,rfl⟩:=kC.mp hx
 have:=Ml h (je.mp hm)
 lia
theorem zZ {ks:List Nat}:∀ {m i:Nat},i∈pF ks m->i<=m
 | 0,i,h=>by simp[pF] at h;lia
 | m+1,i,h=>by
  unfold pF at h
  split at h
  ·simp at h;lia
  ·rcases ik.mp h with h|h
   ·have:=zZ h;lia
   ·simp at h;lia
theorem z9 {ks:List Nat}:∀ m:Nat,(pF ks m).length<=m+1/\1<=(pF ks m).length
 | 0=>by simp[pF]
 | m+1=>by
  unfold pF
  split
  ·simp
  ·have:=z9 (ks:=ks) m;simp;lia
def J0 (ks:List Nat) (m:Nat):FV:=.tup ((pF ks m).map λi:Nat=>.int i)
theorem Ed (ks:List Nat) (m:Nat)(Q:List FV->Prop):wp (oV (J0 ks m)) Q↔Q ((pF ks m).map λi:Nat=>.int i):=mf
theorem A6 {ks:List Nat}{n i:Nat}(h:i<n)(Q:FV->Prop):wp (vW ((uk ks n).map rQ) (i:Int)) Q↔Q (rQ (if i∈ks then none else some (i-1))) :=
 nN rfl (by simp[uk,h])
theorem HD (d:Nat){ks:List Nat}{n m:Nat}(hn:n<=30)(h0:0∈ks)(hm:m<n){Q:FV×FV->Prop}(q:Q (J0 ks m,.non)):callW tb (d+1) 15 [vI ks n,.int m] Q:=by
 refine mY (fd:=JQ) rfl rfl ?_
 simp[JQ,KG,big,rA]
 rw[A6 hm]
 -- out++the way of what is yet to come,read backwards
 refine rX (I:=λt L=>∃ (o:Option Nat)(out:List Nat),L=[some (vI ks n),some (.int m),some (.lst (out.map λi:Nat=>.int i)),some (rQ o)]/\out.length+t<=31/\(match o with|none=>pF ks m=out.reverse|some p=>p<m/\t=p+1/\pF ks m=pF ks p++out.reverse)) ?_ (m:=m) ⟨if m∈ks then none else some (m-1),[m],rfl,by simp;lia,?_⟩
 ·rintro t L K ⟨o,out,rfl,hl,ho⟩ k
  cases o with
  | none =>
   dsimp only at ho
   simp[rQ]
   simpa[J0,ho] using q
  | some p =>
   obtain⟨hp,rfl,hw⟩:=ho
   simp[rQ,big,rA]
   refine⟨by lia,?_⟩
   rw[A6 ⋯]
   by_cases hk:p∈ks
   ·refine k 0 _ ⋯ ⟨none,out++[p],by simp[hk],by simp;lia,?_⟩
    show pF ks m=_
    rw[hw]
    cases p with
    | zero=>simp[pF]
    | succ p=>simp[pF,hk]
   ·have p0:p≠0:=λz=>hk (z ▸ h0)
    obtain⟨r,rfl⟩:∃ r,p=r+1:=⟨p-1,by lia⟩
    refine k (r+1) _ ⋯ ⟨some r,out++[r+1],by simp[hk],by simp;lia,by lia,rfl,?_⟩
    rw[hw]
    simp[pF,hk]
 ·by_cases hk:m∈ks
  ·rw[if_pos hk]
   show pF ks m=_
   cases m with
   | zero=>simp[pF]
   | succ m=>simp[pF,hk]
  ·have p0:m≠0:=λz=>hk (z ▸ h0)
   obtain⟨r,rfl⟩:∃ r,m=r+1:=⟨m-1,by lia⟩
   rw[if_neg hk]
   refine⟨by lia,?_,?_⟩
   ·rfl
   ·simp[pF,hk]
theorem CY (d:Nat){ws ss:List Int}{ks:List Nat}(h:Rw ws ss ks){Q:FV×FV->Prop}(q:Q (.tup (((lL ws.length).map (rd ws ss ks)).map .int),.non)):callW tb (d+3) 16 [yu ws (sC ss),vI ks ws.length] Q:=by
 have hn:=h.hn
 refine mY (fd:=JP) rfl rfl ?_
 simp[JP,KF]
 refine DN d h ?_
 simp[rA,yj]
 refine⟨nu ⋯ ⋯,?_⟩
 rw[oU]
 refine⟨by simp[big];lia,?_⟩
 refine nD (f:=λi:Nat=>FV.int i) (g:=λm=>.int (rd ws ss ks m)) (lL ws.length) [] (λm hm K k=>?_) ?_
 ·have hm:=je.mp hm
  have hwl:=(z9 (ks:=ks) m).1
  simp
  refine HD (d+1) h.hn h.h0 hm ?_
  simp[Ed]
  refine⟨by simp[big];lia,?_⟩
  refine nD (f:=λi:Nat=>FV.int i) (g:=λi=>.int (kp ws ss ks i)) (pF ks m) [] (λi hi K k=>?_) ?_
  ·have hi:=zZ hi
   simp
   rw[nN rfl (show ((lL ws.length).map (FV.int ∘ kp ws ss ks))[i]?=some (.int (kp ws ss ks i)) by simp[show i<ws.length by lia])]
   exact k
  ·have e:((pF ks m).map λi=>FV.int (kp ws ss ks i))=((pF ks m).map (kp ws ss ks)).map .int:=by simp
   rw[ii,e]
   rw[ints_map,oo]
   exact k
 ·simpa[kG,fE] using q
def pO (ws ss:List Int):FV:=.tup [.tup (ws.map .int),.tup (ss.map .int)]
theorem or (ws ss:List Int)(Q:List FV->Prop):wp (oV (pO ws ss)) Q↔Q [.tup (ws.map .int),.tup (ss.map .int)]:=mf
def o7 (ks:List Nat):FV:=.tup (ks.map λi:Nat=>.int i)
theorem CS (d:Nat){ws ss:List Int}{ks:List Nat}(h:Rw ws ss ks){Q:FV×FV->Prop}(q:Q (.int ((lL ws.length).map (kp ws ss ks)).sum,.non)):callW tb (d+4) 20 [pO ws ss,o7 ks] Q:=by
 have hn:=h.hn
 have hl:=h.hl
 refine mY (fd:=JM) rfl rfl ?_
 simp[JM,GU]
 refine ve (d+2) ⋯ ?_
 dsimp only
 refine Ak (d+2) h.hn h.h0 ?_
 dsimp only
 exact E9 d h q
theorem Bx (d:Nat){ws ss:List Int}{ks:List Nat}(h:Rw ws ss ks){Q:FV×FV->Prop}(q:Q (.tup (((lL ws.length).map (rd ws ss ks)).map .int),.non)):callW tb (d+4) 21 [pO ws ss,o7 ks] Q:=by
 have hn:=h.hn
 have hl:=h.hl
 refine mY (fd:=JL) rfl rfl ?_
 simp[JL,GT]
 refine ve (d+2) ⋯ ?_
 dsimp only
 refine Ak (d+2) h.hn h.h0 ?_
 dsimp only
 exact CY d h q
theorem CI:∀ {xs:List Int},(∀ x∈xs,0<=x/\x<=2000000000)->0<=xs.sum/\xs.sum<=2000000000*xs.length
 | [],_=>by simp
 | x :: r,h=>by
  have:=CI λy hy=>h y (cI _ hy)
  have:=h x (by simp)
  simp only[jM,gm,iB]
  lia
def qp (n:Nat):List Nat->Nat
 | []=>n
 | k :: _=>k
def vp (ok:Nat->Nat->Bool) (n:Nat):List Nat->Prop
 | []=>True
 | k :: r=>k<qp n r/\ok k (qp n r)=true/\vp ok n r
def pc (c:Nat->Nat->Int) (n:Nat):List Nat->Int
 | []=>0
 | k :: r=>c k (qp n r)+pc c n r
def yb:List Nat->List Nat->Bool
 | [],[]=>false
 | [],_ :: _=>true
 | _ :: _,[]=>false
 | a :: r,b :: q=>if a=b then yb r q else decide (a<b)
abbrev PT:=Int×List Nat
def qc (x y:PT):Bool:=if x.1=y.1 then yb x.2 y.2 else decide (x.1<y.1)
theorem wH:∀ a:List Nat,yb a a=false
 | []=>rfl
 | a :: r=>by simp[yb,wH r]
theorem vq:∀ {a b c:List Nat},yb a b=true->yb b c=true->yb a c=true
 | [],[],_,h,_=>by cases h
 | [],b :: q,[],_,h=>by cases h
 | [],b :: q,c :: s,_,_=>rfl
 | a :: r,[],_,h,_=>by cases h
 | a :: r,b :: q,[],_,h=>by cases h
 | a :: r,b :: q,c :: s,h,g=>by
  simp only[yb] at h g ⊢
  by_cases e1:a=b
  ·subst e1
   rw[if_pos rfl] at h
   by_cases e2:a=c
   ·subst e2;rw[if_pos rfl] at g ⊢;exact vq h g
   ·rw[if_neg e2] at g ⊢;exact g
  ·rw[if_neg e1] at h
   have h:=of_decide_eq_true h
   by_cases e2:b=c
   ·subst e2;rw[if_neg e1];exact decide_eq_true h
   ·rw[if_neg e2] at g
    have g:=of_decide_eq_true g
    rw[if_neg ⋯];exact decide_eq_true ⋯
theorem AC:∀ {a b:List Nat},yb a b=false->yb b a=false->a=b
 | [],[],_,_=>rfl
 | [],b :: q,h,_=>by cases h
 | a :: r,[],_,h=>by cases h
 | a :: r,b :: q,h,g=>by
  simp only[yb] at h g
  by_cases e:a=b
  ·subst e
   rw[if_pos rfl] at h g
   rw[AC h g]
  ·rw[if_neg e] at h
   rw[if_neg (ma e)] at g
   have h:=of_decide_eq_false h
   have g:=of_decide_eq_false g
   lia
theorem wJ (a:PT):qc a a=false:=by simp[qc,wH]
theorem vt {a b c:PT}(h:qc a b=true)(g:qc b c=true):qc a c=true:=by
 simp only[qc] at h g ⊢
 by_cases e1:a.1=b.1
 ·rw[if_pos e1] at h
  by_cases e2:b.1=c.1
  ·rw[if_pos e2] at g;rw[if_pos (e1.trans e2)];exact vq h g
  ·rw[if_neg e2] at g
   have g:=of_decide_eq_true g
   rw[if_neg ⋯];exact decide_eq_true ⋯
 ·rw[if_neg e1] at h
  have h:=of_decide_eq_true h
  by_cases e2:b.1=c.1
  ·rw[if_neg ⋯];exact decide_eq_true ⋯
  ·rw[if_neg e2] at g
   have g:=of_decide_eq_true g
   rw[if_neg ⋯];exact decide_eq_true ⋯
theorem wI {a b:PT}(h:qc a b=false)(g:qc b a=false):a=b:=by
 simp only[qc] at h g
 by_cases e1:a.1=b.1
 ·rw[if_pos e1] at h;rw[if_pos e1.symm] at g
  exact Prod.ext e1 (AC h g)
 ·rw[if_neg e1] at h;rw[if_neg (ma e1)] at g
  have h:=of_decide_eq_false h
  have g:=of_decide_eq_false g
  lia
theorem sJ {a b c:PT}(h:qc b a=false)(g:qc c b=false):qc c a=false:=by
 cases e:qc c a with
 | false=>rfl
 | true =>
  cases e2:qc a b with
  | true=>rw[vt e e2] at g;cases g
  | false=>rw[wI e2 h,g] at e;cases e
theorem FY {a b:PT}(h:qc b a=false):a.1<=b.1:=by
 simp only[qc] at h
 by_cases e:b.1=a.1
 ·lia
 ·rw[if_neg e] at h
  have:=of_decide_eq_false h
  lia
theorem yc {c:Int}{i:Nat}{x y:PT}:qc (c+x.1,i :: x.2) (c+y.1,i :: y.2)=qc x y:=by
 simp only[qc,yb,if_true]
 by_cases e:x.1=y.1
 ·rw[if_pos e,if_pos ⋯]
 ·rw[if_neg e,if_neg ⋯]
  congr 1
  exact propext ⟨λh=>by lia,λh=>by lia⟩
theorem ug {α:Type}(lt:α->α->Bool):∀ (xs:List α)(b:α),nX lt b xs∈b :: xs
 | [],b=>by simp[nX]
 | x :: r,b=>by
  have:=ug lt r (if lt x b=true then x else b)
  show nX lt (if lt x b=true then x else b) r∈_
  split at this<;>rename_i h
  ·rw[if_pos h];exact cI _ this
  ·rw[if_neg h]
   rcases jN.mp this with e|e
   ·rw[e];simp
   ·exact cI _ (cI _ e)
theorem uf:∀ (xs:List PT)(b:PT),∀ x∈b :: xs,qc x (nX qc b xs)=false
 | [],b,x,h=>by
  rcases jN.mp h with rfl|h
  ·exact wJ _
  ·cases h
 | y :: r,b,x,h=>by
  show qc x (nX qc (if qc y b=true then y else b) r)=false
  have ih:=uf r (if qc y b=true then y else b)
  have h0:=ih _ dQ
  rcases jN.mp h with rfl|h
  ·by_cases e:qc y x=true
   ·rw[if_pos e] at h0 ⊢
    refine sJ h0 ?_
    cases e2:qc x y with
    | false=>rfl
    | true=>have:=vt e e2;rw[wJ] at this;cases this
   ·rw[if_neg e] at h0 ⊢;exact h0
  ·rcases jN.mp h with rfl|h
   ·by_cases e:qc x b=true
    ·rw[if_pos e] at h0 ⊢;exact h0
    ·rw[if_neg e] at h0 ⊢
     exact sJ h0 (by simpa using e)
   ·exact ih x (cI _ h)
def Bst (ok:Nat->Nat->Bool)(c:Nat->Nat->Int) (n i:Nat):Option PT->Prop
 | some p=>p.1=pc c n p.2/\qp n p.2=i/\vp ok n p.2/\∀ ks,qp n ks=i->vp ok n ks->qc (pc c n ks,ks) p=false
 | none=>∀ ks,qp n ks=i->¬ vp ok n ks
section
variable {ok:Nat->Nat->Bool}{c:Nat->Nat->Int}{n:Nat}
theorem Bst.uniq {i:Nat}{o o':Option PT}(h:Bst ok c n i o)(h':Bst ok c n i o'):o=o':=by
 cases o with
 | none =>
  cases o' with
  | none=>rfl
  | some p=>exact absurd h'.2.2.1 (h _ h'.2.1)
 | some p =>
  cases o' with
  | none=>exact absurd h.2.2.1 (h' _ h.2.1)
  | some q =>
   have a:=h.2.2.2 q.2 h'.2.1 h'.2.2.1
   have b:=h'.2.2.2 p.2 h.2.1 h.2.2.1
   rw[<- h'.1] at a
   rw[<- h.1] at b
   exact congrArg some (wI b a)
theorem xp:∀ {ks:List Nat},vp ok n ks->(∀ k∈ks,k<n)/\ks.Pairwise (· < ·)/\∀ k∈ks,qp n ks<=k
 | [],_=>by simp
 | k :: r,h=>by
  obtain⟨h1,h2,h3⟩:=h
  obtain⟨a,b,d⟩:=xp h3
  have hk:k<n:=by
   cases r with
   | nil=>exact h1
   | cons x q=>have:=a x (by simp);simp[qp] at h1;lia
  refine⟨λx hx=>?_,dN.mpr ⟨λx hx=>?_,b⟩,λx hx=>?_⟩
  ·rcases jN.mp hx with rfl|hx
   ·exact hk
   ·exact a x hx
  ·have:=d x hx;lia
  ·show k<=x
   rcases jN.mp hx with rfl|hx
   ·exact kW _
   ·have:=d x hx;lia
theorem wB {ks:List Nat}(h:vp ok n ks):qp n ks<=n:=by
 cases ks with
 | nil=>exact kW _
 | cons k r=>exact kr ((xp h).1 k (by simp))
theorem tJ:∀ {ks:List Nat},vp ok n ks->ks.length+qp n ks<=n
 | [],_=>by simp[qp]
 | k :: r,⟨h1,_,h3⟩=>by
  have:=tJ h3
  show r.length+1+k<=n
  lia
theorem xf:Bst ok c n n (some (0,[])):=by
 refine⟨rfl,rfl,trivial,λks h1 h2=>?_⟩
 cases ks with
 | nil=>exact wJ _
 | cons k r=>have:=(xp h2).1 k (by simp);simp[qp] at h1;lia
theorem Et {i:Nat}(hi:i<n)(h:∀ e,i<e->e<=n->ok i e=true->Bst ok c n e none):Bst ok c n i none:=by
 intro ks h1 h2
 cases ks with
 | nil=>simp[qp] at h1;lia
 | cons k r =>
  cases (show k=i from h1)
  exact h _ h2.1 (wB h2.2.2) h2.2.1 r rfl h2.2.2
theorem yL {i:Nat}{B:Nat->Option PT}(hi:i<n)(hB:∀ e,i<e->e<=n->Bst ok c n e (B e)){p:PT}(hp:∃ e,i<e/\e<=n/\ok i e=true/\∃ q,B e=some q/\p=(c i e+q.1,i :: q.2))
  (hl:∀ e q,i<e->e<=n->ok i e=true->B e=some q->qc (c i e+q.1,i :: q.2) p=false):Bst ok c n i (some p):=by
 obtain⟨e,h1,h2,h3,q,hq,rfl⟩:=hp
 have b:=hB e h1 h2
 rw[hq] at b
 obtain⟨b1,b2,b3,b4⟩:=b
 refine⟨?_,rfl,⟨by rw[b2];exact h1,by rw[b2];exact h3,b3⟩,λks k1 k2=>?_⟩
 ·show c i e+q.1=c i (qp n q.2)+pc c n q.2
  rw[b2,b1]
 ·cases ks with
  | nil=>simp[qp] at k1;lia
  | cons k r =>
   cases (show k=i from k1)
   obtain⟨k3,k4,k5⟩:=k2
   have hn:=wB k5
   have b':=hB (qp n r) k3 hn
   cases e2:B (qp n r) with
   | none=>rw[e2] at b';exact absurd k5 (b' r rfl)
   | some q' =>
    rw[e2] at b'
    have l1:=hl _ q' k3 hn k4 e2
    have l2:=b'.2.2.2 r rfl k5
    refine sJ l1 ?_
    show qc (c i (qp n r)+(pc c n r,r).1,i :: (pc c n r,r).2) (c i (qp n r)+q'.1,i :: q'.2)=false
    rw[yc];exact l2
end
section
variable {ok:Nat->Nat->Bool}{c:Nat->Nat->Int}{n:Nat}{B:Nat->Option PT}
theorem Kg {i:Nat}(hi:i<n)(hB:∀ e,i<e->e<=n->Bst ok c n e (B e)):∃ o,Bst ok c n i o:=by
 obtain⟨ps,hps⟩:∃ ps,ps=((kX (i+1) (n-i)).filter λe=>ok i e).filterMap λe=>(B e).map λq:PT=>(c i e+q.1,i :: q.2):=⟨_,rfl⟩
 have hin:∀ p,p∈ps↔∃ e,i<e/\e<=n/\ok i e=true/\∃ q,B e=some q/\p=(c i e+q.1,i :: q.2):=by
  intro p
  rw[hps,dP]
  constructor
  ·rintro⟨e,he,h2⟩
   obtain⟨q,hq,rfl⟩:=bI.mp h2
   obtain⟨h3,h4⟩:=ij.mp he
   have:=fv.mp h3
   exact⟨e,by lia,by lia,h4,q,hq,rfl⟩
  ·rintro⟨e,h1,h2,h3,q,hq,rfl⟩
   exact⟨e,ij.mpr ⟨fv.mpr ⋯,h3⟩,by rw[hq];rfl⟩
 cases ps with
 | nil =>
  refine⟨none,Et hi λe h1 h2 h3=>?_⟩
  cases hBe:B e with
  | none=>have:=hB e h1 h2;rw[hBe] at this;exact this
  | some p=>exact absurd ((hin _).mpr ⟨e,h1,h2,h3,p,hBe,rfl⟩) (by simp)
 | cons p0 pr =>
  refine⟨some (nX qc p0 pr),yL hi hB ((hin _).mp (ug qc pr p0)) λe q h1 h2 h3 h4=>?_⟩
  exact uf pr p0 _ ((hin _).mpr ⟨e,h1,h2,h3,q,h4,rfl⟩)
theorem Es {i:Nat}{p:PT}(hi:i<n)(hB:∀ e,i<=e->e<=n->Bst ok c n e (B e))(hp:B i=some p):∃ r,p.2=i :: r/\i<qp n r/\qp n r<=n/\ok i (qp n r)=true/\B (qp n r)=some (pc c n r,r)/\p.1=c i (qp n r)+pc c n r:=by
 have b:=hB i (kW _) ⋯
 rw[hp] at b
 obtain⟨b1,b2,b3,b4⟩:=b
 obtain⟨t,ks⟩:=p
 cases ks with
 | nil=>have:n=i:=b2;lia
 | cons k r =>
  cases (show k=i from b2)
  obtain⟨v1,v2,v3⟩:=b3
  have hn:=wB v3
  refine⟨r,rfl,v1,hn,v2,?_,b1⟩
  have b':=hB (qp n r) ⋯ hn
  cases e2:B (qp n r) with
  | none=>rw[e2] at b';exact absurd v3 (b' r rfl)
  | some q =>
   rw[e2] at b'
   obtain⟨d1,d2,d3,d4⟩:=b'
   have l1:=d4 r rfl v3
   have l2:=b4 (i :: q.2) rfl ⟨by rw[d2];exact v1,by rw[d2];exact v2,d3⟩
   have e3:(pc c n (i :: q.2),i :: q.2)=(c i (qp n r)+q.1,i :: q.2):=by show (c i (qp n q.2)+pc c n q.2,_)=_;rw[d2,d1]
   have e4:((t,i :: r):PT)=(c i (qp n r)+(pc c n r,r).1,i :: (pc c n r,r).2):=by rw[show t=pc c n (i :: r) from b1];rfl
   rw[e3,e4,yc] at l2
   exact congrArg some (wI l2 l1)
theorem GH {i e:Nat}{p q:PT}(hB:∀ e,i<=e->e<=n->Bst ok c n e (B e))(hp:B i=some p)(h1:i<e)(h2:e<=n)(h3:ok i e=true)(hq:B e=some q):qc (c i e+q.1,i :: q.2) p=false:=by
 have b:=hB i (kW _) ⋯
 rw[hp] at b
 have b':=hB e ⋯ h2
 rw[hq] at b'
 obtain⟨d1,d2,d3,_⟩:=b'
 have l:=b.2.2.2 (i :: q.2) rfl ⟨by rw[d2];exact h1,by rw[d2];exact h3,d3⟩
 have e3:(pc c n (i :: q.2),i :: q.2)=(c i e+q.1,i :: q.2):=by show (c i (qp n q.2)+pc c n q.2,_)=_;rw[d2,d1]
 rw[e3] at l;exact l
end
theorem wz (c:Nat->Nat->Int) (n:Nat):∀ ks:List Nat,pc c n ks=((pf ks n).map λp=>c p.1 p.2).sum
 | []=>rfl
 | [k]=>rfl
 | k :: k2 :: r=>by
  have e:pf (k :: k2 :: r) n=(k,k2) :: pf (k2 :: r) n:=by simp[pf]
  show c k k2+pc c n (k2 :: r)=_
  rw[wz c n (k2 :: r),e];rfl
theorem Aa (ok:Nat->Nat->Bool) (n:Nat):∀ ks:List Nat,vp ok n ks↔∀ p∈pf ks n,p.1<p.2/\ok p.1 p.2=true
 | []=>by simp[vp,pf]
 | [k]=>by simp[vp,pf,qp]
 | k :: k2 :: r=>by
  have e:pf (k :: k2 :: r) n=(k,k2) :: pf (k2 :: r) n:=by simp[pf]
  rw[e]
  have ih:=Aa ok n (k2 :: r)
  constructor
  ·rintro⟨h1,h2,h3⟩ p hp
   rcases jN.mp hp with rfl|hp
   ·exact⟨h1,h2⟩
   ·exact ih.mp h3 p hp
  ·intro h
   have h0:=h (k,k2) (by simp)
   exact⟨h0.1,h0.2,ih.mpr λp hp=>h p (cI _ hp)⟩
theorem uL (ok:Nat->Nat->Bool)(c:Nat->Nat->Int) (n:Nat):∀ t,t<=n->∃ B:Nat->Option PT,∀ e,n-t<=e->e<=n->Bst ok c n e (B e)
 | 0,_=>⟨λ_=>some (0,[]),λe h1 h2=>by
  have:e=n:=by lia
  subst this;exact xf⟩
 | t+1,ht=>by
  obtain⟨B,hB⟩:=uL ok c n t ⋯
  obtain⟨o,ho⟩:=Kg (ok:=ok) (c:=c) (n:=n) (i:=n-(t+1)) (B:=B) ⋯ λe h1 h2=>hB e ⋯ h2
  refine⟨λe=>if e=n-(t+1) then o else B e,λe h1 h2=>?_⟩
  by_cases z:e=n-(t+1)
  ·simp only[z,if_true];exact ho
  ·simp only[z,if_false];exact hB e ⋯ h2
theorem Cu {ok:Nat->Nat->Bool}{n:Nat}(h:∀ i,i<n->ok i (i+1)=true):∀ t,t<=n->vp ok n (kX (n-t) t)/\qp n (kX (n-t) t)=n-t
 | 0,_=>⟨trivial,by simp[qp]⟩
 | t+1,ht=>by
  obtain⟨a,b⟩:=Cu h t ⋯
  rw[show n-(t+1)=n-t-1 by lia,gb,show n-t-1+1=n-t by lia]
  refine⟨⟨by rw[b];lia,?_,a⟩,rfl⟩
  rw[b]
  have:=h (n-t-1) ⋯
  rwa [show n-t-1+1=n-t by lia] at this
structure Rwo (ws ss:List Int):Prop where
 hw:Bb ws
 hs:Bb ss
 hl:ss.length+1=ws.length
 hn:ws.length<=30
theorem Ag {ws ss:List Int}(h:Rwo ws ss){b e:Nat}(hb:b<ws.length):1<=pC ws ss b e/\pC ws ss b e<=100000000000:=by
 have h1:=CI (xs:=(ss.drop b).take (e-1-b)) λx hx=>by
  have:=h.hs x (cF (cE hx))
  lia
 have h2:=wT h.hw hb
 have h3:((ss.drop b).take (e-1-b)).length<=ss.length:=by simp;lia
 have:=h.hl
 have:=h.hn
 unfold pC
 lia
theorem E4 (d:Nat){ws ss:List Int}(h:Rwo ws ss){b e:Nat}(hb:b<ws.length)(he:b<e){i:Int}(hi:i=e){Q:FV×FV->Prop}(q:Q (.int (pC ws ss b e),.non)):callW tb (d+1) 22 [pO ws ss,.int b,.int i] Q:=by
 subst hi
 have hn:=h.hn
 have hl:=h.hl
 refine mY (fd:=JK) rfl rfl ?_
 simp[JK,KD,pO]
 rw[oO hb]
 have e1:(e:Int)-1=((e-1:Nat):Int):=by lia
 simp
 rw[e1,tH _ (show b<=e-1 by lia),<- jP,<- jO]
 refine CH (by simp;lia) ?_ ?_
 ·intro x hx
  have:=h.hs x (cF (cE hx))
  lia
 ·simpa[pC] using q
def qg (p:PT):FV:=.tup [.int p.1,.tup (p.2.map λi:Nat=>.int i)]
theorem Gs (n:Nat)(hn:1<n)(ks:List Nat):fD n (.tup (ks.map λi:Nat=>.int i))=some (.tup (ks.map λi:Nat=>.int i)):=by
 obtain⟨m,rfl⟩:∃ m,n=m+2:=⟨n-2,by lia⟩
 have:pN (fD (m+1)) (ks.map λi:Nat=>FV.int i)=some (ks.map λi:Nat=>D.int i):=by
  induction ks with
  | nil=>rfl
  | cons k r ih =>
   show ((some (D.int k)).bind λy=>(pN (fD (m+1)) (r.map λi:Nat=>FV.int i)).map (y :: ·))=_
   rw[ih];rfl
 show (pN (fD (m+1)) (ks.map λi:Nat=>FV.int i)).map D.tup=_
 rw[this];rfl
theorem vH:∀ a b:List Nat,D.eqvs (a.map λi:Nat=>.int i) (b.map λi:Nat=>.int i)=decide (a=b)
 | [],[]=>by simp[D.eqvs]
 | [],b :: q=>by simp[D.eqvs]
 | a :: r,[]=>by simp[D.eqvs]
 | a :: r,b :: q=>by
  simp only[jQ,D.eqvs,D.eqv,vH r q]
  by_cases h:a=b
  ·subst h;simp
  ·have:¬ (a:Int)=(b:Int):=by lia
   simp[h,this]
theorem vw:∀ a b:List Nat,ltDs (a.map λi:Nat=>.int i) (b.map λi:Nat=>.int i)=some (yb a b)
 | [],[]=>by simp[ltDs,yb]
 | [],b :: q=>by simp[ltDs,yb]
 | a :: r,[]=>by simp[ltDs,yb]
 | a :: r,b :: q=>by
  simp only[jQ,ltDs,D.eqv,yb,Dy,vw r q]
  by_cases h:a=b
  ·subst h;simp
  ·have:¬ (a:Int)=(b:Int):=by lia
   simp[h,this]
def yv (p:PT):D:=.tup [.int p.1,.tup (p.2.map λi:Nat=>.int i)]
theorem Gy (p:PT):fD nB (qg p)=some (yv p):=by
 have:=Gs 39 (by decide) p.2
 show ((some (D.int p.1)).bind λy=>((fD 39 (FV.tup (p.2.map λi:Nat=>.int i))).bind λz=>(some []).map (z :: ·)).map (y :: ·)).map D.tup=_
 rw[this];rfl
theorem Gx (a b:PT):Dy (yv a) (yv b)=some (qc a b):=by
 simp only[yv,Dy,ltDs,D.eqv,vH,vw,qc]
 by_cases e:a.1=b.1
 ·rw[if_pos e,if_pos (by simpa using e)]
  by_cases e2:a.2=b.2
  ·rw[e2,if_pos (by simp),wH]
  ·rw[if_neg (by simpa using e2)]
 ·rw[if_neg e,if_neg (by simpa using e)]
theorem OZ (p:PT)(r:List PT)(Q:FV->Prop):wp (vn (.lst ((p :: r).map qg))) Q↔Q (qg (nX qc p r)):=FP qg yv qc Gy Gx (λa ps z=>nomatch z) p r Q
theorem zW {κ α:Type} [DecidableEq κ] {k:κ}{v:α}:∀ (r:List κ)(q:List α),r.length=q.length->k ∉ r->kB (λk' v'=>if k'=k then v else v') r q=q
 | [],[],_,_=>rfl
 | [],a :: b,h,_=>by simp at h
 | a :: b,[],h,_=>by simp at h
 | a :: b,a' :: b',h,hr=>by
  have h1:¬ a=k:=λz=>hr (by simp[z])
  rw[bK,if_neg h1,zW b b' (by simpa using h) λz=>hr (cI _ z)]
theorem yo {κ α:Type} [DecidableEq κ]:∀ {ks:List κ}{vs:List α}(k:κ)(v:α)(j:κ),ks.length=vs.length->o6 (oW ks vs k v).1 (oW ks vs k v).2 j=if j=k then some v else o6 ks vs j:=by
 have go1:∀ {ks:List κ}{vs:List α}(k:κ)(v:α)(j:κ),ks.length=vs.length->k∈ks->o6 ks (kB (λk' v'=>if k'=k then v else v') ks vs) j=if j=k then some v else o6 ks vs j:=by
  intro ks
  induction ks with
  | nil=>intro vs k v j _ h;simp at h
  | cons x r ih =>
   intro vs k v j hl hk
   cases vs with
   | nil=>simp at hl
   | cons y q =>
    simp only[bK,o6]
    by_cases e:x=j
    ·subst e
     by_cases e2:x=k
     ·subst e2;simp
     ·simp[e2]
    ·rw[if_neg e,if_neg e]
     by_cases hr:k∈r
     ·exact ih k v j (by simpa using hl) hr
     ·have hx:k=x:=by simpa[hr] using hk
      subst hx
      have:=zW (k:=k) (v:=v) r q (by simpa using hl) hr
      rw[this,if_neg (ma e)]
 have KY:∀ {ks:List κ}{vs:List α}(k:κ)(v:α)(j:κ),ks.length=vs.length->k ∉ ks->o6 (ks++[k]) (vs++[v]) j=if j=k then some v else o6 ks vs j:=by
  intro ks
  induction ks with
  | nil =>
   intro vs k v j hl _
   have:vs=[]:=by cases vs with|nil=>rfl|cons=>simp at hl
   subst this
   simp only[ii,o6]
   by_cases e:k=j
   ·subst e;simp
   ·simp[e,ma e]
  | cons x r ih =>
   intro vs k v j hl hk
   cases vs with
   | nil=>simp at hl
   | cons y q =>
    simp only[gu,o6]
    by_cases e:x=j
    ·subst e
     have:¬ x=k:=λz=>hk (by simp[z])
     simp[this]
    ·rw[if_neg e,if_neg e]
     exact ih k v j (by simpa using hl) λz=>hk (cI _ z)
 intro ks vs k v j hl
 unfold oW
 by_cases e:k∈ks
 ·rw[if_pos e];exact go1 k v j hl e
 ·rw[if_neg e];exact KY k v j hl e
theorem vy:∀ (xs:List Int) (b:Int),oh b xs∈b :: xs
 | [],b=>dQ ..
 | x :: r,b=>by
  have:=vy r (if x<b then x else b)
  show oh (if x<b then x else b) r∈_
  split at this<;>rename_i h
  ·rw[if_pos h];exact cI _ this
  ·rw[if_neg h]
   rcases jN.mp this with e|e
   ·rw[e];simp
   ·exact cI _ (cI _ e)
theorem sI:∀ (xs:List Int) (b:Int),oh b xs<=b/\∀ x∈xs,oh b xs<=x
 | [],b=>⟨Int.le_refl _,by simp⟩
 | x :: r,b=>by
  have:=sI r (if x<b then x else b)
  show oh (if x<b then x else b) r<=b/\∀ y∈x :: r,oh (if x<b then x else b) r<=y
  refine⟨by have:=this.1;split at this<;>lia,λy hy=>?_⟩
  rcases jN.mp hy with rfl|hy
  ·have:=this.1;split at this<;>lia
  ·exact this.2 y hy
theorem A7 (xs:List FV)(v:FV)(Q:FV->Prop):wp (vW (xs++[v]) (-1)) Q↔Q v:=by
 have:ixN (xs++[v]).length (-1)=some xs.length:=by
  simp only[ixN,dS,gm,ip]
  rw[if_neg (by decide),if_pos ⋯]
  congr 1;lia
 unfold vW
 rw[this]
 simp
structure Ask (n:Nat)(as:List Int) (r:Int):Prop where
 len:as.length=n
 a:∀ x∈as,0<=x/\x<=2000000000
 r0:0<=r
 r1:r<=2000000000
def uO (ws ss as:List Int) (i e:Nat):Int:=((kX i (e-i)).map λm=>as.getD m 0*pC ws ss i (m+1)).sum
def sc (ws ss as:List Int) (r:Int) (i e:Nat):Int:=r*pC ws ss i e+uO ws ss as i e
theorem sP (ws ss as:List Int) (i:Nat):uO ws ss as i i=0:=by simp[uO]
theorem qk (ws ss as:List Int){i e:Nat}(h:i<=e):uO ws ss as i (e+1)=uO ws ss as i e+as.getD e 0*pC ws ss i (e+1):=by
 unfold uO
 rw[show e+1-i=(e-i)+1 by lia,dM,il,ib]
 simp[show i+(e-i)=e by lia]
theorem vc {ws ss:List Int}{i e:Nat}(h:i<e)(he:e<=ss.length):pC ws ss i (e+1)=pC ws ss i e+ss.getD (e-1) 0:=by
 obtain⟨t,rfl⟩:∃ t,e=i+t+1:=⟨e-i-1,by lia⟩
 unfold pC
 rw[show i+t+1+1-1-i=t+1 by lia,show i+t+1-1-i=t by lia,show i+t+1-1=i+t by lia]
 rw[ae (by simp;lia),ib]
 simp[lP,show i+t<ss.length by lia]
 lia
theorem xE (ws ss:List Int) (i:Nat):pC ws ss i (i+1)=ws.getD i 0:=by simp[pC]
theorem HW (ws ss as:List Int) (r:Int) (i:Nat):sc ws ss as r i (i+1)=(r+as.getD i 0)*ws.getD i 0:=by
 rw[sc,qk _ _ _ (kW _),sP,xE,Int.add_mul,Int.zero_add]
theorem E7 {ws ss as:List Int}{r:Int}{i e:Nat}(h:i<e)(he:e<=ss.length):sc ws ss as r i (e+1)=sc ws ss as r i e+r*ss.getD (e-1) 0+as.getD e 0*pC ws ss i (e+1):=by
 rw[sc,qk _ _ _ (kr h),sc,vc h he,k7]
 lia
theorem uP {n:Nat}{as:List Int}{r:Int}(h:Ask n as r){i:Nat}(hi:i<n):0<=as.getD i 0/\as.getD i 0<=2000000000:=by
 rw[lP,aX (by rw[h.len];exact hi)]
 exact h.a _ (gn _)
theorem zj {a b A B:Int}(h1:0<=a)(h2:a<=A)(h3:0<=b)(h4:b<=B):0<=a*b/\a*b<=A*B:=by
 refine⟨Int.mul_nonneg h1 h3,?_⟩
 have h5:=Int.mul_le_mul_of_nonneg_right h2 h3
 have h6:=Int.mul_le_mul_of_nonneg_left h4 (show 0<=A by lia)
 lia
theorem A9 {ws ss as:List Int}{r:Int}(h:Rwo ws ss)(ha:Ask ws.length as r){i:Nat}(hi:i<ws.length):∀ t,i+t<=ws.length->0<=uO ws ss as i (i+t)/\uO ws ss as i (i+t)<=200000000000000000000*(t:Int)
 | 0,_=>by rw[Nat.add_zero,sP];simp
 | t+1,ht=>by
  have ih:=A9 h ha hi t ⋯
  rw[show i+(t+1)=(i+t)+1 by lia,qk _ _ _ ⋯]
  have h1:=uP ha (show i+t<ws.length by lia)
  have h2:=Ag h hi (e:=i+t+1)
  have h3:=zj h1.1 h1.2 (show 0<=pC ws ss i (i+t+1) by lia) h2.2
  lia
theorem Lv {ws ss as:List Int}{r:Int}(h:Rwo ws ss)(ha:Ask ws.length as r){i e:Nat}(hi:i<e)(he:e<=ws.length):0<=sc ws ss as r i e/\sc ws ss as r i e<=10000000000000000000000:=by
 have hn:=h.hn
 have h1:=A9 h ha (show i<ws.length by lia) (e-i) ⋯
 rw[show i+(e-i)=e by lia] at h1
 have h2:=Ag h (show i<ws.length by lia) (e:=e)
 have h3:=zj ha.r0 ha.r1 (show 0<=pC ws ss i e by lia) h2.2
 unfold sc
 lia
theorem Hd {ok:Nat->Nat->Bool}{ws ss as:List Int}{r:Int}(h:Rwo ws ss)(ha:Ask ws.length as r):∀ {ks:List Nat},vp ok ws.length ks->0<=pc (sc ws ss as r) ws.length ks/\pc (sc ws ss as r) ws.length ks<=10000000000000000000000*(ks.length:Int)
 | [],_=>by simp[pc]
 | k :: q,hk=>by
  have h1:=Hd h ha hk.2.2
  have h2:=Lv h ha hk.1 (wB hk.2.2)
  show 0<=sc ws ss as r k (qp ws.length q)+pc (sc ws ss as r) ws.length q/\sc ws ss as r k (qp ws.length q)+pc (sc ws ss as r) ws.length q<=10000000000000000000000*((q.length+1:Nat):Int)
  lia
def BJ:Nat->Nat->Bool:=λ_ _=>true
theorem Dp {c:Nat->Nat->Int}{n i:Nat}(hi:i<=n){o:Option PT}(h:Bst BJ c n i o):∃ p,o=some p:=by
 cases o with
 | some p=>exact⟨p,rfl⟩
 | none =>
  have:=Cu (ok:=BJ) (n:=n) (λi _=>rfl) (n-i) ⋯
  rw[show n-(n-i)=i by lia] at this
  exact absurd this.1 (h _ this.2)
theorem Fz (c:Nat->Nat->Int) (n:Nat):∃ P:Nat->PT,∀ j,j<=n->Bst BJ c n j (some (P j)):=by
 obtain⟨B,hB⟩:=uL BJ c n n (kW _)
 have:∀ j,∃ p:PT,j<=n->B j=some p:=λj=>by
  by_cases hj:j<=n
  ·obtain⟨p,hp⟩:=Dp hj (hB j ⋯ hj)
   exact⟨p,λ_=>hp⟩
  ·exact⟨(0,[]),λz=>absurd z hj⟩
 obtain⟨P,hP⟩:=Classical.axiomOfChoice this
 exact⟨P,λj hj=>by have:=hB j ⋯ hj;rwa [hP j hj] at this⟩
def qY (as:List Int):FV:=.tup (as.map .int)
theorem sj (as:List Int)(Q:List FV->Prop):wp (oV (qY as)) Q↔Q (as.map .int):=mf
theorem rg {α:Type}:∀ xs:List α,xs.zip xs=xs.map λx=>(x,x)
 | []=>rfl
 | x :: r=>by simp[rg r]
theorem xG (d:Nat){ws ss as:List Int}{r:Int}(h:Rwo ws ss)(ha:Ask ws.length as r){i:Nat}(hi:i<ws.length){Q:FV×FV->Prop}(q:Q (.lst ((kX (i+1) (ws.length-i)).map λe=>.int (sc ws ss as r i e)),.non)):callW tb (d+2) 26 [pO ws ss,qY as,.int r,.int i] Q:=by
 have hn:=h.hn
 have r0:=ha.r0
 have r1:=ha.r1
 refine mY (fd:=JG) rfl rfl ?_
 simp[JG,KB,or]
 refine⟨⟨nu ⋯ ⋯,nu ⋯ ⋯⟩,?_⟩
 refine oH (I:=λj L=>∃ a b,L=[some (pO ws ss),some (qY as),some (.int r),some (.int i),some (.lst ((kX (i+1) (j-i)).map λe=>.int (sc ws ss as r i e))),some (.int (uO ws ss as i j)),a,b]) (ws.length-i) i _ ⟨none,none,by simp[sP]⟩ ?_ ?_
 ·rintro j L K h1 h2 ⟨a,b,rfl⟩ k
  have hj:j<ws.length:=by lia
  simp
  refine E4 d h hi (e:=j+1) ⋯ ⋯ ?_
  simp[sj]
  rw[oO (by rw[ha.len];exact hj)]
  have g1:0<=as[j]?.getD 0/\as[j]?.getD 0<=2000000000:=uP ha hj
  simp[big]
  refine⟨.inl (oD ⋯ ⋯),.inl (oD ⋯ ⋯),by lia,?_⟩
  refine k _ ?_
  rw[show j+1-i=(j-i)+1 by lia,dM,il,qk _ _ _ h1]
  refine⟨some (.int j),some (.int (pC ws ss i (j+1))),?_⟩
  rw[show [i+1+1*(j-i)].map (λe=>FV.int (sc ws ss as r i e))=[FV.int (r*pC ws ss i (j+1)+(uO ws ss as i j+as.getD j 0*pC ws ss i (j+1)))] by
   rw[show i+1+1*(j-i)=j+1 by lia];simp only[jQ,kF,sc,qk _ _ _ h1]]
  rfl
 ·rintro L ⟨a,b,rfl⟩
  simp
  exact q
theorem yK (d:Nat){ws ss as:List Int}{r:Int}(h:Rwo ws ss)(ha:Ask ws.length as r){P:Nat->PT}(hP:∀ j,j<=ws.length->Bst BJ (sc ws ss as r) ws.length j (some (P j))){Q:FV×FV->Prop}(q:Q (.lst ((lL (ws.length+1)).map λj=>qg (P j)),.non)):callW tb (d+3) 25 [pO ws ss,qY as,.int r] Q:=by
 have hn:=h.hn
 refine mY (fd:=JH) rfl rfl ?_
 simp[JH,KC,or,big]
 refine⟨nu ⋯ ⋯,?_⟩
 rw[yz]
 have pn:P ws.length=(0,[]):=gX ((hP ws.length (kW _)).uniq xf)
 refine qf (f:=λi:Nat=>FV.int i) (I:=λds L=>∃ (i:Nat)(a b c:Option FV),L=[some (pO ws ss),some (qY as),some (.int r),some (.lst ((kX i (ws.length+1-i)).map λj=>qg (P j))),a,b,c]/\i+ds.length=ws.length) (lL ws.length).reverse (lL ws.length).reverse [] _ rfl ⟨ws.length,none,none,none,by rw[show ws.length+1-ws.length=1 by lia];simp[qg,pn],rfl⟩ ?_ ?_
 ·rintro ds x q' L K e ⟨i,a,b,c,rfl,hi⟩ k
  have hx:x+1=i:=by
   have e2:=congrArg (λl=>l[ds.length]?) e
   have hd:ds.length<ws.length:=by have:=congrArg kZ e;simp at this;lia
   simp[List.getElem?_reverse,hd] at e2
   lia
  subst hx
  have hxn:x<ws.length:=by lia
  simp
  refine xG d h ha hxn ?_
  simp
  rw[pq,rg,kG]
  refine⟨by simp[big];lia,?_⟩
  refine nD (f:=(λp:Nat×Nat=>FV.tup [FV.int (sc ws ss as r x p.1),qg (P p.2)]) ∘ λx=>(x,x)) (g:=λe=>qg (sc ws ss as r x e+(P e).1,x :: (P e).2)) _ [] (λe he K2 k2=>?_) ?_
  ·have he:=fv.mp he
   have hl:(P e).2.length<=30:=by
    have:=tJ (hP e ⋯).2.2.1
    lia
   simp[qg,big]
   refine⟨by lia,?_⟩
   simpa[qg] using k2
  ·obtain⟨t,ht⟩:∃ t,ws.length-x=t+1:=⟨ws.length-x-1,by lia⟩
   obtain⟨p0,pr,hpl⟩:∃ p0 pr,(kX (x+1) (ws.length-x)).map (λe=>(sc ws ss as r x e+(P e).1,x :: (P e).2))=p0 :: pr:=by
    rw[ht,gb,jQ];exact⟨_,_,rfl⟩
   have hm:(kX (x+1) (ws.length-x)).map (λe=>qg (sc ws ss as r x e+(P e).1,x :: (P e).2))=(p0 :: pr).map qg:=by
    rw[<- hpl,kG];rfl
   have hin:∀ p,p∈p0 :: pr↔∃ e,x<e/\e<=ws.length/\p=(sc ws ss as r x e+(P e).1,x :: (P e).2):=λp=>by
    rw[<- hpl,kC]
    constructor
    ·rintro⟨e,h1,rfl⟩;have:=fv.mp h1;exact⟨e,by lia,by lia,rfl⟩
    ·rintro⟨e,h1,h2,rfl⟩;exact⟨e,fv.mpr ⋯,rfl⟩
   have hmin:nX qc p0 pr=P x:=by
    obtain⟨e,h1,h2,h3⟩:=(hin _).mp (ug qc pr p0)
    have:=yL (ok:=BJ) (c:=sc ws ss as r) (n:=ws.length) (i:=x) (B:=λe=>some (P e)) (p:=nX qc p0 pr) hxn (λe _ h2=>hP e h2) ⟨e,h1,h2,rfl,_,rfl,h3⟩ λe' q2 h4 h5 _ h6=>by
     cases h6
     exact uf pr p0 _ ((hin _).mpr ⟨e',h4,h5,rfl⟩)
    exact gX (this.uniq (hP x ⋯))
   rw[ii,hm]
   simp only[List.set_cons_succ,List.set_cons_zero,Mi,Mj,oo]
   rw[OZ,hmin]
   simp[big]
   refine⟨by lia,?_⟩
   refine k _ ⟨x,some (.int x),some (.lst ((kX (x+1) (ws.length-x)).map λe=>.int (sc ws ss as r x e))),some (.lst ((p0 :: pr).map qg)),?_,by simp;lia⟩
   rw[show ws.length+1-x=(ws.length-x)+1 by lia,gb]
   simp
 ·rintro L ⟨i,a,b,c,rfl,hi⟩
  have hi0:i=0:=by simp at hi;lia
  subst hi0
  simp
  rw[cC] at q
  exact q
theorem FT (d:Nat){ws ss as:List Int}{r:Int}(h:Rwo ws ss)(ha:Ask ws.length as r){P:Nat->PT}(hP:∀ j,j<=ws.length->Bst BJ (sc ws ss as r) ws.length j (some (P j))){Q:FV×FV->Prop}(q:Q (qg (P 0),.non)):callW tb (d+4) 23 [pO ws ss,qY as,.int r] Q:=by
 refine mY (fd:=JJ) rfl rfl ?_
 simp[JJ,GS]
 refine yK d h ha hP ?_
 simp
 rw[nN (i:=0) (n:=0) rfl (show ((lL (ws.length+1)).map λj=>qg (P j))[0]?=some (qg (P 0)) by simp)]
 exact q
theorem FN {xs:List Int}{x:Int}{r:List Int}(h:xs=x :: r)(Q:FV->Prop):wp (Dv (xs.map .int)) Q↔Q (.int (oh x r)):=by
 subst h
 simp only[Dv,ints_map,fY];rfl
theorem EO {b n:Nat}(h:b<n){i j:Int}(hi:i=((b+1:Nat):Int))(hj:j=(n:Int)+1):sQ i (j-i).toNat=(kX (b+1) (n-b)).map λi:Nat=>FV.int i:=by
 subst hi hj
 rw[show ((n:Int)+1-((b+1:Nat):Int)).toNat=n-b by lia];exact yP _ _
theorem G3 (d:Nat){n:Int}{v:FV}{m:Nat}{Q:FV×FV->Prop}(hs:Lf n v)(h0:0<=n)(hn:n<10000)(hm:m<=30)(q:∀ (as:List Int) (r:Int) v',Ask m as r->Lf (n+70) v'->Q (.tup [qY as,.int r],v')):callW tb (d+3) 41 [v,.int m] Q:=by
 refine mY (fd:=Ju) rfl rfl ?_
 simp[Ju,Kp,big]
 refine⟨by decide,?_⟩
 refine nh (d+1) hs ⋯ (by decide) (by decide) λu v1 u0 u1 l1=>?_
 simp
 refine oT u0 u1 λf hf=>?_
 obtain⟨M,rfl,M0,M1⟩:∃ M:Int,f=.int M/\0<M/\M<=1000000001:=by
  simp at hf
  rcases hf with rfl|rfl|rfl|rfl|rfl<;>exact⟨_,rfl,by decide,by decide⟩
 refine nh (d+1) l1 ⋯ (by decide) (by decide) λc v2 c0 c1 l2=>?_
 simp
 refine⟨nu ⋯ ⋯,?_⟩
 rw[oU]
 refine⟨by simp;lia,?_⟩
 refine qj (f:=λi:Nat=>FV.int i) (I:=λds Z8 L=>∃ (v':FV)(xs:List Int),L=[some v',some (.int m),some (.int M),some (.int c),none,none]/\Z8=xs.map .int/\xs.length=ds.length/\(∀ x∈xs,0<=x/\x<=2000000000)/\Lf (n+2+2*ds.length) v') (lL m) (lL m) [] [] _ rfl ⟨v2,[],rfl,rfl,rfl,by simp,l2.mono (by simp;lia)⟩ ?_ ?_
 ·rintro ds x r Z8 L K e ⟨v',xs,rfl,rfl,hl,hx,lf⟩ k
  have hd:ds.length<30:=by have:=congrArg kZ e;simp at this;lia
  simp
  refine nh (d+1) lf ⋯ M0 ⋯ λa v3 a0 a1 l3=>?_
  simp
  refine nh (d+1) l3 ⋯ (by decide) (by decide) λb v4 b0 b1 l4=>?_
  simp
  refine⟨.inl (oD ⋯ ⋯),?_⟩
  have hab:=zj a0 (show a<=1000000000 by lia) b0 (show b<=2 by lia)
  refine k _ _ ⟨v4,xs++[a*b / 2],rfl,by simp,by simp[hl],?_,l4.mono (by simp;lia)⟩
  intro y hy
  rcases ik.mp hy with hy|hy
  ·exact hx y hy
  ·simp at hy;subst hy;lia
 ·rintro ys L ⟨v',xs,rfl,rfl,hl,hx,lf⟩
  simp only[fw] at hl lf
  simp
  refine nh (d+1) lf ⋯ (by decide) (by decide) λa v3 a0 a1 l3=>?_
  simp
  refine⟨by decide,?_⟩
  refine nh (d+1) l3 ⋯ (by decide) (by decide) λb v4 b0 b1 l4=>?_
  simp[big]
  refine oT c0 c1 λf hf=>?_
  obtain⟨r,rfl,r0,r1⟩:∃ r:Int,f=.int r/\0<=r/\r<=1000000001:=by
   simp at hf
   rcases hf with rfl|rfl|rfl|rfl|rfl
   ·exact⟨_,rfl,by decide,by decide⟩
   ·exact⟨_,rfl,by decide,by decide⟩
   ·exact⟨_,rfl,by lia,by lia⟩
   ·exact⟨_,rfl,by lia,by lia⟩
   ·exact⟨_,rfl,by decide,by decide⟩
  exact q xs r v4 ⟨hl,hx,r0,by lia⟩ (l4.mono ⋯)
structure Cst (c:Nat->Nat->Int) (n:Nat)(ks:List (List Int))(vs:List FV):Prop where
 at':∀ b e:Nat,b<e->e<=n->o6 ks vs [(b:Int),(e:Int)]=some (.int (c b e))
theorem Ei (d:Nat){ws ss as:List Int}{r:Int}(h:Rwo ws ss)(ha:Ask ws.length as r){Q:FV×FV->Prop}(q:∀ ks vs,Cst (sc ws ss as r) ws.length ks vs->Q (.dct ks vs,.non)):callW tb (d+1) 42 [pO ws ss,qY as,.int r] Q:=by
 have hn:=h.hn
 have hl:=h.hl
 have r0:=ha.r0
 have r1:=ha.r1
 refine mY (fd:=Jt) rfl rfl ?_
 simp[Jt,Ko,or]
 refine⟨nu ⋯ ⋯,?_⟩
 refine oH (I:=λi L=>∃ (ks:List (List Int))(vs:List FV)(a b c e f:Option FV),L=[some (pO ws ss),some (qY as),some (.int r),some (.int ws.length),some (.dct ks vs),a,b,c,e,f]/\ks.length=vs.length/\ks.length<=31*i/\∀ b' e':Nat,b'<i->b'<e'->e'<=ws.length->o6 ks vs [(b':Int),(e':Int)]=some (.int (sc ws ss as r b' e'))) ws.length 0 _ ⟨[],[],_,_,_,_,_,rfl,rfl,by simp,λb' e' h1=>by lia⟩ ?_ ?_
 ·rintro i L K-hi ⟨ks,vs,a,b,c,e,f,rfl,hkl,hkb,hg⟩ k
  have hi:i<ws.length:=by lia
  simp[or]
  rw[oO hi]
  simp[sj]
  rw[oO (by rw[ha.len];exact hi)]
  have g1:0<=as[i]?.getD 0/\as[i]?.getD 0<=2000000000:=uP ha hi
  simp[big]
  refine⟨.inl (oD ⋯ ⋯),by lia,⟨nu ⋯ ⋯,nu ⋯ ⋯⟩,?_⟩
  rw[show (r+as[i]?.getD 0)*ws[i]?.getD 0=sc ws ss as r i (i+1) from (HW ws ss as r i).symm,show ws[i]?.getD 0=pC ws ss i (i+1) from (xE ws ss i).symm]
  have pl:=qP ks vs [(i:Int),(i:Int)+1] (.int (sc ws ss as r i (i+1))) hkl
  rw[show (i:Int)+1=((i+1:Nat):Int) by lia] at *
  refine oH (I:=λj L=>∃ (ks:List (List Int))(vs:List FV)(e f:Option FV),L=[some (pO ws ss),some (qY as),some (.int r),some (.int ws.length),some (.dct ks vs),some (.int i),some (.int (pC ws ss i j)),some (.int (sc ws ss as r i j)),e,f]/\ks.length=vs.length/\ks.length<=31*i+(j-i)/\i<j/\∀ b' e':Nat,(b'<i/\e'<=ws.length ∨ b'=i/\e'<=j)->b'<e'->o6 ks vs [(b':Int),(e':Int)]=some (.int (sc ws ss as r b' e'))) _ (i+1) _ ⟨_,_,e,f,rfl,pl.1,by lia,by lia,λb' e' h1 h2=>?_⟩ ?_ ?_
  ·rw[yo _ _ _ hkl]
   by_cases z:b'=i
   ·have:e'=i+1:=by lia
    subst z this
    rw[if_pos rfl]
   ·rw[if_neg (by simp;lia)]
    exact hg b' e' ⋯ h2 ⋯
  ·rintro j L K2 h1 h2 ⟨ks,vs,e,f,rfl,hkl,hkb,hij,hg⟩ k2
   have hj:j<ws.length:=by lia
   simp[or]
   rw[nN (i:=(j:Int)-1) (n:=j-1) ⋯ (show (ss.map FV.int)[j-1]?=some (.int (ss.getD (j-1) 0)) by rw[fx,aX ⋯];simp[lP,show j-1<ss.length by lia])]
   simp[sj]
   rw[oO (by rw[ha.len];exact hj)]
   have g1:0<=as[j]?.getD 0/\as[j]?.getD 0<=2000000000:=uP ha hj
   have e1:pC ws ss i j+ss[j-1]?.getD 0=pC ws ss i (j+1):=(vc hij ⋯).symm
   have e2:sc ws ss as r i j+r*ss[j-1]?.getD 0+as[j]?.getD 0*pC ws ss i (j+1)=sc ws ss as r i (j+1):=(E7 hij ⋯).symm
   simp[big]
   rw[e1,e2]
   refine⟨.inl (oD ⋯ ⋯),.inl (oD ⋯ ⋯),by lia,?_⟩
   have pl:=qP ks vs [(i:Int),(j:Int)+1] (.int (sc ws ss as r i (j+1))) hkl
   refine k2 _ ⟨_,_,_,_,rfl,pl.1,by lia,by lia,λb' e' h3 h4=>?_⟩
   rw[yo _ _ _ hkl]
   by_cases z:b'=i/\e'=j+1
   ·obtain⟨rfl,rfl⟩:=z
    rw[if_pos (by simp)]
   ·rw[if_neg (by simp;lia)]
    exact hg b' e' ⋯ h4
  ·rintro L ⟨ks,vs,e,f,rfl,hkl,hkb,hij,hg⟩
   refine k _ ⟨ks,vs,_,_,_,_,_,rfl,hkl,by lia,λb' e' h1 h2 h3=>hg b' e' ?_ h2⟩
   lia
 ·rintro L ⟨ks,vs,a,b,c,e,f,rfl,hkl,hkb,hg⟩
  simp
  exact q ks vs ⟨λb' e' h1 h2=>hg b' e' ⋯ h1 h2⟩
theorem BQ {c:Nat->Nat->Int}{n x:Nat}{P:Nat->PT}(hx:x<n)(hP:∀ j,j<=n->Bst BJ c n j (some (P j))){t:Int}{tr:List Int}(h:(kX (x+1) (n-x)).map (λe=>c x e+(P e).1)=t :: tr):oh t tr=(P x).1:=by
 have hin:∀ y,y∈t :: tr↔∃ e,x<e/\e<=n/\y=c x e+(P e).1:=λy=>by
  rw[<- h,kC]
  constructor
  ·rintro⟨e,h1,rfl⟩;have:=fv.mp h1;exact⟨e,by lia,by lia,rfl⟩
  ·rintro⟨e,h1,h2,rfl⟩;exact⟨e,fv.mpr ⋯,rfl⟩
 have hB:∀ e,x<=e->e<=n->Bst BJ c n e ((λe=>some (P e)) e):=λe _ h2=>hP e h2
 obtain⟨e,h1,h2,h3⟩:=(hin _).mp (vy tr t)
 have l1:=FY (GH (B:=λe=>some (P e)) hB rfl h1 h2 rfl rfl)
 obtain⟨r,f0,f1,f2,f3,f4,f5⟩:=Es (B:=λe=>some (P e)) hx hB rfl
 have l2:=(hin _).mpr ⟨_,f1,f2,rfl⟩
 have l3:oh t tr<=c x (qp n r)+(P (qp n r)).1:=by
  rcases jN.mp l2 with z|z
  ·rw[z];exact (sI tr t).1
  ·exact (sI tr t).2 _ z
 have f4:P (qp n r)=(pc c n r,r):=gX f4
 rw[f4] at l3
 have l1:(P x).1<=c x e+(P e).1:=l1
 have l3:oh t tr<=c x (qp n r)+pc c n r:=l3
 lia
def AS (P:Nat->PT) (n:Nat):FV:=.tup ((lL (n+1)).map λj=>.int (P j).1)
theorem Cp (ks:List Nat) (n:Nat):oX (ks.map λi:Nat=>FV.int i) ((ks.map λi:Nat=>FV.int i).tail++[.int n])=(pf ks n).map λp=>FV.tup [.int p.1,.int p.2]:=by
 have:(ks.map λi:Nat=>FV.int i).tail++[.int (n:Int)]=(ks.drop 1++[n]).map λi:Nat=>FV.int i:=by simp
 rw[this,pq,pf]
theorem J6 (xs:List FV):nT xs (some 1) none=xs.drop 1:=by simpa using pB xs 1
theorem Gw {ws ss:List Int}(h:Rwo ws ss):Vl 4000 2 (pO ws ss):=by
 have hn:=h.hn
 have hl:=h.hl
 have one:∀ xs:List Int,Bb xs->xs.length<=30->Vl 1260 1 (.tup (xs.map .int)):=λxs hx hl=>by
  refine Vl.tup (k:=41) (p:=0) (m:=30) ?_ (by simpa using hl)
  intro y hy
  obtain⟨i,hi,rfl⟩:=kC.mp hy
  have:=hx i hi
  exact Vl.int ⋯ ⋯
 refine (Vl.tup (k:=1260) (p:=1) (m:=2) ?_ (by simp)).mono (by decide) (by decide)
 intro y hy
 simp only[jN,gc,or_false] at hy
 rcases hy with rfl|rfl
 ·exact one ws h.hw h.hn
 ·exact one ss h.hs ⋯
def rF:D->Bool|.int _=>true|_=>false
def n9:D->Int|.int i=>i|_=>0
theorem qv:∀ {ds:List D},ds.all rF=true->ds=(ds.map n9).map .int
 | [],_=>rfl
 | x :: r,h=>by
  rw[jT,gF] at h
  cases x with
  | int i=>rw[jQ,jQ,<- qv h.2];rfl
  | _=>exact absurd h.1 eB
theorem qw (ns:List Int):(ns.map D.int).map dF=ns.map .int:=by rw[kG];rfl
theorem yM (ds:List D):(ds.map rF).all id=ds.all rF:=by rw[kH];rfl
theorem noF {ds:List D}:ds.all rF=true↔¬ false∈ds.map rF:=by
 simp[gw]
theorem ye (d:Nat)(ds:List D)(hl:ds.length<=1000){Q:FV×FV->Prop}(q:Q (.bl (ds.all rF),.non)):callW tb (d+1) 35 [.tup (ds.map dF)] Q:=by
 refine mY (fd:=zC) rfl rfl ?_
 simp[zC,Cj,big]
 refine⟨by lia,?_⟩
 refine nD (f:=dF) (g:=λx=>.bl (rF x)) ds [] (λx hx K k=>?_) ?_
 ·cases x<;>simpa[dF,rF] using k
 ·rw[ii]
  simp only[ou,oo,yM]
  exact q
theorem DC (d:Nat)(ds:List D)(hl:ds.length<=1000){Q:FV×FV->Prop}(q:Q (.bl (ds.all rF),.non)):callW tb (d+1) 35 [.lst (ds.map dF)] Q:=by
 refine mY (fd:=zC) rfl rfl ?_
 simp[zC,Cj,big]
 refine⟨by lia,?_⟩
 refine nD (f:=dF) (g:=λx=>.bl (rF x)) ds [] (λx hx K k=>?_) ?_
 ·cases x<;>simpa[dF,rF] using k
 ·rw[ii]
  simp only[ou,oo,yM]
  exact q
theorem wC (d:Nat)(x:D)(Q:FV×FV->Prop):callW tb (d+1) 0 [dF x] Q↔Q (.bl (rF x),.non):=by
 rw[pW (fd:=MF) rfl rfl]
 cases x<;>simp[MF,MY,dF,rF]
theorem Ab (d:Nat)(x:D) (n:Nat)(Q:FV×FV->Prop):callW tb (d+1) 1 [dF x,.int n] Q↔Q (.bl (match x with|.tup xs=>decide (xs.length=n)|_=>false),.non):=by
 rw[pW (fd:=ME) rfl rfl]
 have e:∀ a b:Nat,((a:Int) == (b:Int))=decide (a=b):=λa b=>by
  rw[iJ,beq_iff_eq,decide_eq_true_eq];lia
 cases x<;>simp[ME,MX,dF,nj,e]
theorem Br (d:Nat){ws ss as:List Int}{r:Int}(h:Rwo ws ss)(ha:Ask ws.length as r){P:Nat->PT}(hP:∀ j,j<=ws.length->Bst BJ (sc ws ss as r) ws.length j (some (P j))){Q:FV×FV->Prop}(q:Q (AS P ws.length,.non)):callW tb (d+4) 24 [pO ws ss,qY as,.int r] Q:=by
 have hn:=h.hn
 refine mY (fd:=JI) rfl rfl ?_
 simp[JI,GR]
 refine yK d h ha hP ?_
 simp
 refine⟨by simp[big];lia,?_⟩
 refine nD (f:=λj=>qg (P j)) (g:=λj=>.int (P j).1) (lL (ws.length+1)) [] (λj hj K k=>?_) ?_
 ·simp[qg]
  exact k
 ·simp
  exact q
def KI (n:Nat)(js:List Int):Prop:=js.head?=some 0/\js.Pairwise (· < ·)/\∀ j∈js,j<n
noncomputable instance (n:Nat)(js:List Int):Decidable (KI n js):=bx _
theorem KI.nat {n:Nat}{js:List Int}(h:KI n js):∃ ks:List Nat,js=ks.map (λi:Nat=>(i:Int))/\0∈ks/\ks.Pairwise (· < ·)/\∀ k∈ks,k<n:=by
 obtain⟨h1,h2,h3⟩:=h
 have h0:∀ j∈js,0<=j:=by
  cases js with
  | nil=>simp
  | cons a r =>
   simp at h1;subst h1
   intro j hj
   rcases jN.mp hj with rfl|hj
   ·exact Int.le_refl _
   ·have:=(dN.mp h2).1 j hj;lia
 have e:js=(js.map lS).map (λi:Nat=>(i:Int)):=by
  rw[kG]
  conv=>lhs;rw[<- kY js]
  apply c5
  intro j hj
  have:=h0 j hj
  simp;lia
 refine⟨js.map lS,e,?_,?_,?_⟩
 ·cases js with
  | nil=>simp at h1
  | cons a r=>simp at h1;subst h1;simp
 ·rw[ft]
  refine List.Pairwise.imp_of_mem (λ{a b} ha hb hab=>?_) h2
  have:=h0 a ha;have:=h0 b hb;lia
 ·intro k hk
  obtain⟨j,hj,rfl⟩:=kC.mp hk
  have:=h0 j hj;have:=h3 j hj;lia
def kD (n:Nat):D->Option (List Nat)
 | .tup ds=>if ds.all rF=true/\KI n (ds.map n9) then some ((ds.map n9).map lS) else none
 | _=>none
theorem F7 {n:Nat}{y:D}{ks:List Nat}(h:kD n y=some ks):dF y=o7 ks/\0∈ks/\ks.Pairwise (· < ·)/\∀ k∈ks,k<n:=by
 cases y with
 | tup ds =>
  simp only[kD] at h
  split at h
  ·rename_i hh
   obtain⟨ha,hk⟩:=hh
   cases h
   obtain⟨ks,e,k1,k2,k3⟩:=hk.nat
   have e2:(ds.map n9).map lS=ks:=by
    rw[e,kG]
    conv=>rhs;rw[<- kY ks]
    apply c5
    intro j _;simp
   rw[e2]
   refine⟨?_,k1,k2,k3⟩
   rw[dF,nj,qv ha,qw,e,kG];rfl
  ·cases h
 | _=>cases h
def FM (c:Nat->Nat->Int) (n:Nat)(ts:List Int) (b:Nat):Int:=match (kX (b+1) (n-b)).map (λe=>c b e+ts.getD e 0) with
 | x :: r=>oh x r
 | []=>0
theorem Hs {c:Nat->Nat->Int}{n:Nat}{ts:List Int}{b:Nat}(hb:b<n)(Q:FV->Prop):wp (Dv ((kX (b+1) (n-b)).map λe=>.int (c b e+ts.getD e 0))) Q↔Q (.int (FM c n ts b)):=by
 obtain⟨t,ht⟩:∃ t,n-b=t+1:=⟨n-b-1,by lia⟩
 obtain⟨x,r,hx⟩:∃ x r,(kX (b+1) (n-b)).map (λe=>c b e+ts.getD e 0)=x :: r:=by rw[ht,gb];exact⟨_,_,rfl⟩
 rw[show (kX (b+1) (n-b)).map (λe=>FV.int (c b e+ts.getD e 0))=((kX (b+1) (n-b)).map λe=>c b e+ts.getD e 0).map .int by simp,FN hx]
 unfold FM
 rw[hx]
def TI (c:Nat->Nat->Int) (n:Nat)(ts:List Int):Prop:=ts.length=n+1/\ts.getD n 0=0/\∀ b,b<n->ts.getD b 0=FM c n ts b
noncomputable instance (c:Nat->Nat->Int) (n:Nat)(ts:List Int):Decidable (TI c n ts):=bx _
def tD (c:Nat->Nat->Int) (n:Nat):D->Option (List Int)
 | .tup ds=>if ds.all rF=true/\TI c n (ds.map n9) then some (ds.map n9) else none
 | _=>none
theorem EV {c:Nat->Nat->Int}{n:Nat}{z:D}{ts:List Int}(h:tD c n z=some ts):z=.tup (ts.map .int)/\TI c n ts:=by
 cases z with
 | tup ds =>
  simp only[tD] at h
  split at h
  ·rename_i hh
   cases h
   exact⟨by rw[<- qv hh.1],hh.2⟩
  ·cases h
 | _=>cases h
def xm (c:Nat->Nat->Int) (n:Nat)(x y z:D):Bool:=rF x && (match kD n y,tD c n z with
 | some ks,some ts=>decide (pc c n ks=n9 x) && decide (ts.getD 0 0=n9 x)
 | _,_=>false)
theorem AE {α:Type} (r:Int)(f g:α->Int):∀ l:List α,r*(l.map f).sum+(l.map g).sum=(l.map λp=>r*f p+g p).sum
 | []=>by simp
 | x :: l=>by
  have:=AE r f g l
  simp only[jQ,jM]
  rw[k7];lia
theorem F4 {ws ss as:List Int}{r:Int}{ks:List Nat}(hl:ss.length+1=ws.length)(h0:0∈ks)(hs:ks.Pairwise (· < ·))(hk:∀ x∈ks,x<ws.length):r*((lL ws.length).map (kp ws ss ks)).sum+((lL ws.length).map λm=>as.getD m 0*rd ws ss ks m).sum=pc (sc ws ss as r) ws.length ks:=by
 rw[wz,Fa hl h0 hs hk,<- tM _ h0 hs hk,ux,AE]
 congr 1
 apply c5
 intro p hp
 rw[sc,uO]
 congr 2
 apply c5
 intro m hm
 have hm:=fv.mp hm
 rw[Ib hl h0 hs hk hp hm.1 (by obtain⟨_,b,_⟩:=rk hs hk p hp;lia)]
def Hu (n:Nat)(x:D):Bool:=rF x && decide (0<=n9 x/\n9 x<n)
theorem Gb (d:Nat)(x:D) (n:Nat){Q:FV×FV->Prop}(q:Q (.bl (Hu n x),.non)):callW tb (d+2) 11 [dF x,.int n] Q:=by
 refine mY (fd:=JU) rfl rfl ?_
 simp[JU,GZ]
 rw[wC]
 cases x with
 | int i =>
  simp[rF,dF]
  simp[Hu,rF,n9] at q
  by_cases h1:0<=i
  ·by_cases h2:i<n
   ·simpa[h1,h2] using q
   ·simpa[h1,h2] using q
  ·simpa[h1] using q
 | _=>simpa[rF,Hu] using q
theorem BI (ns:List Int):oX (ns.map FV.int) ((ns.drop 1).map .int)=(ns.zip (ns.drop 1)).map λp:Int×Int=>FV.tup [.int p.1,.int p.2]:=by rw[pq]
theorem tS:∀ ns:List Int,(ns.zip (ns.drop 1)).all (λp=>decide (p.1<p.2))=true↔ns.Pairwise (· < ·)
 | []=>by simp
 | [a]=>by simp
 | a :: b :: r=>by
  have ih:=tS (b :: r)
  simp only[c9,jh,dL,jT,gF,decide_eq_true_eq] at ih ⊢
  rw[ih]
  constructor
  ·rintro⟨h1,h2⟩
   refine dN.mpr ⟨λx hx=>?_,h2⟩
   rcases jN.mp hx with rfl|hx
   ·exact h1
   ·have:=(dN.mp h2).1 x hx;lia
  ·intro hh
   obtain⟨h1,h2⟩:=dN.mp hh
   exact⟨h1 b (by simp),h2⟩
theorem OS (xs:List FV)(lo hi:Option Int)(Q:FV->Prop):wp (sB (.tup xs) lo hi) Q↔Q (.tup (nT xs lo hi)):=mf
theorem Eh (ns:List Int):nT (ns.map FV.int) (some 1) none=(ns.drop 1).map .int:=by rw[jP];simpa using pB (ns.map FV.int) 1
theorem G6 (d:Nat){ws ss:List Int}(h:Rwo ws ss)(y:D)(hy:∀ ds,y=.tup ds->ds.length<=60){Q:FV×FV->Prop}(q:Q (.bl (kD ws.length y).isSome,.non)):callW tb (d+4) 28 [pO ws ss,dF y] Q:=by
 have hn:=h.hn
 refine mY (fd:=JE) rfl rfl ?_
 simp[JE,GQ,or]
 refine mY (fd:=Gr) rfl rfl ?_
 cases y with
 | tup ds =>
  have hd:=hy ds rfl
  rw[dF,nj]
  simp[Gr,GW]
  cases hds:ds with
  | nil =>
   subst hds
   simp
   simpa[kD,KI] using q
  | cons d0 dr =>
   rw[<- hds]
   have hne:ds≠[]:=by rw[hds];simp
   refine nI (λz=>absurd z hne) (λ_=>?_)
   refine⟨by simp[big];lia,?_⟩
   refine nD (f:=dF) (g:=λx=>.bl (Hu ws.length x)) ds [] (λx hx K k=>?_) ?_
   ·simp
    exact Gb _ x _ k
   rw[ii,ou,oo]
   by_cases hm:ds.all (Hu ws.length)=true
   rotate_left
   ·have hkn:kD ws.length (.tup ds)=none:=by
     simp only[kD]
     rw[if_neg]
     rintro⟨ha,hk⟩
     apply hm
     obtain⟨ks,e,k1,k2,k3⟩:=hk.nat
     rw[gw] at ha ⊢
     intro x hx
     have hv:n9 x∈ds.map n9:=kC.mpr ⟨x,hx,rfl⟩
     rw[e] at hv
     obtain⟨k,hk,ek⟩:=kC.mp hv
     have:=k3 k hk
     simp only[Hu,ha x hx,jX,decide_eq_true_eq]
     lia
    rw[hkn] at q
    exact nI (λ_=>q) (λz=>absurd (by rw[gw];intro x hx;cases e:Hu ws.length x with|true=>rfl|false=>exact absurd (kC.mpr ⟨x,hx,e⟩) z) hm)
   refine nI (λz=>?_) (λ_=>?_)
   ·obtain⟨x,hx,e⟩:=kC.mp z
    rw[gw.mp hm x hx] at e;cases e
   have hm':∀ x∈ds,rF x=true/\0<=n9 x/\n9 x<ws.length:=λx hx=>by
    have:=gw.mp hm x hx
    simpa[Hu] using this
   have ha:ds.all rF=true:=gw.mpr λx hx=>(hm' x hx).1
   have hb:∀ j∈ds.map n9,0<=j/\j<ws.length:=λj hj=>by
    obtain⟨x,hx,rfl⟩:=kC.mp hj
    exact (hm' x hx).2
   have hkd:kD ws.length (.tup ds)=if KI ws.length (ds.map n9) then some ((ds.map n9).map lS) else none:=by
    simp only[kD,ha,true_and]
   rw[hkd] at q
   have hlen:(ds.map n9).length<=60:=by simpa using hd
   have hne':ds.map n9≠[]:=by simpa using hne
   rw[qv ha,qw]
   generalize ds.map n9=ns at q hb hlen hne'
   obtain⟨n0,nr,rfl⟩:∃ a r,ns=a :: r:=by cases ns with|nil=>exact absurd rfl hne'|cons a r=>exact⟨a,r,rfl⟩
   simp only[Mi,Mj,oo,OS,OR,Eh]
   rw[BI]
   refine⟨rfl,by simp[big];simp at hlen;lia,?_⟩
   refine nD (f:=λp:Int×Int=>FV.tup [.int p.1,.int p.2]) (g:=λp=>.bl (decide (p.1<p.2))) _ [] (λp hp K k=>?_) ?_
   ·simpa using k
   rw[ii,ou,oo]
   by_cases hr:(n0 :: nr).Pairwise (· < ·)
   rotate_left
   ·rw[if_neg (λz=>hr z.2.1)] at q
    have hr2:¬ ((n0 :: nr).zip ((n0 :: nr).drop 1)).all (λp=>decide (p.1<p.2))=true:=λz=>hr ((tS _).mp z)
    refine nI (λ_=>?_) (λz=>?_)
    ·rw[kH]
     have:(((n0 :: nr).zip ((n0 :: nr).drop 1)).all (id ∘ λp=>decide (p.1<p.2)))=false:=Bool.eq_false_iff.mpr hr2
     rw[this];exact q
    ·exact absurd (by rw[gw];intro x hx;cases e:decide (x.1<x.2) with|true=>rfl|false=>exact absurd (kC.mpr ⟨x,hx,e⟩) z) hr2
   refine nI (λz=>?_) (λ_=>?_)
   ·obtain⟨x,hx,e⟩:=kC.mp z
    have:=gw.mp ((tS _).mpr hr) x hx
    rw[e] at this;cases this
   ·have e0:∀ R:FV->Prop,wp (vW ((n0 :: nr).map FV.int) 0) R↔R (.int n0):=λR=>nN (n:=0) rfl (by simp)
    rw[e0]
    simp
    by_cases h00:n0=0
    ·rw[if_pos ⟨by rw[h00];rfl,hr,λj hj=>(hb j hj).2⟩] at q
     simpa[h00] using q
    ·rw[if_neg (λz=>h00 (by simpa using z.1))] at q
     have:(n0 == 0)=false:=by simpa using h00
     rw[this];exact q
 | _ =>
  simp[Gr,GW,dF]
  exact q
theorem B8 {ts:List Int}{n j:Nat}(h:ts.length=n+1):ts.drop (j+1)=(kX (j+1) (n-j)).map λe=>ts.getD e 0:=by
 apply gr
 ·simp;lia
 ·intro i h1 h2
  simp at h1
  simp[lP,show j+1+i<ts.length by lia]
theorem Fc (d:Nat){ws ss as:List Int}{r:Int}(h:Rwo ws ss)(ha:Ask ws.length as r)(z:D){Q:FV×FV->Prop}(q:Q (.bl (tD (sc ws ss as r) ws.length z).isSome,.non)):callW tb (d+3) 30 [pO ws ss,qY as,.int r,dF z] Q:=by
 have hn:=h.hn
 refine mY (fd:=Gq) rfl rfl ?_
 cases z with
 | tup ds =>
  simp[Gq,GP,or]
  have e1:((ws.length:Int)+1)=((ws.length+1:Nat):Int):=by lia
  rw[e1,Ab]
  simp
  rw[dF,nj]
  by_cases hl:ds.length=ws.length+1
  rotate_left
  ·have:tD (sc ws ss as r) ws.length (.tup ds)=none:=by
    simp only[tD]
    rw[if_neg (λz=>hl (by simpa using z.2.1))]
   rw[this] at q
   exact nI (λz=>absurd z hl) (λ_=>q)
  refine nI (λ_=>?_) (λz=>absurd hl z)
  refine⟨by simp[big];lia,?_⟩
  refine nD (f:=dF) (g:=λx=>.bl (rF x)) ds [] (λx hx K k=>?_) ?_
  ·simp[wC]
   exact k
  rw[ii]
  simp[ou,-kC]
  by_cases hai:ds.all rF=true
  rotate_left
  ·have:tD (sc ws ss as r) ws.length (.tup ds)=none:=by
    simp only[tD]
    rw[if_neg (λz=>hai z.1)]
   rw[this] at q
   exact nI (λ_=>q) (λz=>absurd (noF.mpr z) hai)
  refine nI (λz=>absurd z (noF.mp hai)) (λ_=>?_)
  have htd:tD (sc ws ss as r) ws.length (.tup ds)=if TI (sc ws ss as r) ws.length (ds.map n9) then some (ds.map n9) else none:=by simp only[tD,hai,true_and]
  rw[htd] at q
  have hl':(ds.map n9).length=ws.length+1:=by simpa using hl
  rw[qv hai,qw]
  generalize ds.map n9=ts at q hl'
  rw[oO ⋯]
  simp
  by_cases h0:ts.getD ws.length 0=0
  rotate_left
  ·rw[if_neg (λz=>h0 z.2.1)] at q
   exact nI (λz=>absurd z h0) (λ_=>q)
  refine nI (λ_=>?_) (λz=>absurd h0 z)
  refine⟨nu ⋯ ⋯,?_⟩
  refine oH (I:=λj L=>∃ a b,L=[some (pO ws ss),some (qY as),some (.int r),some (.tup (ts.map .int)),some (.int ws.length),a,b]/\∀ b',b'<j->ts.getD b' 0=FM (sc ws ss as r) ws.length ts b') ws.length 0 _ ⟨none,none,rfl,λb' hb=>absurd hb (gZ _)⟩ ?_ ?_
  ·rintro j L K-hj ⟨a,b,rfl,hI⟩ k
   have hj:j<ws.length:=by lia
   simp
   refine xG d h ha hj ?_
   simp
   rw[oO ⋯,show (j:Int)+1=((j+1:Nat):Int) by lia,pB,<- jP,B8 hl',kG,pq,rg,kG]
   refine⟨by simp[big];lia,?_⟩
   refine nD (g:=λe=>.int (sc ws ss as r j e+ts.getD e 0)) _ [] (λe he K2 k2=>?_) ?_
   ·simpa using k2
   rw[ii,Hs hj]
   by_cases hh:ts.getD j 0=FM (sc ws ss as r) ws.length ts j
   ·have:(ts[j]?.getD 0 == FM (sc ws ss as r) ws.length ts j)=true:=by rw[beq_iff_eq];exact hh
    simp
    refine nI (λ_=>?_) (λz=>absurd hh z)
    refine k _ ⟨_,_,rfl,λb' hb'=>?_⟩
    by_cases e:b'=j
    ·rw[e];exact hh
    ·exact hI b' ⋯
   ·simp
    refine nI (λz=>absurd z hh) (λ_=>?_)
    rw[if_neg (λz=>hh (z.2.2 j hj))] at q
    exact q
  ·rintro L ⟨a,b,rfl,hI⟩
   rw[if_pos ⟨hl',h0,λb hb=>hI b ⋯⟩] at q
   simpa using q
 | _ =>
  simp[Gq,GP,or]
  rw[show ((ws.length:Int)+1)=((ws.length+1:Nat):Int) by lia,Ab]
  exact q
theorem F3 (d:Nat){ws ss as:List Int}{r:Int}(h:Rwo ws ss)(ha:Ask ws.length as r){ks:List Nat}(h0:0∈ks)(hp:ks.Pairwise (· < ·))(hk:∀ k∈ks,k<ws.length){Q:FV×FV->Prop}(q:Q (.int (pc (sc ws ss as r) ws.length ks),.non)):callW tb (d+5) 29 [pO ws ss,qY as,.int r,o7 ks] Q:=by
 have hn:=h.hn
 have hc:ks.length<=30:=by
  have:=tJ ((Aa BJ ws.length ks).mpr λp hp'=>⟨(rk hp hk p hp').2.1,rfl⟩)
  lia
 have R:Rw ws ss ks:=⟨h.hw,h.hs,h.hl,hn,h0,hc,hp,hk⟩
 refine mY (fd:=JD) rfl rfl ?_
 simp[JD,Kz,sj]
 refine Bx _ R ?_
 simp
 have ea:as=(lL ws.length).map λm=>as.getD m 0:=by
  apply gr
  ·simp[ha.len]
  ·intro i h1 h2
   simp[lP,h1]
 have e1:oX (as.map FV.int) ((lL ws.length).map (FV.int ∘ rd ws ss ks))=(lL ws.length).map λm=>FV.tup [.int (as.getD m 0),.int (rd ws ss ks m)]:=by
  conv=>lhs;rw[ea]
  rw[kG,pq,rg,kG];rfl
 rw[e1]
 refine⟨by simp[big];lia,?_⟩
 refine nD (g:=λm=>.int (as.getD m 0*rd ws ss ks m)) _ [] (λm hm K k=>?_) ?_
 ·have hm:=je.mp hm
  have:=uP ha hm
  simp
  exact⟨.inl (oD (by simp at this;lia) (by simp at this;lia)),by simpa using k⟩
 rw[ii]
 simp
 refine CS _ R ?_
 have r0:=ha.r0
 have r1:=ha.r1
 simp
 refine⟨.inl (oD ⋯ ⋯),?_⟩
 rw[show (lL ws.length).map (λm=>FV.int (as[m]?.getD 0*rd ws ss ks m))=((lL ws.length).map λm=>as.getD m 0*rd ws ss ks m).map .int by simp,ints_map,oo]
 simp
 have:=F4 (ws:=ws) (ss:=ss) (as:=as) (r:=r) h.hl h0 hp hk
 rw[<- this] at q
 simpa using q
theorem Iu (d:Nat){ws ss as:List Int}{r:Int}(h:Rwo ws ss)(ha:Ask ws.length as r)(x y z:D)(hy:∀ ds,y=.tup ds->ds.length<=60){Q:FV×FV->Prop}(q:Q (.bl (xm (sc ws ss as r) ws.length x y z),.non)):callW tb (d+6) 27 [pO ws ss,qY as,.int r,dF x,dF y,dF z] Q:=by
 refine mY (fd:=JF) rfl rfl ?_
 simp[JF,KA]
 rw[wC]
 simp
 cases hx:rF x with
 | false =>
  have:xm (sc ws ss as r) ws.length x y z=false:=by simp[xm,hx]
  rw[this] at q
  simpa using q
 | true =>
  simp
  refine G6 _ h y hy ?_
  simp
  cases hk:kD ws.length y with
  | none =>
   have:xm (sc ws ss as r) ws.length x y z=false:=by simp[xm,hk]
   rw[this] at q
   simpa using q
  | some ks =>
   simp
   refine Fc _ h ha z ?_
   simp
   cases ht:tD (sc ws ss as r) ws.length z with
   | none =>
    have:xm (sc ws ss as r) ws.length x y z=false:=by simp[xm,hk,ht]
    rw[this] at q
    simpa using q
   | some ts =>
    simp
    obtain⟨k0,k1,k2,k3⟩:=F7 hk
    obtain⟨rfl,t1⟩:=EV ht
    rw[k0]
    refine F3 _ h ha k1 k2 k3 ?_
    have e:xm (sc ws ss as r) ws.length x y (.tup (ts.map .int))=(decide (pc (sc ws ss as r) ws.length ks=n9 x) && decide (ts.getD 0 0=n9 x)):=by simp only[xm,hx,hk,ht,jX]
    rw[e] at q
    cases x with
    | int i =>
     have et:dF (.tup (ts.map D.int))=.tup (ts.map .int):=by rw[dF,nj,qw]
     rw[et]
     have e0:∀ R:FV->Prop,wp (vW (ts.map FV.int) 0) R↔R (.int (ts.getD 0 0)):=λR=>by
      have:=oO (xs:=ts) (i:=0) (by have:=t1.1;lia) R
      simpa using this
     simp[dF,n9,e0] at q ⊢
     by_cases h1:pc (sc ws ss as r) ws.length ks=i
     ·simp only[h1,decide_true,jX,beq_self_eq_true,if_true] at q ⊢
      exact q
     ·have e2:(pc (sc ws ss as r) ws.length ks == i)=false:=by simpa using h1
      rw[e2]
      simpa[h1] using q
    | _=>cases hx
theorem Ea (xs ys:List Int)(R:Bool->Prop):wp (sU (FV.lst (xs.map .int)) (.lst (ys.map .int))) R↔R (decide (xs=ys)):=by
 have h:∀ xs:List Int,FV.lst (xs.map .int)=dF (.lst (xs.map .int)):=λxs=>by show _=FV.lst (dFs _);rw[nj,kG];rfl
 have hd:∀ xs:List Int,deps (xs.map D.int)=0:=λxs=>by induction xs with|nil=>rfl|cons x r ih=>exact (by show max 0 _=0;rw[ih];rfl)
 have ev:∀ xs ys:List Int,D.eqvs (xs.map D.int) (ys.map D.int)=decide (xs=ys):=by
  intro xs
  induction xs with
  | nil=>intro ys;cases ys<;>simp[D.eqvs]
  | cons x r ih =>
   intro ys
   cases ys with
   | nil=>simp[D.eqvs]
   | cons y s =>
    simp only[jQ,D.eqvs,D.eqv,ih]
    rw[iJ];simp
 rw[h,h,AR (by simp only[pI,hd];lia) (by simp only[pI,hd];lia),D.eqv,ev];exact mf
theorem xA {xs ys:List Int}(h1:xs.Pairwise (· < ·))(h2:ys.Pairwise (· < ·))(h:∀ x,x∈xs↔x∈ys):xs=ys:=by
 have nd:∀ {l:List Int},l.Pairwise (· < ·)->l.Nodup:=λhl=>hl.imp λ{a b} hab e=>by lia
 have p:xs.Perm ys:=(List.perm_ext_iff_of_nodup (nd h1) (nd h2)).mpr h
 exact p.eq_of_pairwise (λa b _ _ h3 h4=>by lia) (h1.imp λ{a b} h=>(show a<=b by lia)) (h2.imp λ{a b} h=>(show a<=b by lia))
def HM (c:Nat->Nat->Int) (n:Nat):Option (List Nat)->FV
 | some ks=>.int (pc c n ks)
 | none=>.non
theorem Jb (d:Nat){ws ss:List Int}{c:Nat->Nat->Int}(h:Rwo ws ss){kk:List (List Int)}{vs:List FV}(hc:Cst c ws.length kk vs)(y:D)(hdp:pI y<39)(hy:∀ ds,y=.tup ds->ds.length<=60){Q:FV×FV->Prop}(q:Q (HM c ws.length (kD ws.length y),.non)):callW tb (d+2) 43 [pO ws ss,.dct kk vs,dF y] Q:=by
 have hn:=h.hn
 refine mY (fd:=Go) rfl rfl ?_
 cases y with
 | tup ds =>
  have hd:=hy ds rfl
  simp only[pI] at hdp
  have e0:∀ R:Bool->Prop,wp (sU (dF (.tup ds)) (.tup [])) R↔R ds.isEmpty:=λR=>by
   rw[show FV.tup []=dF (.tup []) from rfl,AR (by simp only[pI];lia) (by simp[pI,deps])]
   cases ds<;>exact mf
  rw[show dF (.tup ds)=.tup (ds.map dF) by rw[dF,nj]] at e0 ⊢
  simp[Go,GN,or]
  rw[e0]
  cases hds:ds with
  | nil =>
   subst hds
   simpa[kD,KI,HM] using q
  | cons d0 dr =>
   rw[<- hds]
   have hne:ds≠[]:=by rw[hds];simp
   have hie:ds.isEmpty=false:=by rw[hds];rfl
   rw[hie]
   simp
   refine ye _ ds ⋯ ?_
   simp
   by_cases ha:ds.all rF=true
   rotate_left
   ·have:kD ws.length (.tup ds)=none:=by
     simp only[kD]
     rw[if_neg (λz=>ha z.1)]
    rw[this] at q
    exact nI (λz=>absurd (by simpa[gw] using z) ha) (λ_=>q)
   refine nI (λ_=>?_) (λz=>absurd (by simpa[gw] using ha) z)
   have hkd:kD ws.length (.tup ds)=if KI ws.length (ds.map n9) then some ((ds.map n9).map lS) else none:=by simp only[kD,ha,true_and]
   rw[hkd] at q
   have hlen:(ds.map n9).length<=60:=by simpa using hd
   have hne':ds.map n9≠[]:=by simpa using hne
   rw[qv ha,qw]
   generalize ds.map n9=ns at q hlen hne'
   obtain⟨n0,nr,rfl⟩:∃ a r,ns=a :: r:=by cases ns with|nil=>exact absurd rfl hne'|cons a r=>exact⟨a,r,rfl⟩
   have e0:∀ R:FV->Prop,wp (vW ((n0 :: nr).map FV.int) 0) R↔R (.int n0):=λR=>nN (n:=0) rfl (by simp)
   rw[e0]
   by_cases h00:n0=0
   rotate_left
   ·rw[if_neg (λz=>h00 (by simpa using z.1))] at q
    simp
    exact nI (λz=>absurd z h00) (λ_=>q)
   have h00':(n0 :: nr).head?=some 0:=by rw[h00];rfl
   have ee:∀ R:Bool->Prop,R true->wp (sU (FV.int n0) (FV.int 0)) R:=λR hR=>by rw[h00];exact hR
   refine ee _ ?_
   rw[if_pos rfl,ints_map,oo]
   refine⟨by lia,by lia,λms hm1 hm2=>?_⟩
   rw[Ea]
   by_cases hr:(n0 :: nr).Pairwise (· < ·)
   rotate_left
   ·rw[if_neg (λz=>hr z.2.1)] at q
    have:¬ (n0 :: nr)=ms:=λz=>hr (by rw[z];exact hm2)
    rw[decide_eq_false this]
    exact q
   have hms:(n0 :: nr)=ms:=xA hr hm2 λx=>(hm1 x).symm
   rw[decide_eq_true hms]
   clear hm1 hm2 hms e0
   generalize hns:n0 :: nr=ns at q hlen hr h00'
   have hne2:ns≠[]:=by rw[<- hns];simp
   obtain⟨ni,nl,hnl⟩:∃ a b,ns=a++[b]:=⟨ns.dropLast,ns.getLast hne2,(List.dropLast_concat_getLast hne2).symm⟩
   have el:∀ R:FV->Prop,wp (vW (ns.map FV.int) (-1)) R↔R (.int nl):=λR=>by
    rw[hnl,il]
    exact A7 _ _ R
   simp only[if_true]
   rw[el]
   simp
   by_cases hlast:(ws.length:Int)<=nl
   ·rw[if_neg (λz=>by have:=z.2.2 nl (by rw[hnl];simp);lia)] at q
    exact nI (λ_=>q) (λz=>absurd hlast z)
   refine nI (λz=>absurd z hlast) (λ_=>?_)
   have hki:KI ws.length ns:=⟨h00',hr,λj hj=>by
    rw[hnl] at hj hr
    rcases ik.mp hj with hj|hj
    ·have:=(cD.mp hr).2.2 j hj nl (by simp);lia
    ·simp at hj;lia⟩
   rw[if_pos hki] at q
   obtain⟨ks,e,k1,k2,k3⟩:=hki.nat
   have e2:ns.map lS=ks:=by
    rw[e,kG]
    conv=>rhs;rw[<- kY ks]
    apply c5
    intro j _;simp
   rw[e2] at q
   have e3:ns.map FV.int=ks.map λi:Nat=>FV.int i:=by rw[e,kG];rfl
   rw[e3,J6,List.drop_one,Cp]
   have hsl:(pf ks ws.length).length=ks.length:=by
    obtain⟨r2,er⟩:=vB k1 k2
    rw[er];simp[pf]
   have hkl:ks.length<=60:=by rw[<- e2,iq];exact hlen
   refine⟨by decide,by simp[big];lia,by simp[big];lia,?_⟩
   refine nD (g:=λp=>.int (c p.1 p.2)) _ [] (λp hp K k=>?_) ?_
   ·obtain⟨g1,g2,g3,_⟩:=rk k2 k3 p hp
    simp
    rw[hc.at' p.1 p.2 g2 g3]
    simpa using k
   ·rw[ii,show (pf ks ws.length).map (λp=>FV.int (c p.1 p.2))=((pf ks ws.length).map λp=>c p.1 p.2).map .int by simp,ints_map,oo,<- wz]
    exact q
 | _ =>
  simp[Go,GN,or,dF]
  exact q
theorem FZ (d:Nat){ws ss:List Int}{c:Nat->Nat->Int}(h:Rwo ws ss){kk:List (List Int)}{vs:List FV}(hc:Cst c ws.length kk vs)(x y z:D)(hdp:pI y<39)(hy:∀ ds,y=.tup ds->ds.length<=60){Q:FV×FV->Prop}(q:Q (.bl (xm c ws.length x y z),.non)):callW tb (d+3) 44 [pO ws ss,.dct kk vs,dF x,dF y,dF z] Q:=by
 have hn:=h.hn
 refine mY (fd:=Js) rfl rfl ?_
 simp[Js,Kn,or,big]
 refine DC _ [x] (by simp) ?_
 simp
 cases hx:rF x with
 | false =>
  have:xm c ws.length x y z=false:=by simp[xm,hx]
  rw[this] at q
  simpa using q
 | true =>
  obtain⟨i,rfl⟩:∃ i,x=.int i:=by cases x with|int i=>exact⟨i,rfl⟩|_=>cases hx
  have no:tD c ws.length z=none->xm c ws.length (.int i) y z=false:=λht=>by
   simp only[xm,ht,rF,jX]
   split<;>first|rfl|(rename_i h1 h2;cases h2)
  cases z with
  | tup ds =>
   rw[show dF (.tup ds)=.tup (ds.map dF) by rw[dF,nj]]
   simp
   by_cases hl:ds.length=ws.length+1
   rotate_left
   ·rw[no (by simp only[tD];rw[if_neg (λz=>hl (by simpa using z.2.1))])] at q
    exact nI (λz=>absurd ⋯ hl) (λ_=>q)
   refine nI (λ_=>?_) (λz=>absurd ⋯ z)
   refine ye _ ds ⋯ ?_
   simp
   by_cases hai:ds.all rF=true
   rotate_left
   ·rw[no (by simp only[tD];rw[if_neg (λz=>hai z.1)])] at q
    exact nI (λz=>absurd (by simpa[gw] using z) hai) (λ_=>q)
   refine nI (λ_=>?_) (λz=>absurd (by simpa[gw] using hai) z)
   have htd:tD c ws.length (.tup ds)=if TI c ws.length (ds.map n9) then some (ds.map n9) else none:=by simp only[tD,hai,true_and]
   have hl':(ds.map n9).length=ws.length+1:=by simpa using hl
   have hq:Q (.bl (match kD ws.length y,(if TI c ws.length (ds.map n9) then some (ds.map n9) else none) with|some ks,some ts=>decide (pc c ws.length ks=i) && decide (ts.getD 0 0=i)|_,_=>false),.non):=by
    simp only[xm,htd,rF,jX,n9] at q
    exact q
   clear q no htd
   rw[qv hai,qw]
   generalize ds.map n9=ts at hq hl'
   have no:¬ (TI c ws.length ts/\ts.getD 0 0=i)->Q (.bl false,.non):=λht=>by
    cases hk:kD ws.length y with
    | none=>rw[hk] at hq;exact hq
    | some ks =>
     rw[hk] at hq
     by_cases hT:TI c ws.length ts
     ·rw[if_pos hT] at hq
      have:¬ ts.getD 0 0=i:=λe=>ht ⟨hT,e⟩
      simp only[decide_eq_false this,jn] at hq
      exact hq
     ·rw[if_neg hT] at hq;exact hq
   rw[oO ⋯]
   simp
   by_cases h0:ts.getD ws.length 0=0
   rotate_left
   ·exact nI (λz=>absurd z h0) (λ_=>no λz=>h0 z.1.2.1)
   refine nI (λ_=>?_) (λz=>absurd h0 z)
   have e0:∀ R:FV->Prop,wp (vW (ts.map FV.int) 0) R↔R (.int (ts.getD 0 0)):=λR=>by
    have:=oO (xs:=ts) (i:=0) ⋯ R
    simpa using this
   rw[e0]
   simp[dF]
   by_cases h1:ts.getD 0 0=i
   rotate_left
   ·exact nI (λz=>absurd z h1) (λ_=>no λz=>h1 z.2)
   refine nI (λ_=>?_) (λz=>absurd h1 z)
   refine⟨nu ⋯ ⋯,?_⟩
   refine oH (I:=λj L=>∃ a,L=[some (pO ws ss),some (.dct kk vs),some (.int i),some (dF y),some (.tup (ts.map .int)),some (.int ws.length),a]/\∀ b',b'<j->ts.getD b' 0=FM c ws.length ts b') ws.length 0 _ ⟨none,rfl,λb' hb=>absurd hb (gZ _)⟩ ?_ ?_
   ·rintro j L K-hj ⟨a,rfl,hI⟩ k
    have hj:j<ws.length:=by lia
    simp
    rw[oO ⋯]
    refine⟨⟨nu ⋯ ⋯,nu ⋯ ⋯⟩,?_⟩
    rw[EO hj ⋯ rfl]
    refine⟨by simp[big];lia,?_⟩
    refine nD (f:=λi:Nat=>FV.int i) (g:=λe=>.int (c j e+ts.getD e 0)) _ [] (λe he K2 k2=>?_) ?_
    ·have he:=fv.mp he
     simp[big]
     rw[hc.at' j e ⋯ ⋯]
     simp
     rw[oO ⋯]
     exact k2
    rw[ii,Hs hj]
    by_cases hh:ts.getD j 0=FM c ws.length ts j
    ·simp
     refine nI (λ_=>?_) (λz=>absurd hh z)
     refine k _ ⟨_,rfl,λb' hb'=>?_⟩
     by_cases e:b'=j
     ·rw[e];exact hh
     ·exact hI b' ⋯
    ·simp
     exact nI (λz=>absurd z hh) (λ_=>no λz=>hh (z.1.2.2 j hj))
   ·rintro L ⟨a,rfl,hI⟩
    have hT:TI c ws.length ts:=⟨hl',h0,λb hb=>hI b ⋯⟩
    rw[if_pos hT] at hq
    simp
    refine Jb _ h hc y hdp hy ?_
    cases hk:kD ws.length y with
    | none=>rw[hk] at hq;exact hq
    | some ks =>
     rw[hk] at hq
     simp only[h1,decide_true,jY] at hq
     simp only[HM]
     exact hq
  | _ =>
   rw[no rfl] at q
   simp[dF]
   exact q
theorem wc {i:Int}(h1:-(2 ^ 150)<i)(h2:i<2 ^ 150):(toString i).length<=151:=PySem.int_text_length_le (k:=150) (by decide) (log2_lt (k:=150) (by decide) ⟨by simpa using h1,by simpa using h2⟩)
def Bg (i:Int):Prop:=-(2 ^ 148)<i/\i<2 ^ 148
theorem Fy {ws ss as:List Int}{r:Int}(h1:1<=ws.length){P:Nat->PT}(hP:∀ j,j<=ws.length->Bst BJ (sc ws ss as r) ws.length j (some (P j))):xm (sc ws ss as r) ws.length (.int (P 0).1) (.tup ((P 0).2.map λi:Nat=>.int i)) (.tup (((lL (ws.length+1)).map λj=>(P j).1).map .int))=true:=by
 have val:∀ l:List Int,(l.map D.int).map n9=l:=λl=>by
  rw[kG]
  conv=>rhs;rw[<- kY l]
  rfl
 have all:∀ l:List Int,(l.map D.int).all rF=true:=λl=>by rw[kH];simp[rF]
 have ek:((P 0).2.map λi:Nat=>D.int i)=((P 0).2.map λi:Nat=>(i:Int)).map .int:=by rw[kG];rfl
 obtain⟨b1,b2,b3,_⟩:=hP 0 (kT _)
 obtain⟨c1,c2,_⟩:=xp b3
 have hk:kD ws.length (.tup ((P 0).2.map λi:Nat=>.int i))=some (P 0).2:=by
  rw[ek]
  simp only[kD,all,val,true_and]
  rw[if_pos]
  ·rw[kG]
   congr 1
   conv=>rhs;rw[<- kY (P 0).2]
   apply c5
   intro j _;simp
  ·refine⟨?_,?_,λj hj=>?_⟩
   ·cases e:(P 0).2 with
    | nil=>rw[e] at b2;have b2:ws.length=0:=b2;lia
    | cons k0 r0=>rw[e] at b2;cases (show k0=0 from b2);rfl
   ·rw[ft]
    exact c2.imp λ{a b} hab=>by lia
   ·obtain⟨k,hk,rfl⟩:=kC.mp hj
    have:=c1 k hk
    lia
 have hg:∀ e,e<=ws.length->((lL (ws.length+1)).map λj=>(P j).1).getD e 0=(P e).1:=λe he=>by
  simp[lP,show e<ws.length+1 by lia]
 have ht:tD (sc ws ss as r) ws.length (.tup (((lL (ws.length+1)).map λj=>(P j).1).map .int))=some ((lL (ws.length+1)).map λj=>(P j).1):=by
  simp only[tD,all,val,true_and]
  rw[if_pos]
  refine⟨by simp,?_,λb hb=>?_⟩
  ·rw[hg _ (kW _),gX ((hP ws.length (kW _)).uniq xf)]
  ·rw[hg b ⋯]
   have e:(kX (b+1) (ws.length-b)).map (λe=>sc ws ss as r b e+((lL (ws.length+1)).map λj=>(P j).1).getD e 0)=(kX (b+1) (ws.length-b)).map λe=>sc ws ss as r b e+(P e).1:=by
    apply c5
    intro e he
    have he:=fv.mp he
    rw[hg e ⋯]
   unfold FM
   rw[e]
   obtain⟨t,ht⟩:∃ t,ws.length-b=t+1:=⟨ws.length-b-1,by lia⟩
   obtain⟨x,r',hx⟩:∃ x r',(kX (b+1) (ws.length-b)).map (λe=>sc ws ss as r b e+(P e).1)=x :: r':=by rw[ht,gb];exact⟨_,_,rfl⟩
   rw[hx]
   exact (BQ hb hP hx).symm
 simp only[xm,hk,ht,rF,n9,jX,hg 0 (kT _),decide_true,jY,decide_eq_true_eq]
 exact decide_eq_true b1.symm
theorem IK {ok:Nat->Nat->Bool}{ws ss as:List Int}{r:Int}(h:Rwo ws ss)(ha:Ask ws.length as r){ks:List Nat}(hv:vp ok ws.length ks):Bg (pc (sc ws ss as r) ws.length ks+1)/\Bg (pc (sc ws ss as r) ws.length ks-1):=by
 have h1:=Hd h ha hv
 have h2:=tJ hv
 have h3:=h.hn
 exact⟨⟨by lia,by lia⟩,⟨by lia,by lia⟩⟩
def Cel (xs:List FV):Prop:=∀ x∈xs,∃ i,x=.int i/\0<=i/\i<1000
theorem uG (d:Nat){m:Nat}{n:Int}{v:FV}{Q:FV×FV->Prop}(hs:Lf n v)(h0:0<=n)(hn:n<10000)(hm:m<=30)(q:∀ xs v',xs.length=m->Cel xs->Lf (n+1+m) v'->Q (.tup xs,v')):callW tb (d+3) 36 [v,.int m] Q:=by
 refine mY (fd:=Jz) rfl rfl ?_
 simp[Jz,Kv,big]
 refine nh d hs ⋯ (by decide) (by decide) λu v1 u0 u1 l1=>?_
 simp
 refine oT u0 u1 ?_
 intro f hf
 obtain⟨k,rfl,k0,k1⟩:∃ k:Int,f=.int k/\0<k/\k<=1000:=by
  simp at hf
  rcases hf with rfl|rfl|rfl|rfl<;>exact⟨_,rfl,by decide,by decide⟩
 refine⟨nu ⋯ ⋯,?_⟩
 rw[oU]
 refine⟨by simp;lia,?_⟩
 refine qj (f:=λi:Nat=>FV.int i) (I:=λds Z8 L=>∃ v',L=[some v',some (.int m),some (.int k)]/\Lf (n+1+ds.length) v'/\Z8.length=ds.length/\Cel Z8) (lL m) (lL m) [] [] _ rfl ⟨v1,rfl,by simpa using l1,rfl,by simp[Cel]⟩ ?_ ?_
 ·rintro ds x r Z8 L K e ⟨v',rfl,l3,hl,hv⟩ kk
  have hd:ds.length<=30:=by have:=congrArg kZ e;simp at this;lia
  simp
  refine nh d l3 ⋯ ⋯ ⋯ λw v2 w0 w1 l2=>?_
  simp
  refine kk _ _ ⟨v2,rfl,l2.mono (by simp;lia),by simp[hl],?_⟩
  intro z hz
  rcases ik.mp hz with hz|hz
  ·exact hv z hz
  ·simp at hz;exact⟨w,hz,w0,by lia⟩
 ·rintro ys L ⟨v',rfl,l3,hl,hv⟩
  simp at hl l3
  simp
  exact q ys v' hl hv l3
theorem Cw (d:Nat){n:Int}{v:FV}{Q:FV×FV->Prop}(hs:Lf n v)(h0:0<=n)(hn:n<9000)(q:∀ xs v',xs.length<=24->Cel xs->Lf (n+30) v'->Q (.tup xs,v')):callW tb (d+4) 37 [v] Q:=by
 refine mY (fd:=Jy) rfl rfl ?_
 simp[Jy,Ku,big]
 refine nh (d+1) hs ⋯ (by decide) (by decide) λu v1 u0 u1 l1=>?_
 simp
 refine nI (λh=>?_) (λh=>?_)
 ·refine nh (d+1) l1 ⋯ (by decide) (by decide) λw v2 w0 w1 l2=>?_
  simp
  obtain⟨m,rfl⟩:=br w0
  exact uG d l2 ⋯ ⋯ ⋯ λxs v' hl hc l3=>q xs v' ⋯ hc (l3.mono ⋯)
 ·refine nh (d+1) l1 ⋯ (by decide) (by decide) λw v2 w0 w1 l2=>?_
  simp
  obtain⟨m,rfl⟩:=br w0
  rw[show (9+(m:Int))=((9+m:Nat):Int) by simp]
  exact uG d l2 ⋯ ⋯ ⋯ λxs v' hl hc l3=>q xs v' ⋯ hc (l3.mono (by simp;lia))
set_option genInjectivity true in
inductive Pz where|keep (a n:Nat)|put (xs:List Int)
set_option genInjectivity true in
inductive Cz where|keep (i:Nat)|put (x:Int)
def Pz.enc:Pz->FV|.keep a n=>.tup [.str "keep",.int a,.int n]|.put xs=>.tup [.str "put",.tup (xs.map .int)]
def Pz.ok:Pz->Prop|.keep _ n=>1<=n|.put xs=>xs≠[]
def Pz.sz:Pz->Nat|.keep _ n=>n|.put xs=>xs.length
def Pz.rows:Pz->List Cz|.keep a n=>(kX a n).map .keep|.put xs=>xs.map .put
def pK (ps:List Pz):List Cz:=ps.flatMap Pz.rows
theorem Pz.rows_len (p:Pz):p.rows.length=p.sz:=by cases p<;>simp[Pz.rows,Pz.sz]
theorem Pz.ok_sz {p:Pz}(h:p.ok):1<=p.sz:=by
 cases p with
 | keep=>exact h
 | put xs=>cases xs with
  | nil=>exact absurd rfl h
  | cons=>simp[Pz.sz]
@[simp] theorem KW:pK []=[]:=rfl
@[simp] theorem qm (p:Pz)(ps:List Pz):pK (p :: ps)=p.rows++pK ps:=rfl
@[simp] theorem vf (ps qs:List Pz):pK (ps++qs)=pK ps++pK qs:=by simp[pK]
theorem By {ps:List Pz}(h:∀ p∈ps,p.ok):ps.length<=(pK ps).length:=by
 induction ps with
 | nil=>simp
 | cons p r ih =>
  have:=ih λq hq=>h q (cI _ hq)
  have:=Pz.ok_sz (h p dQ)
  simp[Pz.rows_len];lia
def Cz.ev (old:List Int):Cz->Int|.put x=>x|.keep i=>old.getD i 0
def Cz.fine (n:Nat):Cz->Prop|.put x=>0<=x/\x<1000|.keep i=>i<n
theorem vE {α:Type}(d:α):∀ (n a:Nat)(own:List α),a+n<=own.length->(kX a n).map (λi=>own.getD i d)=(own.drop a).take n
 | 0,a,own,h=>by simp
 | n+1,a,own,h=>by
  rw[gb,jQ,vE d n (a+1) own ⋯,aL (show a<own.length by lia),List.take_succ_cons]
  simp[lP,aX (show a<own.length by lia)]
theorem Gu {old:List Int}{a n:Nat}(h:a+n<=old.length):(Pz.keep a n).rows.map (Cz.ev old)=(old.drop a).take n:=by
 rw[<- vE 0 n a old h];simp[Pz.rows,Cz.ev,fE]
theorem JX (old xs:List Int):(Pz.put xs).rows.map (Cz.ev old)=xs:=by
 simp[Pz.rows,Cz.ev,fE]
theorem wO {a n m:Nat}(hn:1<=n)(h:∀ c∈(Pz.keep a n).rows,c.fine m):a+n<=m:=by
 have:Cz.keep (a+(n-1))∈(Pz.keep a n).rows:=by
  simp only[Pz.rows,kC]
  exact⟨_,fv.mpr ⟨by lia,by lia⟩,rfl⟩
 have:=h _ this
 simp only[Cz.fine] at this;lia
theorem AB (d:Nat)(p:Pz)(Q:FV×FV->Prop):callW tb (d+1) 10 [p.enc] Q↔Q (.int p.sz,.non):=by
 rw[pW (fd:=JV) rfl rfl]
 cases p<;>simp[JV,G0,Pz.enc,Pz.sz]
def Fine (n:Nat)(ps:List Pz):Prop:=(∀ p∈ps,p.ok)/\∀ c∈pK ps,c.fine n
theorem Fine.app {n:Nat}{ps qs:List Pz}(h:Fine n (ps++qs)):Fine n ps/\Fine n qs:=by
 obtain⟨h1,h2⟩:=h
 rw[vf] at h2
 exact⟨⟨λp hp=>h1 p (cJ _ hp),λc hc=>h2 c (cJ _ hc)⟩,⟨λp hp=>h1 p (ca _ hp),λc hc=>h2 c (ca _ hc)⟩⟩
theorem Fine.cons {n:Nat}{p:Pz}{ps:List Pz}(h:Fine n (p :: ps)):p.ok/\(∀ c∈p.rows,c.fine n)/\Fine n ps:=by
 obtain⟨h1,h2⟩:=h
 rw[qm] at h2
 exact⟨h1 p dQ,λc hc=>h2 c (cJ _ hc),λp hp=>h1 p (cI _ hp),λc hc=>h2 c (ca _ hc)⟩
def Pz.encD:Pz->D|.keep a n=>.tup [.str "keep",.int a,.int n]|.put xs=>.tup [.str "put",.tup (xs.map .int)]
theorem J5 (p:Pz):dF p.encD=p.enc:=by cases p<;>simp[Pz.encD,Pz.enc,dF,dFs,nj,fE]
theorem GC (ps:List Pz):dFs (ps.map Pz.encD)=ps.map Pz.enc:=by simp[nj,fE,J5]
theorem Cel.ints {xs:List FV}(h:Cel xs):∃ ns:List Int,xs=ns.map .int/\∀ n∈ns,0<=n/\n<1000:=by
 induction xs with
 | nil=>exact⟨[],rfl,by simp⟩
 | cons x r ih =>
  obtain⟨i,rfl,h0,h1⟩:=h x dQ
  obtain⟨ns,rfl,hn⟩:=ih λy hy=>h y (cI _ hy)
  refine⟨i :: ns,rfl,?_⟩
  intro n hn'
  rcases jN.mp hn' with rfl|hn'
  ·exact⟨h0,h1⟩
  ·exact hn n hn'
def qH:List Int->List Int->Nat
 | a :: r,x :: w=>if a=x then qH r w+1 else 0
 | _,_=>0
def sr:List Int->List Int->Nat
 | [],_=>0
 | a :: r,w=>max (qH (a :: r) w) (sr r w)
def EH (old:List Int):List Int->List Nat×Nat
 | []=>([0],0)
 | x :: w =>
  let t:=EH old w
  let s:=if sr old (x :: w)=0 then 2+t.2 else min (2+t.2) (2+t.1.getD (sr old (x :: w)-1) 0)
  (s :: t.1,min s (1+t.2))
def sz (old w:List Int):Nat:=(EH old w).1.headD 0
def po (old w:List Int):Nat:=(EH old w).2
theorem wM:∀ o w:List Int,qH o w<=o.length/\qH o w<=w.length
 | [],w=>by simp[qH]
 | a :: r,[]=>by simp[qH]
 | a :: r,x :: w=>by
  have:=wM r w
  simp only[qH,gm];split<;>lia
theorem yh:∀ o w:List Int,o.take (qH o w)=w.take (qH o w)
 | [],w=>by simp[qH]
 | a :: r,[]=>by simp[qH]
 | a :: r,x :: w=>by
  simp only[qH];split
  ·rename_i h;subst h;simp[yh r w]
  ·simp
theorem yi:∀ (m:Nat)(o w:List Int),m<=qH o w->(m<qH o w↔m<o.length/\m<w.length/\o[m]?=w[m]?)
 | m,[],w,h=>by simp[qH]
 | m,a :: r,[],h=>by simp[qH]
 | 0,a :: r,x :: w,h=>by simp only[qH];split<;>simp_all
 | m+1,a :: r,x :: w,h=>by
  simp only[qH] at h ⊢
  split at h
  ·rename_i e
   have:=yi m r w ⋯
   simp only[e,if_true,gm,bq,Nat.add_lt_add_iff_right];exact this
  ·lia
theorem zp:∀ (old w:List Int),0<sr old w->∃ a,a<old.length/\sr old w=qH (old.drop a) w
 | [],w,h=>by simp[sr] at h
 | b :: r,w,h=>by
  simp only[sr] at h ⊢
  by_cases hc:sr r w<=qH (b :: r) w
  ·exact⟨0,by simp,by simp only[jh];lia⟩
  ·obtain⟨a,h1,h2⟩:=zp r w ⋯
   exact⟨a+1,by simp;lia,by simp only[c9];lia⟩
theorem DD (old w:List Int):sr old w<=w.length:=by
 by_cases h:0<sr old w
 ·obtain⟨a,-,e⟩:=zp old w h
  have:=(wM (old.drop a) w).2;lia
 ·lia
theorem Ae (old:List Int):∀ w,(EH old w).1.length=w.length+1
 | []=>rfl
 | x :: w=>by simp[EH,Ae old w]
theorem wm (old:List Int):∀ (w:List Int) (i:Nat),i<=w.length->(EH old w).1[i]?=some (sz old (w.drop i))
 | [],i,h=>by
  have:i=0:=by simpa using h
  subst this;rfl
 | x :: w,0,h=>by simp[sz,EH]
 | x :: w,i+1,h=>by
  have:=wm old w i (by simpa using h)
  simpa[EH] using this
theorem CD (old:List Int):sz old []=0:=rfl
theorem IA (old:List Int):po old []=0:=rfl
theorem wn (old:List Int) (x:Int)(w:List Int):sz old (x :: w)=if sr old (x :: w)=0 then 2+po old w else min (2+po old w) (2+sz old ((x :: w).drop (sr old (x :: w)))):=by
 have hl:=DD old (x :: w)
 simp only[sz,EH,List.headD_cons,po]
 by_cases h:sr old (x :: w)=0
 ·simp only[h,if_true]
 ·simp only[h,if_false]
  have e:=wm old w (sr old (x :: w)-1) (by simp at hl;lia)
  obtain⟨k,hk⟩:∃ k,sr old (x :: w)=k+1:=⟨sr old (x :: w)-1,by lia⟩
  rw[hk] at e ⊢
  simp only[dI] at e ⊢
  simp[lP,e,sz]
theorem Ap (old:List Int) (x:Int)(w:List Int):po old (x :: w)=min (sz old (x :: w)) (1+po old w):=rfl
theorem Hk (old:List Int):∀ w:List Int,∃ j,j<=w.length/\po old w=j+sz old (w.drop j)
 | []=>⟨0,by simp,rfl⟩
 | x :: w=>by
  obtain⟨j,h1,h2⟩:=Hk old w
  rw[Ap]
  by_cases h:sz old (x :: w)<=1+po old w
  ·exact⟨0,by simp,by simp only[jh];lia⟩
  ·exact⟨j+1,by simp;lia,by rw[c9];lia⟩
def Pz.cost:Pz->Nat|.keep _ _=>2|.put xs=>1+xs.length
def yF (ps:List Pz):Nat:=(ps.map Pz.cost).sum
@[simp] theorem K6:yF []=0:=rfl
@[simp] theorem zK (p:Pz)(ps:List Pz):yF (p :: ps)=p.cost+yF ps:=by simp[yF]
def qO (P:Nat->Bool):Nat->Nat->Option Nat
 | 0,_=>none
 | n+1,i=>if P i=true then some i else qO P n (i+1)
theorem sy {P:Nat->Bool}{k:Nat}:∀ {n i:Nat},i<=k->k<i+n->(∀ j,i<=j->j<k->P j=false)->P k=true->qO P n i=some k
 | 0,i,h1,h2,_,_=>by lia
 | n+1,i,h1,h2,h3,h4=>by
  by_cases e:i=k
  ·subst e;simp[qO,h4]
  ·rw[qO,h3 i (kW _) ⋯,if_neg eB]
   exact sy ⋯ ⋯ (λj hj hk=>h3 j ⋯ hk) h4
theorem sA {P:Nat->Bool}:∀ {n i:Nat},(∀ j,i<=j->j<i+n->P j=false)->qO P n i=none
 | 0,i,_=>rfl
 | n+1,i,h=>by
  rw[qO,h i (kW _) ⋯,if_neg eB]
  exact sA λj hj hk=>h j ⋯ ⋯
theorem qa {P:Nat->Bool}{k:Nat}:∀ {n i:Nat},qO P n i=some k->i<=k/\k<i+n/\P k=true/\∀ j,i<=j->j<k->P j=false
 | 0,i,h=>by cases h
 | n+1,i,h=>by
  rw[qO] at h
  split at h
  ·rename_i hp;cases h
   exact⟨kW _,by lia,hp,λj h1 h2=>by lia⟩
  ·rename_i hp
   obtain⟨h1,h2,h3,h4⟩:=qa h
   refine⟨by lia,by lia,h3,λj g1 g2=>?_⟩
   by_cases e:j=i
   ·subst e;simpa using hp
   ·exact h4 j ⋯ g2
theorem wq {P:Nat->Bool}{n i:Nat}(h:qO P n i=none):∀ j,i<=j->j<i+n->P j=false:=by
 intro j h1 h2
 cases hp:P j with
 | false=>rfl
 | true =>
  exfalso
  revert h
  have:∀ n i,i<=j->j<i+n->qO P n i≠none:=by
   intro n
   induction n with
   | zero=>intro i h1 h2;lia
   | succ n ih =>
    intro i h1 h2
    rw[qO]
    split
    ·simp
    ·rename_i hq
     by_cases e:i=j
     ·subst e;exact absurd hp hq
     ·exact ih (i+1) ⋯ ⋯
  exact this n i h1 h2
def Jd (old w:List Int) (k:Nat):Bool:=2+sz old (w.drop (k+1)) == sz old w
def Jl (old w:List Int) (a:Nat):Option Nat:=qO (Jd old w) (qH (old.drop a) w) 0
def fk (old w:List Int):Option Pz:=(qO (λa=>(Jl old w a).isSome) old.length 0).map λa=>.keep a ((Jl old w a).getD 0+1)
def Ir (old w:List Int) (k:Nat):Bool:=1+(k+1)+sz old (w.drop (k+1)) == sz old w
def fp (old w:List Int):Nat:=(qO (Ir old w) w.length 0).getD 0+1
def p7 (old w:List Int):Pz:=(fk old w).getD (.put (w.take (fp old w)))
def DI (old:List Int):Nat->List Int->List Pz
 | 0,_=>[]
 | _+1,[]=>[]
 | n+1,x :: w=>p7 old (x :: w) :: DI old n ((x :: w).drop (p7 old (x :: w)).sz)
def Jc (old new:List Int):List Pz:=DI old new.length new
theorem F1 (old:List Int):∀ n,DI old n []=[]
 | 0=>rfl
 | n+1=>rfl
theorem Gj {old w:List Int}{p:Pz}(h:fk old w=some p):∃ a k,p=.keep a (k+1)/\a<old.length/\k<qH (old.drop a) w/\2+sz old (w.drop (k+1))=sz old w:=by
 unfold fk at h
 cases e:qO (λa=>(Jl old w a).isSome) old.length 0 with
 | none=>rw[e] at h;cases h
 | some a =>
  rw[e] at h
  obtain⟨-,h2,h3,-⟩:=qa e
  cases e2:Jl old w a with
  | none=>rw[e2] at h3;cases h3
  | some k =>
   obtain⟨-,g2,g3,-⟩:=qa e2
   refine⟨a,k,?_,by lia,by lia,by simpa[Jd] using g3⟩
   simp only[gY,e2,fW,Option.some.injEq] at h
   exact h.symm
theorem Gi {old w:List Int}(h:fk old w=none):∀ a,a<old.length->∀ k,k<qH (old.drop a) w->2+sz old (w.drop (k+1))≠sz old w:=by
 intro a ha k hk e
 unfold fk at h
 have h:=wq (Option.map_eq_none_iff.mp h) a ⋯ ⋯
 have h:Jl old w a=none:=by simpa using h
 have:=wq h k ⋯ ⋯
 simp[Jd,e] at this
theorem C3 {old w:List Int}(hw:w≠[])(h:fk old w=none):∃ k,qO (Ir old w) w.length 0=some k:=by
 cases e:qO (Ir old w) w.length 0 with
 | some k=>exact⟨k,rfl⟩
 | none =>
  exfalso
  have hn:=wq e
  cases w with
  | nil=>exact hw rfl
  | cons x w =>
   have e1:sz old (x :: w)=2+po old w:=by
    rw[wn]
    split
    ·rfl
    ·rename_i hL
     obtain⟨a,ha,e⟩:=zp old (x :: w) ⋯
     have:=Gi h a ha (sr old (x :: w)-1) ⋯
     rw[show sr old (x :: w)-1+1=sr old (x :: w) by lia] at this
     have g:=wn old x w
     rw[if_neg hL] at g
     lia
   obtain⟨j,h1,h2⟩:=Hk old w
   have:=hn j ⋯ (by simp;lia)
   simp[Ir] at this
   lia
theorem yp {old w:List Int}(hw:w≠[]):(p7 old w).ok/\1<=(p7 old w).sz/\(p7 old w).sz<=w.length/\(p7 old w).cost+sz old (w.drop (p7 old w).sz)=sz old w/\(∀ a k,p7 old w=.keep a k->a+k<=old.length)/\(∀ xs,p7 old w=.put xs->xs=w.take xs.length)/\(p7 old w).rows.map (Cz.ev old)=w.take (p7 old w).sz:=by
 unfold p7
 cases e:fk old w with
 | some p =>
  obtain⟨a,k,rfl,h1,h2,h3⟩:=Gj e
  have hl:=wM (old.drop a) w
  have ht:=yh (old.drop a) w
  have hk:a+(k+1)<=old.length:=by have:=hl.1;simp at this;lia
  refine⟨by simp[Pz.ok],by simp[Pz.sz],by simp only[fW,Pz.sz];lia,by simpa[Pz.cost,Pz.sz] using h3,?_,?_,?_⟩
  ·intro a' k' e';simp only[fW,Pz.keep.injEq] at e';lia
  ·intro xs e';simp at e'
  ·simp only[fW]
   rw[Gu hk]
   have:=congrArg (List.take (k+1)) ht
   rw[i9,i9,hW ⋯] at this
   exact this
 | none =>
  obtain⟨k,hk⟩:=C3 hw e
  obtain⟨-,h2,h3,-⟩:=qa hk
  have hl:(w.take (k+1)).length=k+1:=by simp;lia
  simp only[fp,hk,fW,fX]
  refine⟨?_,by simp only[Pz.sz,hl];lia,by simp only[Pz.sz,hl];lia,by simpa[Pz.cost,Pz.sz,hl,Ir] using h3,?_,?_,?_⟩
  ·intro z;rw[z] at hl;simp at hl
  ·intro a k e;cases e
  ·intro xs e;cases e;rw[hl]
  ·rw[JX,Pz.sz,hl]
theorem uj (old:List Int):∀ (n:Nat)(w:List Int),w.length<=n->(∀ p∈DI old n w,p.ok/\∀ a k,p=.keep a k->a+k<=old.length)/\(pK (DI old n w)).map (Cz.ev old)=w/\yF (DI old n w)=sz old w
 | 0,w,h=>by
  have:w=[]:=ah ⋯
  subst this;simp[DI,CD]
 | n+1,[],h=>by simp[DI,CD]
 | n+1,x :: w,h=>by
  obtain⟨h1,h2,h3,h4,h5,h6,h7⟩:=yp (old:=old) (w:=x :: w) (by simp)
  obtain⟨g1,g2,g3⟩:=uj old n ((x :: w).drop (p7 old (x :: w)).sz) (by simp at h ⊢;lia)
  simp only[DI]
  refine⟨?_,?_,by rw[zK,g3,h4]⟩
  ·intro p hp
   rcases jN.mp hp with rfl|hp
   ·exact⟨h1,h5⟩
   ·exact g1 p hp
  ·rw[qm,il,g2,h7,b9]
theorem yq {tg:Tg}{b:SW}{I:Nat->mV->Prop}{Q:FFl->mV->Prop}:∀ (n:Nat)(L:mV),I n L ->
  (∀ j L (K:mV->Prop),j<n->I (j+1) L->(∀ L',I j L'->K L')->gW tg (.int (j:Int)) L λL1=>b L1 (rZ K Q)) ->
  (∀ L,I 0 L->Q .next L)->u6 tg b (p6 ((n:Int)-1) n) L Q
 | 0,L,h,_,E=>E L h
 | n+1,L,h,B,E=>by
  have e:p6 (((n+1:Nat):Int)-1) (n+1)=.int (n:Int) :: p6 ((n:Int)-1) n:=by simp[p6]
  rw[e]
  exact B n L _ ⋯ h λL' h'=>yq n L' h' (λj L K hj=>B j L K ⋯) E
def pi:List Int->List Int->List Int
 | [],_=>[]
 | a :: r,w=>(qH (a :: r) w:Int) :: pi r w
def uX:List Int->List Int->List (Int×Int)
 | [],_=>[]
 | a :: r,w=>(a,(qH r w:Int)) :: uX r w
theorem xI:∀ old:List Int,pi old []=jc old.length 0
 | []=>rfl
 | a :: r=>by simp[pi,qH,xI r,cZ]
theorem xJ (w:List Int):∀ old:List Int,(pi old w).length=old.length
 | []=>rfl
 | a :: r=>by simp[pi,xJ w r]
theorem Ao (w:List Int):∀ old:List Int,(uX old w).length=old.length
 | []=>rfl
 | a :: r=>by simp[uX,Ao w r]
theorem vd (x:Int)(w:List Int):∀ old:List Int,(uX old w).map (λp=>if p.1=x then p.2+1 else 0)=pi old (x :: w)
 | []=>rfl
 | a :: r=>by
  simp only[uX,pi,jQ,vd x w r,qH]
  congr 1
  split<;>simp
theorem CQ (w:List Int):∀ old:List Int,oX (old.map .int) ((nT (pi old w) (some 1) none++[0]).map .int)=(uX old w).map λp=>FV.tup [.int p.1,.int p.2]:=by
 have J6:∀ xs:List Int,nT xs (some 1) none=xs.drop 1:=λxs=>by simpa using pB xs 1
 intro old
 rw[J6]
 induction old with
 | nil=>rfl
 | cons a r ih =>
  cases r with
  | nil=>simp[pi,uX,oX,qH]
  | cons b r =>
   simp only[pi,uX,c9,jh,jQ,gu,oX,bK] at ih ⊢
   rw[<- ih]
theorem xV (w:List Int):∀ (r:List Int) (b:Nat),qC (b:Int) (pi r w)=((max b (sr r w):Nat):Int)
 | [],b=>by simp[pi,qC,sr]
 | a :: r,b=>by
  simp only[pi,qC,sr]
  have:(if (b:Int)<(qH (a :: r) w:Int) then (qH (a :: r) w:Int) else (b:Int))=((max b (qH (a :: r) w):Nat):Int):=by split<;>lia
  rw[this,xV w r];lia
theorem BO (old w:List Int):Az 0 (pi old w)=(sr old w:Int):=by
 cases old with
 | nil=>rfl
 | cons a r=>simp only[pi,Az,sr];exact xV w r _
theorem Ai (xs ys:List FV)(y v:FV) (j:Nat)(h:xs.length=j):(xs++y :: ys).set j v=xs++v :: ys:=by subst h;simp
def uU (old w:List Int):List FV:=(EH old w).1.map λn:Nat=>FV.int n
theorem EX (old w:List Int):(uU old w).length=w.length+1:=by simp[uU,Ae]
theorem wo (old w:List Int){i:Nat}(h:i<=w.length):(uU old w)[i]?=some (.int (sz old (w.drop i))):=by
 rw[uU,fx,wm old w i h];rfl
theorem CF (old:List Int) (x:Int)(w:List Int):uU old (x :: w)=.int (sz old (x :: w)) :: uU old w:=rfl
theorem GA {α:Type}{xs:List α}{j:Nat}(h:j<xs.length):xs.drop j=xs[j] :: xs.drop (j+1):=aL h
theorem wZ {α β:Type}(f:α->β)(xs:List α)(lo hi:Option Int):nT (xs.map f) lo hi=(nT xs lo hi).map f:=by simp[nT,jP,jO]
theorem IZ (d:Nat){old new:List Int}{Q:FV×FV->Prop}(ho:old.length<=1000)(hn:new.length<=1000)(q:Q (.lst (uU old new),.non)):callW tb (d+1) 7 [.tup (old.map .int),.tup (new.map .int)] Q:=by
 refine mY (fd:=PR) rfl rfl ?_
 simp[PR,R6,big]
 refine⟨by lia,by lia,nu ⋯ ⋯,?_⟩
 refine yq (I:=λp L=>∃ a b c,L=[some (.tup (old.map .int)),some (.tup (new.map .int)),some (.lst (jc p (.int 0)++uU old (new.drop p))),some (.lst ((pi old (new.drop p)).map .int)),some (.int (po old (new.drop p))),a,b,c]) new.length _ ?_ ?_ ?_
 ·refine⟨none,none,none,?_⟩
  rw[bO (kW _),xI,IA,show uU old []=[.int 0] from rfl,cB]
  simp
 ·rintro j L K hj ⟨a,b,c,rfl⟩ k
  have hd:=GA hj
  have hx:(new.map FV.int)[j]?=some (.int new[j]):=by rw[fx,aX hj];rfl
  have hr:(pi old (new.drop (j+1))).length<=1000:=by rw[xJ];exact ho
  rw[cB,fB,List.singleton_append]
  have hl:(jc j (FV.int 0)).length=j:=by simp
  rw[hd,CF] at k
  have hw:(new.drop (j+1)).length+j+1=new.length:=by rw[gj];lia
  have hlng:=DD old (new[j] :: new.drop (j+1))
  have hsz:=wn old new[j] (new.drop (j+1))
  have hpo:=Ap old new[j] (new.drop (j+1))
  generalize new.drop (j+1)=w at *
  generalize hB:jc j (FV.int 0)=B at *
  have cl:=A3 ((pi old w).map FV.int) (some 1) none
  simp only[iq] at cl
  simp[big]
  refine⟨by lia,?_⟩
  rw[show (FV.int 0:FV)=FV.int (0:Int) from rfl,wZ,<- dR,<- il,CQ]
  refine⟨?_,?_⟩
  ·rw[iq,Ao];lia
  refine nD (g:=λp=>.int (if p.1=new[j] then p.2+1 else 0)) (uX old w) [] (λp hp K k=>?_) ?_
  ·simp
   rw[nN rfl hx]
   simp
   refine nI (λh=>?_) (λh=>?_)
   ·simpa[h] using k
   ·simpa[h] using k
  ·have em:(uX old w).map (λp=>FV.int (if p.1=new[j] then p.2+1 else 0))=(pi old (new[j] :: w)).map .int:=by
    rw[<- vd,kG];rfl
   rw[ii,em]
   simp only[gm] at hlng
   have hs1:=EX old w
   have hj0:j<(B++FV.int 0 :: uU old w).length:=by simp;lia
   have at0:∀ (v:FV)(Q:FV->Prop),wp (vW (B++v :: uU old w) (j:Int)) Q↔Q v:=λv Q=>nN (n:=j) rfl (by rw[az ⋯,hl,Nat.sub_self];rfl)
   simp
   rw[sK rfl ⋯,Ai _ _ _ _ _ hl,ints_map]
   simp only[oo,BO]
   refine nI (λh=>?_) (λh=>?_)
   ·have h:0<sr old (new[j] :: w):=by lia
    obtain⟨m,hm⟩:∃ m,sr old (new[j] :: w)=m+1:=⟨sr old (new[j] :: w)-1,by lia⟩
    rw[at0,nN (n:=j+(m+1)) (v:=.int (sz old (w.drop m))) (by rw[hm];simp) (by
     rw[az ⋯,show j+(m+1)-B.length=m+1 by lia,bq]
     exact wo old w ⋯)]
    simp
    rw[sK rfl ⋯,Ai _ _ _ _ _ hl,at0]
    simp
    rw[hm,if_neg ⋯,c9] at hsz
    have e1:(if sz old (w.drop m)<po old w then 2+(sz old (w.drop m):Int) else 2+(po old w:Int))=(sz old (new[j] :: w):Int):=by rw[hsz];split<;>lia
    rw[e1]
    have e2:(if 1+(po old w:Int)<(sz old (new[j] :: w):Int) then 1+(po old w:Int) else (sz old (new[j] :: w):Int))=(po old (new[j] :: w):Int):=by rw[hpo];split<;>lia
    rw[e2]
    exact k _ ⟨_,_,_,rfl⟩
   ·have h:sr old (new[j] :: w)=0:=by lia
    rw[at0]
    simp
    rw[if_pos h] at hsz
    have e2:1+(po old w:Int)=(po old (new[j] :: w):Int):=by rw[hpo];lia
    rw[e2,show (2+(po old w:Int))=(sz old (new[j] :: w):Int) by rw[hsz];simp]
    exact k _ ⟨_,_,_,rfl⟩
 ·rintro L ⟨a,b,c,rfl⟩
  simp
  simpa using q
theorem Dx {xs:List Int}{i:Nat}(h:i<xs.length):(xs.map FV.int)[i]?=some (.int xs[i]):=by rw[fx,aX h];rfl
theorem D3 (d:Nat){old new:List Int}{p:Nat}{Q:FV×FV->Prop}(ho:old.length<=1000)(hn:new.length<=1000)(hp:p<new.length)(q:Q (((fk old (new.drop p)).map Pz.enc).getD .non,.non)):callW tb (d+1) 8 [.tup (old.map .int),.tup (new.map .int),.lst (uU old new),.int p] Q:=by
 refine mY (fd:=PQ) rfl rfl ?_
 simp[PQ,R5]
 refine⟨nu ⋯ ⋯,?_⟩
 have hwl:(new.drop p).length=new.length-p:=gj
 have hsz:∀ i,p+i<=new.length->(uU old new)[p+i]?=some (.int (sz old ((new.drop p).drop i))):=λi hi=>by
  rw[wo old new hi,ji]
 have hnew:∀ i,p+i<new.length->new[p+i]?=(new.drop p)[i]?:=λi hi=>by rw[dU]
 refine oH (I:=λa L=>(∃ m,∃ e,L=[some (.tup (old.map .int)),some (.tup (new.map .int)),some (.lst (uU old new)),some (.int p),e,m])/\∀ b,b<a->Jl old (new.drop p) b=none) old.length 0 _ ⟨⟨_,_,rfl⟩,λb hb=>by lia⟩ ?_ ?_
 ·rintro a L K-ha ⟨⟨m,e,rfl⟩,hno⟩ k
  simp
  have hll:=wM (old.drop a) (new.drop p)
  refine rX (m:=qH (old.drop a) (new.drop p)) (I:=λm L=>∃ k:Nat,L=[some (.tup (old.map .int)),some (.tup (new.map .int)),some (.lst (uU old new)),some (.int p),some (.int a),some (.int k)]/\k<=qH (old.drop a) (new.drop p)/\(∀ i,i<k->Jd old (new.drop p) i=false)/\m=qH (old.drop a) (new.drop p)-k) ?_ ⟨0,rfl,by lia,λi hi=>by lia,by lia⟩
  rintro m L K2 ⟨i,rfl,h1,h2,h3⟩ k2
  have hstep:=yi i (old.drop a) (new.drop p) h1
  simp only[gj] at hstep hll
  have hend:¬ i<qH (old.drop a) (new.drop p)->K [some (.tup (old.map .int)),some (.tup (new.map .int)),some (.lst (uU old new)),some (.int p),some (.int a),some (.int i)]:=λh=>by
   refine k _ ⟨⟨_,_,rfl⟩,λb hb=>?_⟩
   by_cases e:b=a
   ·subst e
    have:i=qH (old.drop b) (new.drop p):=by lia
    exact sA λj _ hj=>h2 j ⋯
   ·exact hno b ⋯
  simp
  refine nI (λc1=>?_) (λc1=>hend ⋯)
  refine nI (λc2=>?_) (λc2=>hend ⋯)
  rw[nN (n:=a+i) (by simp) (Dx (show a+i<old.length by lia)),nN (n:=p+i) (by simp) (Dx (show p+i<new.length by lia))]
  simp
  have e1:(old.drop a)[i]?=some (old[a+i]'⋯):=by rw[dU,aX]
  have e2:(new.drop p)[i]?=some (new[p+i]'⋯):=by rw[dU,aX]
  rw[e1,e2] at hstep
  refine nI (λc3=>?_) (λc3=>hend (λz=>c3 (gX (hstep.mp z).2.2)))
  have hlt:=hstep.mpr ⟨by lia,by lia,by rw[c3]⟩
  rw[nN (n:=p+(i+1)) (by simp) (hsz (i+1) ⋯)]
  simp only[HA]
  rw[nN (i:=(p:Int)) (n:=p+0) (by simp) (hsz 0 ⋯)]
  simp
  refine nI (λc4=>?_) (λc4=>?_)
  ·have hk:Jd old (new.drop p) i=true:=by
    simp only[Jd,beq_iff_eq,ji];lia
   have h5:Jl old (new.drop p) a=some i:=sy ⋯ ⋯ (λj _ hj=>h2 j hj) hk
   have h6:fk old (new.drop p)=some (.keep a (i+1)):=by
    unfold fk
    rw[sy (k:=a) ⋯ ⋯ (λj _ hj=>by rw[hno j hj];rfl) (by rw[h5];rfl)]
    simp[h5]
   rw[h6] at q
   simpa[Pz.enc,big] using q
  ·refine k2 _ _ (show qH (old.drop a) (new.drop p)-(i+1)<m by lia) ⟨i+1,by simp,by lia,λj hj=>?_,rfl⟩
   by_cases e:j=i
   ·subst e
    simp only[Jd,beq_eq_false_iff_ne,ne_eq,ji];lia
   ·exact h2 j ⋯
 ·rintro L ⟨⟨m,e,rfl⟩,hno⟩
  simp
  have h6:fk old (new.drop p)=none:=by
   unfold fk
   rw[sA λj _ hj=>by rw[hno j ⋯];rfl];rfl
  rw[h6] at q
  exact q
theorem Gg (d:Nat){old new:List Int}{p:Nat}{Q:FV×FV->Prop}(hn:new.length<=1000)(hp:p<new.length)(h:fk old (new.drop p)=none)(q:Q ((Pz.put ((new.drop p).take (fp old (new.drop p)))).enc,.non)):callW tb (d+1) 9 [.tup (new.map .int),.lst (uU old new),.int p] Q:=by
 refine mY (fd:=PP) rfl rfl ?_
 simp[PP,R4]
 have hwl:(new.drop p).length=new.length-p:=gj
 have hsz:∀ i,p+i<=new.length->(uU old new)[p+i]?=some (.int (sz old ((new.drop p).drop i))):=λi hi=>by
  rw[wo old new hi,ji]
 obtain⟨k,hk⟩:=C3 (old:=old) (w:=new.drop p) (by intro z;rw[z] at hwl;simp at hwl;lia) h
 obtain⟨-,g2,g3,g4⟩:=qa hk
 refine rX (m:=k) (I:=λm L=>∃ i:Nat,L=[some (.tup (new.map .int)),some (.lst (uU old new)),some (.int p),some (.int ((i+1:Nat):Int))]/\i<=k/\m=k-i) ?_ ⟨0,by simp,by lia,by lia⟩
 rintro m L K ⟨i,rfl,h1,h2⟩ kk
 simp
 rw[nN (n:=p+(i+1)) (by simp) (hsz (i+1) ⋯)]
 simp only[HA]
 rw[nN (i:=(p:Int)) (n:=p+0) (by simp) (hsz 0 ⋯)]
 simp
 have hpt:Ir old (new.drop p) i=decide (1+(i+1)+sz old (new.drop (p+(i+1)))=sz old (new.drop p)):=by
  rw[Ir,ji];rfl
 refine nI (λc=>?_) (λc=>?_)
 ·have e:i=k:=by
   by_cases e:i=k
   ·exact e
   ·have:=g4 i ⋯ ⋯
    rw[hpt] at this
    simp at this
    lia
  subst e
  have e2:fp old (new.drop p)=i+1:=by rw[fp,hk];rfl
  rw[e2] at q
  have e3:(p:Int)+((i:Int)+1)=(p:Int)+((i+1:Nat):Int):=by simp
  rw[e3,w4]
  simpa[Pz.enc,big,jP,jO] using q
 ·have e:i≠k:=by
   rintro rfl
   rw[hpt] at g3
   simp at g3
   lia
  exact kk _ _ (show k-(i+1)<m by lia) ⟨i+1,by simp,by lia,rfl⟩
theorem DG (d:Nat){old new:List Int}{Q:FV×FV->Prop}(ho:old.length<=1000)(hn:new.length<=1000)(q:Q (.tup ((Jc old new).map Pz.enc),.non)):callW tb (d+2) 6 [.tup (old.map .int),.tup (new.map .int)] Q:=by
 refine mY (fd:=PU) rfl rfl ?_
 simp[PU,R7,big]
 refine IZ d ho hn ?_
 simp
 refine rX (m:=new.length) (I:=λm L=>∃ (ps:List Pz) (p n:Nat),∃ a,L=[some (.tup (old.map .int)),some (.tup (new.map .int)),some (.lst (uU old new)),some (.lst (ps.map Pz.enc)),some (.int p),a]/\p<=new.length/\m=new.length-p/\ps.length<=p/\new.length-p<=n/\ps++DI old n (new.drop p)=Jc old new) ?_ ⟨[],0,new.length,_,rfl,by lia,by lia,by simp,by lia,rfl⟩
 rintro m L K ⟨ps,p,n,a,rfl,h1,h2,h3,h4,h5⟩ k
 simp
 refine nI (λc=>?_) (λc=>?_)
 ·have hwl:(new.drop p).length=new.length-p:=gj
  have hne:new.drop p≠[]:=by intro z;rw[z] at hwl;simp at hwl;lia
  obtain⟨s1,s2,s3,-⟩:=yp (old:=old) hne
  have fin:K [some (.tup (old.map .int)),some (.tup (new.map .int)),some (.lst (uU old new)),some (.lst ((ps++[p7 old (new.drop p)]).map Pz.enc)),some (.int ((p+(p7 old (new.drop p)).sz:Nat):Int)),some (p7 old (new.drop p)).enc]:=by
   obtain⟨n',rfl⟩:∃ n',n=n'+1:=⟨n-1,by lia⟩
   refine k (new.length-(p+(p7 old (new.drop p)).sz)) _ ⋯ ⟨_,_,n',_,rfl,by lia,rfl,by simp;lia,by lia,?_⟩
   rw[<- h5]
   cases e:new.drop p with
   | nil=>exact absurd e hne
   | cons x w =>
    rw[e] at hne
    simp only[DI]
    rw[<- e,ji,fB];rfl
  refine D3 d ho hn ⋯ ?_
  cases hf:fk old (new.drop p) with
  | some z =>
   have e1:p7 old (new.drop p)=z:=by simp[p7,hf]
   rw[e1] at fin
   have ht:∀ R:Bool->Prop,wp (sv z.enc) R↔R true:=λR=>by cases z<;>simp[Pz.enc]
   simp[ht,AB,big]
   exact⟨by lia,by simpa using fin⟩
  | none =>
   have e1:p7 old (new.drop p)=.put ((new.drop p).take (fp old (new.drop p))):=by simp[p7,hf]
   rw[e1] at fin
   simp
   refine Gg d hn ⋯ hf ?_
   simp[AB,big]
   exact⟨by lia,by simpa using fin⟩
 ·have e:p=new.length:=by lia
  subst e
  rw[bO (kW _),F1,iA] at h5
  rw[h5]
  exact q
theorem Cel.app {xs ys:List FV}(h:Cel xs)(g:Cel ys):Cel (xs++ys):=λx hx=>(ik.mp hx).elim (h x) (g x)
theorem Cel.take {xs:List FV}(h:Cel xs) (n:Nat):Cel (xs.take n):=λx hx=>h x (cE hx)
theorem Cel.drop {xs:List FV}(h:Cel xs) (n:Nat):Cel (xs.drop n):=λx hx=>h x (cF hx)
theorem vL {α:Type}(xs:List α) (i t:Nat):nT xs (some ((i:Int)+(t:Int))) none=xs.drop (i+t):=by rw[<- pB];simp
theorem G7 (d:Nat){n:Int}{v:FV}{xs:List FV}{Q:FV×FV->Prop}(hs:Lf n v)(h0:0<=n)(hn:n<9000)(hx:xs.length<=24)(hc:Cel xs)(q:∀ ys v',ys.length<=24->Cel ys->Lf (n+40) v'->Q (.tup ys,v')):callW tb (d+4) 38 [v,.tup xs] Q:=by
 refine mY (fd:=Jx) rfl rfl ?_
 simp[Jx,Kt]
 refine nh (d+1) hs ⋯ (by decide) (by decide) λu v1 u0 u1 l1=>?_
 simp
 refine⟨nu ⋯ ⋯,?_⟩
 obtain⟨u,rfl⟩:=br u0
 rw[show (1+(u:Int)).toNat=1+u by lia]
 refine oH (I:=λj L=>∃ v' ys,∃ a b c e f g h,L=[some v',some (.tup xs),some (.lst ys),a,b,c,e,f,g,h]/\ys.length<=24+4*j/\Cel ys/\Lf (n+1+12*j) v') (1+u) 0 _ ⟨v1,xs,_,_,_,_,_,_,_,rfl,by lia,hc,by simpa using l1⟩ ?_ ?_
 ·rintro j L K-hj ⟨v',ys,a,b,c,e,f,g,h,rfl,hl,hy,lf⟩ k
  have hj:j<3:=by lia
  simp
  refine nh (d+1) lf ⋯ ⋯ ⋯ λa' v2 a0 a1 l2=>?_
  obtain⟨at',rfl⟩:=br a0
  simp
  refine nh (d+1) l2 ⋯ (by decide) (by decide) λc' v3 c0 c1 l3=>?_
  obtain⟨c',rfl⟩:=br c0
  obtain⟨t,ht,ht2,he⟩:∃ t:Nat,t<=4/\at'+t<=ys.length/\(if (at':Int)+1+c'<(ys.length:Int) then (at':Int)+1+c' else (ys.length:Int))=(at':Int)+(t:Int):=by
   by_cases hh:(at':Int)+1+c'<(ys.length:Int)
   ·exact⟨1+c',by lia,by lia,by rw[if_pos hh];simp;lia⟩
   ·exact⟨ys.length-at',by lia,by lia,by rw[if_neg hh];lia⟩
  simp[he,w4]
  refine nh (d+1) l3 ⋯ ⋯ ⋯ λt' v4 t0 t1 l4=>?_
  obtain⟨to,rfl⟩:=br t0
  simp
  refine nh (d+1) l4 ⋯ (by decide) (by decide) λw v5 w0 w1 l5=>?_
  simp[zJ,pB,vL,big]
  refine nI (λhw=>?_) (λhw=>?_)
  ·refine nh (d+1) l5 ⋯ (by decide) (by decide) λm v6 m0 m1 l6=>?_
   obtain⟨m,rfl⟩:=br m0
   simp
   rw[show (1+(m:Int))=((1+m:Nat):Int) by simp]
   refine uG d l6 ⋯ ⋯ ⋯ λzs v7 hz hzc l7=>?_
   simp
   refine⟨by lia,by lia,k _ ⟨v7,_,_,_,_,_,_,_,_,rfl,by simp;lia,?_,l7.mono (by simp;lia)⟩⟩
   exact (hy.take _).app (hzc.app (hy.drop _))
  refine nI (λhw=>?_) (λhw=>?_)
  ·refine⟨by lia,k _ ⟨v5,_,_,_,_,_,_,_,_,rfl,by simp;lia,(hy.take _).app (hy.drop _),l5.mono (by simp;lia)⟩⟩
  refine nI (λhw=>?_) (λhw=>?_)
  ·refine⟨by lia,by lia,by lia,k _ ⟨v5,_,_,_,_,_,_,_,_,rfl,by simp;lia,?_,l5.mono (by simp;lia)⟩⟩
   exact (((hy.take _).app (hy.drop _)).take _).app (((hy.drop _).take _).app (((hy.take _).app (hy.drop _)).drop _))
  refine nI (λhw=>?_) (λhw=>?_)
  ·refine⟨by lia,by lia,k _ ⟨v5,_,_,_,_,_,_,_,_,rfl,by simp;lia,?_,l5.mono (by simp;lia)⟩⟩
   exact (hy.take _).app (((hy.drop _).take _).app (hy.drop _))
  ·refine⟨by lia,?_⟩
   have hb:=(hy.drop at').take t
   obtain⟨bs,hbs,hbb⟩:∃ bs:List Int,(ys.drop at').take t=bs.map .int/\bs.length<=4:=by
    obtain⟨bs,e,_⟩:=hb.ints
    refine⟨bs,e,?_⟩
    have:=congrArg kZ e
    simp at this;lia
   rw[hbs]
   refine nD (f:=FV.int) (g:=λi=>.int ((i+1) % 1000)) bs [] (λi hi K2 k2=>?_) ?_
   ·simp
    exact k2
   ·simp[big,vL]
    refine⟨by lia,by lia,k _ ⟨v5,_,_,_,_,_,_,_,_,rfl,by simp;lia,?_,l5.mono (by simp;lia)⟩⟩
    refine (hy.take _).app (Cel.app ?_ (hy.drop _))
    intro x hx
    obtain⟨i,-,rfl⟩:=kC.mp hx
    exact⟨_,rfl,iC _ ⋯,dY _ ⋯⟩
 ·rintro L ⟨v',ys,a,b,c,e,f,g,h,rfl,hl,hy,lf⟩
  simp
  rw[show (24:Int)=((24:Nat):Int) from rfl,zJ]
  exact q _ _ (by simp;lia) (hy.take _) (lf.mono (by simp;lia))
theorem DJ {old new:List Int}(h:∀ y∈new,0<=y/\y<1000):Fine old.length (Jc old new):=by
 obtain⟨h1,h2,-⟩:=uj old new.length new (kW _)
 refine⟨λp hp=>(h1 p hp).1,λc hc=>?_⟩
 obtain⟨p,hp,hc'⟩:=List.mem_flatMap.mp hc
 cases p with
 | keep a k =>
  have:=(h1 _ hp).2 a k rfl
  simp only[Pz.rows,kC] at hc'
  obtain⟨i,hi,rfl⟩:=hc'
  have:=fv.mp hi
  simp only[Cz.fine];lia
 | put xs =>
  simp only[Pz.rows,kC] at hc'
  obtain⟨i,hi,rfl⟩:=hc'
  have:i∈new:=by
   rw[<- h2]
   exact kC.mpr ⟨.put i,hc,rfl⟩
  exact h i this
theorem BV (old new:List Int):(pK (Jc old new)).map (Cz.ev old)=new:=(uj old new.length new (kW _)).2.1
theorem F2 (old new:List Int):(pK (Jc old new)).length=new.length:=by
 have:=congrArg kZ (BV old new);simpa using this
def qD:D->Bool|.int _=>true|_=>false
def wP (s:String):D->Bool|.str w=>w == s|_=>false
def oG (n:Nat):D->Bool|.tup [w,.int a,.int b]=>wP "keep" w && (decide (0<=a) && (decide (1<=b) && decide (a+b<=n)))|_=>false
def pU:D->Bool|.tup [w,.tup cs]=>wP "put" w && (decide (1<=cs.length) && cs.all qD)|_=>false
def sX (n:Nat)(x:D):Bool:=oG n x || pU x
def chB (n:Nat):D->Bool|.tup ps=>ps.all (sX n)|_=>false
theorem eqs {a:D}(h:pI a<40)(s:String)(R:Bool->Prop):wp (sU (dF a) (.str s)) R↔R (wP s a):=by
 rw[show FV.str s=dF (.str s) from rfl,AR h (by simp[pI])]
 cases a<;>simp[D.eqv,wP]
theorem Dq (d:Nat)(x:D)(Q:FV×FV->Prop):callW tb (d+1) 0 [dF x] Q↔Q (.bl (qD x),.non):=by
 rw[pW (fd:=MF) rfl rfl]
 cases x<;>simp[MF,MY,dF,qD]
theorem Ac (d:Nat)(x:D) (n:Int)(Q:FV×FV->Prop):callW tb (d+1) 1 [dF x,.int n] Q↔Q (.bl (match x with|.tup xs=>(xs.length:Int) == n|_=>false),.non):=by
 rw[pW (fd:=ME) rfl rfl]
 cases x<;>simp[ME,MX,dF,nj]
theorem F6 (d:Nat)(x:D)(hx:pI x<39)(os:List FV)(Q:FV×FV->Prop):callW tb (d+2) 4 [.tup os,dF x] Q↔Q (.bl (oG os.length x),.non):=by
 rw[pW (fd:=PX) rfl rfl]
 simp[PX,R9,Ac]
 cases x with
 | tup xs =>
  rcases xs with _|⟨a,_|⟨b,_|⟨c,_|⟨e,r⟩⟩⟩⟩
  ·simp[oG]
  ·simp[oG]
  ·simp[oG]
  ·simp only[pI,deps] at hx
   simp[dF,dFs,eqs (a:=a) ⋯,Dq]
   cases hk:wP "keep" a<;>cases b<;>cases c<;>simp[oG,qD,dF,hk]
   rename_i i j
   by_cases h1:0<=i<;>by_cases h2:1<=j<;>simp[h1,h2]
  ·simp[oG]
   intro h;lia
 | _=>simp[oG]
theorem Ip (d:Nat)(x:D)(hx:pI x<39)(hw:x.wt<=big){Q:FV×FV->Prop}(q:Q (.bl (pU x),.non)):callW tb (d+2) 5 [dF x] Q:=by
 refine mY (fd:=PV) rfl rfl ?_
 simp[PV,R8,Ac]
 cases x with
 | tup xs =>
  rcases xs with _|⟨a,_|⟨b,_|⟨c,r⟩⟩⟩
  ·simpa[pU] using q
  ·simpa[pU] using q
  ·simp only[pI,deps] at hx
   simp only[D.wt,D.wts] at hw
   simp[dF,dFs,eqs (a:=a) ⋯]
   cases hk:wP "put" a
   ·cases b<;>simpa[pU,hk] using q
   ·cases b with
    | tup cs =>
     have l1:cs.length<=big:=by have:=rh cs;simp only[D.wt] at hw;lia
     simp[dF,nj,l1]
     refine nI (λh1=>?_) (λh1=>?_)
     ·refine nD (g:=λx=>.bl (qD x)) cs [] (λx hx K k=>?_) ?_
      ·simp[Dq];exact k
      ·simp[ou]
       have h2:1<=cs.length:=by lia
       simpa [pU,hk,h2,fE] using q
     ·have h2:¬ 1<=cs.length:=by lia
      simpa[pU,hk,h1,h2] using q
    | _=>simpa[pU,hk,dF] using q
  ·simp at *
   have:¬ ((r.length:Int)+1+1+1=2):=by lia
   simp[this]
   simpa[pU] using q
 | _=>simpa[pU] using q
theorem Da (d:Nat)(x:D)(hx:pI x<39)(hw:x.wt<=big)(os:List FV){Q:FV×FV->Prop}(q:Q (.bl (sX os.length x),.non)):callW tb (d+3) 3 [.tup os,dF x] Q:=by
 refine mY (fd:=PY) rfl rfl ?_
 simp[PY,Ou,F6 (d:=d) x hx]
 cases hk:oG os.length x
 ·simp
  exact Ip d x hx hw (by simpa[sX,hk] using q)
 ·simpa[sX,hk] using q
theorem J7 (d:Nat)(x:D)(hx:pI x<38)(hw:x.wt<=big)(os:List FV){Q:FV×FV->Prop}(q:Q (.bl (chB os.length x),.non)):callW tb (d+4) 2 [.tup os,dF x] Q:=by
 refine mY (fd:=Of) rfl rfl ?_
 cases x with
 | tup xs =>
  have l1:xs.length<=big:=by have:=rh xs;simp only[D.wt] at hw;lia
  simp[Of,MW,dF,nj,l1]
  refine nD (g:=λx=>.bl (sX os.length x)) xs [] (λx hx' K k=>?_) ?_
  ·have:=oY hx'
   have:=rV hx'
   simp only[pI] at hx
   simp only[D.wt] at hw
   simp
   exact Da d x ⋯ ⋯ os k
  ·simp[ou]
   simpa[chB,fE] using q
 | _=>simpa[Of,MW,dF,chB] using q
theorem xS (d:Nat)(xs:List D)(hl:xs.length<=big){Q:FV×FV->Prop}(q:Q (.bl (xs.all qD),.non)):callW tb (d+1) 35 [.tup (dFs xs)] Q:=by
 refine mY (fd:=zC) rfl rfl ?_
 simp[zC,Cj,nj,hl]
 refine nD (g:=λx=>.bl (qD x)) xs [] (λx hx K k=>?_) ?_
 ·cases x<;>simp[dF,qD]<;>exact k
 ·simp[ou]
  simpa[fE] using q
theorem LW {n:Nat}{a:D}{r:List D}(h1:wP "keep" a=false)(h2:wP "put" a=false):sX n (.tup (a :: r))=false:=by
 simp only[sX,oG,pU]
 split<;>split<;>simp_all
theorem D9 {cs:List D}(h:deps cs<39)(R:Bool->Prop):wp (sU (FV.tup (dFs cs)) (.tup [])) R↔R cs.isEmpty:=by
 rw[show FV.tup (dFs cs)=dF (.tup cs) from rfl,show FV.tup []=dF (.tup []) from rfl,AR (by simp only[pI];lia) (by simp[pI,deps])]
 cases cs<;>simp[D.eqv,D.eqvs]
theorem Ja (d:Nat) (n:Nat)(x:D)(hx:pI x<39)(hw:x.wt<=big){Q:FV×FV->Prop}(q:Q (.bl (sX n x),.non)):callW tb (d+2) 45 [.int n,dF x] Q:=by
 refine mY (fd:=zB) rfl rfl ?_
 cases x with
 | tup xs =>
  rcases xs with _|⟨a,_|⟨b,r⟩⟩
  ·simpa[zB,zQ,dF,dFs,sX,oG,pU] using q
  ·simpa[zB,zQ,dF,dFs,sX,oG,pU] using q
  ·simp only[pI,deps] at hx
   simp only[D.wt,D.wts] at hw
   have hr:¬ ((dFs r).length:Int)+1+1<2:=by lia
   have no:wP "keep" a=false->wP "put" a=false->Q (.bl false,.non):=λh1 h2=>by rw[LW h1 h2] at q;exact q
   cases a with
   | str w =>
    simp[zB,zQ,dF,dFs,hr]
    refine nI (λhp=>?_) (λhp=>?_)
    ·subst hp
     rcases r with _|⟨c,r⟩
     ·simp[dFs]
      cases b with
      | tup cs =>
       simp only [pI,deps] at hx
       simp [dF,D9 (cs:=cs) ⋯]
       cases cs with
       | nil=>simpa [sX,oG,pU] using q
       | cons y ys =>
        simp
        refine xS d (y :: ys) (by have:=rh (y :: ys); simp only [D.wt] at hw; lia) ?_
        simpa [sX,oG,pU,wP] using q
      | _=>simpa[dF,sX,oG,pU] using q
     ·have:¬ ((r.length:Int)+1+1+1=2):=by lia
      have h2:sX n (.tup (.str "put" :: b :: c :: r))=false:=by
       simp only [sX,oG,pU]
       split
       ·rename_i h; cases h; simp [wP]
       ·simp
      simp[dFs,nj,this]
      rw[h2] at q;exact q
    ·refine nI (λhk=>?_) (λhk=>no (by simpa[wP] using hk) (by simpa[wP] using hp))
     subst hk
     rcases r with _|⟨c,_|⟨e,r⟩⟩
     ·cases b<;>simpa[dFs,sX,oG,pU,wP] using q
     ·simp[dFs,nT,sIx]
      refine xS d [b,c] (by simp[big]) ?_
      simp
      refine nI (λhn=>?_) (λhn=>?_)
      ·cases b<;>simp[qD] at hn
       cases c <;> simp [qD] at hn
       rename_i i j
       simp [dF]
       simp [sX,oG,pU,wP] at q
       by_cases h1:0<=i <;> by_cases h2:1<=j <;> simpa [h1,h2] using q
      ·have h2:sX n (.tup [.str "keep",b,c])=false:=by
        simp only [sX,oG,pU]
        split <;> simp_all [wP,qD]
       rw [h2] at q; exact q
     ·have:¬ ((r.length:Int)+1+1+1+1=3):=by lia
      have h2:sX n (.tup (.str "keep" :: b :: c :: e :: r))=false:=by simp[sX,oG,pU]
      simp[dFs,nj,this]
      rw[h2] at q;exact q
   | _ =>
    simp[zB,zQ,dF,dFs,hr]
    exact no rfl rfl
 | _=>simpa[zB,zQ,dF,sX,oG,pU] using q
theorem J2 (d:Nat)(x:D)(hx:pI x<38)(hw:x.wt<=big)(os:List FV){Q:FV×FV->Prop}(q:Q (.bl (chB os.length x),.non)):callW tb (d+3) 46 [.tup os,dF x] Q:=by
 refine mY (fd:=Gn) rfl rfl ?_
 cases x with
 | tup xs =>
  have l1:xs.length<=big:=by have:=rh xs;simp only[D.wt] at hw;lia
  simp[Gn,Ew,dF,nj,l1]
  refine nD (g:=λx=>.bl (sX os.length x)) xs [] (λx hx' K k=>?_) ?_
  ·have:=oY hx'
   have:=rV hx'
   simp only[pI] at hx
   simp only[D.wt] at hw
   simp
   exact Ja d os.length x ⋯ ⋯ k
  ·simp[ou]
   simpa[chB,fE] using q
 | _=>simpa[Gn,Ew,dF,chB] using q
theorem DV (xs:List Int):(xs.map D.int).all qD=true:=by
 rw[gw];intro x hx;obtain⟨i,-,rfl⟩:=kC.mp hx;rfl
theorem Fine.chB {n:Nat}{ps:List Pz}(h:Fine n ps):chB n (.tup (ps.map Pz.encD))=true:=by
 simp only[Kq.chB]
 rw[gw]
 intro x hx
 obtain⟨p,hp,rfl⟩:=kC.mp hx
 obtain⟨s,t,rfl⟩:=dX hp
 obtain⟨h1,h2,-⟩:=h.app.2.cons
 cases p with
 | keep a m =>
  have:=wO h1 h2
  simp only[Pz.ok] at h1
  have e1:(0:Int)<=a:=by lia
  have e2:(1:Int)<=m:=by lia
  have e3:(a:Int)+m<=n:=by lia
  simp[Pz.encD,sX,oG,wP,e1,e2,e3]
 | put xs =>
  have e1:1<=xs.length:=Pz.ok_sz (p:=.put xs) h1
  simp only[Pz.encD,sX,oG,pU,iq,e1,DV,wP];simp
theorem D1 (d:Nat)(ns:List Int){Q:FV×FV->Prop}(q:∀ ms:List Int,ms.length<=7->Q (.lst (ms.map .int),.non)):callW tb (d+1) 34 [.scr ns,.int 7] Q:=by
 refine mY (fd:=JA) rfl rfl ?_
 simp[JA,Kw]
 rw[show ∀ Q:List FV->Prop,wp (oF (.scr ns)) Q↔Q (ns.map .int) from λ_=>mf,show ∀ Q:List FV->Prop,wp (oF (.scr ns)) Q↔Q (ns.map .int) from λ_=>mf]
 have c6:nT ns none (some 7)=ns.take 7:=(show nT ns none (some 7)=nT ns (some (0:Nat)) (some (7:Nat)) by simp[nT,sIx]).trans (tH ns (i:=0) (j:=7) ⋯)
 rw[wZ,wZ,show nT ns (some 7) (some 63)=(ns.drop 7).take 56 from tH ns (i:=7) (j:=63) ⋯,c6,iq]
 rw[show oX (sQ 0 ((ns.drop 7).take 56).length) (((ns.drop 7).take 56).map FV.int)=((lL ((ns.drop 7).take 56).length).zip ((ns.drop 7).take 56)).map λp:Nat×Int=>FV.tup [.int p.1,.int p.2] by rw[oU,pq]]
 refine qf (f:=λp:Nat×Int=>FV.tup [.int p.1,.int p.2]) (I:=λ_ L=>∃ (ms:List Int)(x y:Option FV),ms.length=(ns.take 7).length/\L=[some (.scr ns),some (.int 7),some (.lst (ms.map .int)),x,y]) _ _ [] _ rfl ⟨ns.take 7,_,_,rfl,rfl⟩ (λdd c r L K e hI hK=>?_) λL hI=>?_
 ·obtain⟨ms,x,y,hl,rfl⟩:=hI
  have hc:c∈(lL ((ns.drop 7).take 56).length).zip ((ns.drop 7).take 56):=by rw[ii] at e;rw[e];simp
  have h1:c.1<((ns.drop 7).take 56).length:=je.mp (ie hc).1
  have h2:c.1<56/\7<ns.length:=by simp at h1;lia
  have h6:ms.length=7:=by rw[hl];simp;lia
  obtain⟨j,hj,ej⟩:∃ j:Nat,j<7/\(c.1:Int) % 7=j:=⟨c.1 % 7,by lia,by lia⟩
  simp
  rw[ej,nN rfl (v:=.int (ms.getD j 0)) (by rw[fx,aX ⋯];simp[show j<ms.length by lia])]
  refine⟨.inr (oD ⋯ ⋯),?_⟩
  simp
  rw[sK rfl ⋯,<- kE]
  exact hK _ ⟨_,_,_,by rw[im];exact hl,rfl⟩
 ·obtain⟨ms,x,y,hl,rfl⟩:=hI
  simp
  exact q ms (by rw[hl];simp;lia)
theorem DF (d:Nat)(ns:List Int) (k:Nat){Q:FV×FV->Prop}(q:∀ v y,Lf 0 v->Q (v,y)):callW tb (d+1) 32 [.lst (ns.map .int),.int k] Q:=by
 refine mY (fd:=JB) rfl rfl ?_
 have h1:small 1000003=true:=by decide
 have h2:small 0=true:=by decide
 have h4:small 10=true:=by decide
 have h5:∀ r:Bool,small (if r=true then 1 else 0)=true:=by intro r;cases r<;>decide
 simp[JB,Kx]
 split
 ·rename_i hk
  rw[nN rfl (show (ns.map FV.int)[k]?=some (.int ns[k]) by simp[hk])]
  simp[h1,h4,h5,big]
  exact⟨.inr (by by_cases hh:1000000000000000000<=(if ns[k]<0 then -ns[k] else ns[k])<;>simp only[hh,if_true,if_false]<;>decide),q _ _ ⟨_,_,_,rfl,by lia,by lia⟩⟩
 ·simp[h1,h2,h4,big]
  exact q _ _ ⟨_,_,_,rfl,by lia,by lia⟩
mutual
noncomputable def rK (j:Nat):D->Bool
 | .int i=>decide (-(2 ^ (148+j))<i/\i<2 ^ (148+j))
 | .tup xs=>decide (xs.length<=40+j) && okDs j xs
 | .lst xs=>decide (xs.length<=40+j) && okDs j xs
 | .non=>true|.bl _=>true|.str _=>true
noncomputable def okDs (j:Nat):List D->Bool
 | []=>true
 | x :: r=>rK j x && okDs j r
end
theorem okDs_all {j:Nat}:∀ {xs:List D},okDs j xs=true↔∀ x∈xs,rK j x=true
 | []=>⟨λ_ x h=>(by cases h),λ_=>rfl⟩
 | x :: r=>by
  rw[show okDs j (x :: r)=(rK j x && okDs j r) from rfl,gF,List.forall_mem_cons,okDs_all (xs:=r)]
theorem zd (j:Nat):(2:Int) ^ (148+(j+1))=2 ^ (148+j)*2:=Int.pow_succ ..
theorem sd (j:Nat):(1000:Int)<2 ^ (148+j):=by
 induction j with
 | zero=>decide
 | succ j ih=>rw[zd];lia
theorem okIn {j:Nat}{i:Int}:rK j (.int i)=true↔-(2 ^ (148+j))<i/\i<2 ^ (148+j):=decide_eq_true_iff
theorem okTu {j:Nat}{xs:List D}:rK j (.tup xs)=true↔xs.length<=40+j/\∀ x∈xs,rK j x=true:=by
 rw[show rK j (.tup xs)=(decide (xs.length<=40+j) && okDs j xs) from rfl,gF,decide_eq_true_iff,okDs_all]
theorem okLi {j:Nat}{xs:List D}:rK j (.lst xs)=true↔xs.length<=40+j/\∀ x∈xs,rK j x=true:=by
 rw[show rK j (.lst xs)=(decide (xs.length<=40+j) && okDs j xs) from rfl,gF,decide_eq_true_iff,okDs_all]
mutual
theorem sH {j:Nat}:∀ {x:D},rK j x=true->rK (j+1) x=true
 | .int i,h=>by
  have h:=okIn.mp h
  exact okIn.mpr (by rw[zd];have:=sd j;lia)
 | .tup xs,h=>okTu.mpr ⟨by have:=(okTu.mp h).1;lia,okDs_all.mp (okDs_up (okDs_all.mpr (okTu.mp h).2))⟩
 | .lst xs,h=>okLi.mpr ⟨by have:=(okLi.mp h).1;lia,okDs_all.mp (okDs_up (okDs_all.mpr (okLi.mp h).2))⟩
 | .non,_=>rfl|.bl _,_=>rfl|.str _,_=>rfl
theorem okDs_up {j:Nat}:∀ {xs:List D},okDs j xs=true->okDs (j+1) xs=true
 | [],_=>rfl
 | x :: r,h=>by
  have h:=b2 (show (rK j x && okDs j r)=true from h)
  show (rK (j+1) x && okDs (j+1) r)=true
  rw[sH h.1,okDs_up h.2];rfl
end
mutual
theorem Ax:∀ {x:D},rK 2 x=true->x.fit=true
 | .int i,h=>decide_eq_true (okIn.mp h)
 | .tup xs,h=>okDs_fit (okDs_all.mpr (okTu.mp h).2)
 | .lst xs,h=>okDs_fit (okDs_all.mpr (okLi.mp h).2)
 | .non,_=>rfl|.bl _,_=>rfl|.str _,_=>rfl
theorem okDs_fit:∀ {xs:List D},okDs 2 xs=true->D.fits xs=true
 | [],_=>rfl
 | x :: r,h=>by
  have h:=b2 (show (rK 2 x && okDs 2 r)=true from h)
  show (x.fit && D.fits r)=true
  rw[Ax h.1,okDs_fit h.2];rfl
end
structure Nr (j k p:Nat)(x:D):Prop where
 ok:rK j x=true
 dp:pI x<=p
 wt:x.wt<=k
structure Gl (j k p:Nat)(xs:List D):Prop where
 ln:xs.length<=40+j
 ok:∀ x∈xs,rK j x=true
 dp:∀ x∈xs,pI x<=p
 wt:D.wts xs<=k
theorem sk {p:Nat}:∀ {xs:List D},(∀ x∈xs,pI x<=p)->deps xs<=p
 | [],_=>kT _
 | x :: r,h=>lK.mpr ⟨h x dQ,sk λy hy=>h y (cI _ hy)⟩
theorem Gl.t {j k p:Nat}{xs:List D}(h:Gl j k p xs):Nr j k (p+1) (.tup xs):=⟨okTu.mpr ⟨h.ln,h.ok⟩,fZ (sk h.dp),h.wt⟩
theorem Gl.l {j k p:Nat}{xs:List D}(h:Gl j k p xs):Nr j k (p+1) (.lst xs):=⟨okLi.mpr ⟨h.ln,h.ok⟩,fZ (sk h.dp),h.wt⟩
theorem Nr.t {j k p:Nat}{xs:List D}(h:Nr j k p (.tup xs)):Gl j k (p-1) xs:=⟨(okTu.mp h.ok).1,(okTu.mp h.ok).2,λx hx=>by have:=oY hx;have:deps xs+1<=p:=h.dp;lia,h.wt⟩
theorem Nr.l {j k p:Nat}{xs:List D}(h:Nr j k p (.lst xs)):Gl j k (p-1) xs:=⟨(okLi.mp h.ok).1,(okLi.mp h.ok).2,λx hx=>by have:=oY hx;have:deps xs+1<=p:=h.dp;lia,h.wt⟩
theorem tq:∀ xs ys:List D,D.wts (xs++ys)=D.wts xs+D.wts ys
 | [],ys=>(ki _).symm
 | x :: r,ys=>by
  show x.wt+1+D.wts (r++ys)=x.wt+1+D.wts r+D.wts ys
  rw[tq r ys];lia
theorem zY:∀ xs:List D,D.wts xs.reverse=D.wts xs
 | []=>rfl
 | x :: r=>by
  rw[fq,tq,zY r]
  show D.wts r+(x.wt+1+0)=x.wt+1+D.wts r
  lia
theorem vY (xs:List D) (n:Nat):D.wts (xs.take n)+D.wts (xs.drop n)=D.wts xs:=by rw[<- tq,b9]
theorem Nr.vl {k p:Nat}{x:D}(h:Nr 2 k p x):Vl k p (dF x):=⟨x,rfl,h.dp,Ax h.ok,h.wt⟩
theorem Nr.up {j k p k' p':Nat}{x:D}(h:Nr j k p x)(hk:k<=k')(hp:p<=p'):Nr (j+1) k' p' x:=⟨sH h.ok,kq h.dp hp,kq h.wt hk⟩
theorem Nr.mono {j k p k' p':Nat}{x:D}(h:Nr j k p x)(hk:k<=k')(hp:p<=p'):Nr j k' p' x:=⟨h.ok,kq h.dp hp,kq h.wt hk⟩
theorem Gl.up {j k p k' p':Nat}{xs:List D}(h:Gl j k p xs)(hk:k<=k')(hp:p<=p'):Gl (j+1) k' p' xs:=⟨by have:=h.ln;lia,λx hx=>sH (h.ok x hx),λx hx=>kq (h.dp x hx) hp,kq h.wt hk⟩
theorem xt {u:Int}(h:0<=u):∃ a:Nat,u=a:=⟨u.toNat,by lia⟩
theorem Gl.app {j k k' p:Nat}{xs ys:List D}(h:Gl j k p xs)(g:Gl j k' p ys)(hl:xs.length+ys.length<=40+j):Gl j (k+k') p (xs++ys) :=
 ⟨by rw[dS];exact hl,λx hx=>(ik.mp hx).elim (h.ok x) (g.ok x),λx hx=>(ik.mp hx).elim (h.dp x) (g.dp x),by rw[tq];exact Nat.add_le_add h.wt g.wt⟩
theorem Gl.take {j k p:Nat}{xs:List D}(h:Gl j k p xs) (a:Nat):Gl j (D.wts (xs.take a)) p (xs.take a):=⟨by have:=h.ln;rw[gi];lia,λx hx=>h.ok x (cE hx),λx hx=>h.dp x (cE hx),kW _⟩
theorem Gl.drop {j k p:Nat}{xs:List D}(h:Gl j k p xs) (a:Nat):Gl j (D.wts (xs.drop a)) p (xs.drop a):=⟨by have:=h.ln;rw[gj];lia,λx hx=>h.ok x (cF hx),λx hx=>h.dp x (cF hx),kW _⟩
theorem Gl.rev {j k p:Nat}{xs:List D}(h:Gl j k p xs):Gl j k p xs.reverse:=⟨by rw[c7];exact h.ln,λx hx=>h.ok x (ge.mp hx),λx hx=>h.dp x (ge.mp hx),by rw[zY];exact h.wt⟩
theorem Gl.wtm {j k k' p:Nat}{xs:List D}(h:Gl j k p xs)(hk:k<=k'):Gl j k' p xs:=⟨h.ln,h.ok,h.dp,kq h.wt hk⟩
def Oth (j k p:Nat)(e:FV):Prop:=∃ zs:List D,e=.lst (zs.map dF)/\Gl (j+1) (2*k+150) p zs
theorem Aw {j k p:Nat}{xs:List D}{x:D}(hx:Nr j k p x)(hp:1<=p)(hj:j<=1)(h:Gl j k (p-1) xs)(hl:xs.length<=40+j) (a:Nat)(ha:a<=xs.length){z:D}(hz:rK (j+1) z=true)(hz1:pI z<=p)(hz2:z.wt<=50) :
  ∀ e∈[FV.lst (nT (xs.map dF) none (some (a:Int))++nT (xs.map dF) (some ((a:Int)+1)) none),FV.lst (nT (xs.map dF) none (some (a:Int))++(nT (xs.map dF) (some (a:Int)) (some ((a:Int)+1))++nT (xs.map dF) (some (a:Int)) none)),
   FV.lst (nT (xs.map dF) none (some (a:Int))++dF z :: nT (xs.map dF) (some (a:Int)) none),FV.lst (nT (xs.map dF) none (some (a:Int))++((nT (xs.map dF) (some (a:Int)) (some ((a:Int)+2))).reverse++nT (xs.map dF) (some ((a:Int)+2)) none)),
   FV.lst (xs.map dF).reverse,FV.lst (xs.map dF),FV.lst [dF x],FV.lst []],Oth j k p e:=by
 have c1:nT (xs.map dF) none (some (a:Int))=(xs.take a).map dF:=by rw[zJ,jO]
 have c2:∀ b:Nat,nT (xs.map dF) (some (b:Int)) none=(xs.drop b).map dF:=λb=>by rw[pB,jP]
 have c3:∀ b:Nat,nT (xs.map dF) (some (a:Int)) (some ((a:Int)+(b:Int)))=((xs.drop a).take b).map dF:=λb=>by
  rw[show (a:Int)+(b:Int)=((a+b:Nat):Int) by lia,tH _ ⋯,bn,jO,jP]
 have hw:=h.wt
 have w0:∀ b,D.wts (xs.take b)+D.wts (xs.drop b)=D.wts xs:=vY xs
 have w1:∀ b,D.wts ((xs.drop a).take b)+D.wts (xs.drop (a+b))=D.wts (xs.drop a):=λb=>by have:=vY (xs.drop a) b;rwa [ji] at this
 have g:∀ {zs:List D} {k'},Gl j k' (p-1) zs->k'<=2*k+150->Gl (j+1) (2*k+150) p zs:=λg hk'=>g.up hk' ⋯
 have gz:Gl (j+1) 51 p [z]:=⟨(by show 1<=_;lia),λx hx=>by simp at hx;subst hx;exact hz,λx hx=>by simp at hx;subst hx;exact hz1,by show z.wt+1+0<=51;lia⟩
 intro e he
 simp only[jN,gc,or_false] at he
 rcases he with rfl|rfl|rfl|rfl|rfl|rfl|rfl|rfl
 ·refine⟨xs.take a++xs.drop (a+1),?_,g ((h.take a).app (h.drop (a+1)) (by simp;lia)) ?_⟩
  ·rw[c1,show (a:Int)+1=((a+1:Nat):Int) by lia,c2,il]
  ·have:=w0 a;have:=w1 1;lia
 ·refine⟨xs.take a++((xs.drop a).take 1++xs.drop a),?_,?_⟩
  ·rw[c1,show (a:Int)+1=(a:Int)+((1:Nat):Int) by lia,c3,c2,il,il]
  ·refine (((h.take a).up (k':=D.wts (xs.take a)) (p':=p) (kW _) ⋯).app ((((h.drop a).take 1).up (k':=D.wts ((xs.drop a).take 1)) (p':=p) (kW _) ⋯).app ((h.drop a).up (k':=D.wts (xs.drop a)) (p':=p) (kW _) ⋯) (by simp;lia)) (by simp;lia)).wtm ?_
   have:=w0 a;have:=w1 1;lia
 ·refine⟨xs.take a++([z]++xs.drop a),?_,?_⟩
  ·rw[c1,c2];simp
  ·refine (((h.take a).up (k':=D.wts (xs.take a)) (p':=p) (kW _) ⋯).app (gz.app ((h.drop a).up (k':=D.wts (xs.drop a)) (p':=p) (kW _) ⋯) (by simp;lia)) (by simp;lia)).wtm ?_
   have:=w0 a;lia
 ·refine⟨xs.take a++(((xs.drop a).take 2).reverse++xs.drop (a+2)),?_,g ((h.take a).app (((h.drop a).take 2).rev.app (h.drop (a+2)) (by simp;lia)) (by simp;lia)) ?_⟩
  ·rw[c1,show (a:Int)+2=(a:Int)+((2:Nat):Int) by lia,c3,show (a:Int)+((2:Nat):Int)=((a+2:Nat):Int) by lia,c2,il,il,gf]
  ·have:=w0 a;have:=w1 2;lia
 ·exact⟨xs.reverse,by rw[gf],g h.rev ⋯⟩
 ·exact⟨xs,rfl,g h ⋯⟩
 ·refine⟨[x],rfl,(by show 1<=_;lia),λy hy=>?_,λy hy=>?_,?_⟩
  ·simp at hy;subst hy;exact sH hx.ok
  ·simp at hy;subst hy;exact hx.dp
  ·show x.wt+1+0<=_;have:=hx.wt;lia
 ·exact⟨[],rfl,by simp,λy hy=>(by cases hy),λy hy=>(by cases hy),kT _⟩
theorem Av (d:Nat){j k p:Nat}{n:Int}{v:FV}{x:D}{xs:List D}(hx:x=.tup xs ∨ x=.lst xs)(hs:Lf n v)(hn:n<900000)(h:Nr j k p x)(hj:j<=1){Q:FV×FV->Prop}(q:∀ y v',Nr (j+1) (2*k+160) (p+1) y->Lf (n+3) v'->Q (dF y,v')):callW tb (d+3) 50 [v,dF x] Q:=by
 refine mY (fd:=sZ) rfl rfl ?_
 have G:Gl j k (p-1) xs:=hx.elim (λe=>Nr.t (e ▸ h)) λe=>Nr.l (e ▸ h)
 have hp:1<=p:=by
  have:=h.dp
  rcases hx with rfl|rfl
  ·have:deps xs+1<=p:=this;lia
  ·have:deps xs+1<=p:=this;lia
 have hl:xs.length<=40+j:=G.ln
 have hb:big=100000:=rfl
 have cl:∀ lo hi,(nT (xs.map dF) lo hi).length<=41:=λlo hi=>by have:=A3 (xs.map dF) lo hi;rw[iq] at this;lia
 have fin:∀ {zs:List D}{v':FV},Gl (j+1) (2*k+150) p zs->Lf (n+1+1+1) v'->Q (.lst (zs.map dF),v')/\Q (.tup (zs.map dF),v'):=λ{zs v'} g l=>by
  have l:Lf (n+3) v':=by rw[show n+3=n+1+1+1 by lia];exact l
  have e1:FV.lst (zs.map dF)=dF (.lst zs):=by rw[dF,nj]
  have e2:FV.tup (zs.map dF)=dF (.tup zs):=by rw[dF,nj]
  rw[e1,e2]
  exact⟨q _ _ (g.l.mono ⋯ (kW _)) l,q _ _ (g.t.mono ⋯ (kW _)) l⟩
 rcases hx with rfl|rfl
 ·simp[sZ,yN,dF,nj]
  refine nh (d+1) hs ⋯ ⋯ ⋯ λu v1 u0 u1 l1=>?_
  simp
  refine nh (d+1) l1 ⋯ (by decide) (by decide) λw v2 w0 w1 l2=>?_
  obtain⟨a,rfl⟩:=xt u0
  simp
  refine⟨by lia,by have:=cl none (some a);have:=cl (some (a+1)) none;lia,by have:=cl none (some a);have:=cl (some a) (some (a+1));lia,by have:=cl none (some a);have:=cl (some a) (some (a+1));have:=cl (some a) none;lia,by lia,by lia,?_⟩
  refine oT w0 (by simpa using w1) λz hz=>?_
  obtain⟨z0,rfl,z1,z2,z3⟩:∃ z0,z=dF z0/\rK (j+1) z0=true/\pI z0<=p/\z0.wt<=50:=by
   simp at hz
   rcases hz with rfl|rfl|rfl
   ·exact⟨.int 0,rfl,okIn.mpr (by have:=sd (j+1);lia),kT _,by nofun⟩
   ·exact⟨.non,rfl,rfl,kT _,by nofun⟩
   ·exact⟨.tup [],rfl,rfl,hp,by nofun⟩
  refine⟨by lia,by have:=cl none (some a);lia,by have:=cl none (some a);have:=cl (some a) none;lia,by have:=cl none (some a);have:=cl (some a) (some (a+2));lia,by have:=cl none (some a);have:=cl (some a) (some (a+2));have:=cl (some (a+2)) none;lia,by lia,by lia,by lia,by lia,by lia,?_⟩
  refine nh (d+1) l2 ⋯ (by decide) (by decide) λu3 v3 t0 t1 l3=>?_
  have A:=Aw h hp hj G hl a ⋯ z1 z2 z3
  simp
  rw[show dF (.tup xs)=FV.tup (xs.map dF) by rw[dF,nj]] at A
  refine nI (λ_=>oT t0 (by simpa using t1) λe he=>?_) λ_=>oT t0 (by simpa using t1) λe he=>?_
  ·obtain⟨zs,rfl,gz⟩:=A e he
   exact (fin gz l3).1
  ·obtain⟨zs,rfl,gz⟩:=A e he
   exact (fin gz l3).2
 ·simp[sZ,yN,dF,nj]
  refine nh (d+1) hs ⋯ ⋯ ⋯ λu v1 u0 u1 l1=>?_
  simp
  refine nh (d+1) l1 ⋯ (by decide) (by decide) λw v2 w0 w1 l2=>?_
  obtain⟨a,rfl⟩:=xt u0
  simp
  refine⟨by lia,by have:=cl none (some a);have:=cl (some (a+1)) none;lia,by have:=cl none (some a);have:=cl (some a) (some (a+1));lia,by have:=cl none (some a);have:=cl (some a) (some (a+1));have:=cl (some a) none;lia,by lia,by lia,?_⟩
  refine oT w0 (by simpa using w1) λz hz=>?_
  obtain⟨z0,rfl,z1,z2,z3⟩:∃ z0,z=dF z0/\rK (j+1) z0=true/\pI z0<=p/\z0.wt<=50:=by
   simp at hz
   rcases hz with rfl|rfl|rfl
   ·exact⟨.int 0,rfl,okIn.mpr (by have:=sd (j+1);lia),kT _,by nofun⟩
   ·exact⟨.non,rfl,rfl,kT _,by nofun⟩
   ·exact⟨.tup [],rfl,rfl,hp,by nofun⟩
  refine⟨by lia,by have:=cl none (some a);lia,by have:=cl none (some a);have:=cl (some a) none;lia,by have:=cl none (some a);have:=cl (some a) (some (a+2));lia,by have:=cl none (some a);have:=cl (some a) (some (a+2));have:=cl (some (a+2)) none;lia,by lia,by lia,by lia,by lia,by lia,?_⟩
  refine nh (d+1) l2 ⋯ (by decide) (by decide) λu3 v3 t0 t1 l3=>?_
  have A:=Aw h hp hj G hl a ⋯ z1 z2 z3
  simp
  rw[show dF (.lst xs)=FV.lst (xs.map dF) by rw[dF,nj]] at A
  refine nI (λ_=>oT t0 (by simpa using t1) λe he=>?_) λ_=>oT t0 (by simpa using t1) λe he=>?_
  ·obtain⟨zs,rfl,gz⟩:=A e he
   exact (fin gz l3).2
  ·obtain⟨zs,rfl,gz⟩:=A e he
   exact (fin gz l3).1
theorem IN (d:Nat){j k p:Nat}{n:Int}{v:FV}{x:D}(hs:Lf n v)(hn:n<900000)(h:Nr j k p x)(hj:j<=1)(hk:k<=30000){Q:FV×FV->Prop}(q:∀ y v',Nr (j+1) (2*k+160) (p+1) y->Lf (n+3) v'->Q (dF y,v')):callW tb (d+3) 50 [v,dF x] Q:=by
 have hb:big=100000:=rfl
 have pb:=sd j
 have pu:=zd j
 have q1:∀ e v',(∃ y,e=dF y/\Nr (j+1) (2*k+160) (p+1) y)->Lf (n+1) v'->Q (e,v'):=λe v' ⟨y,e1,hy⟩ l=>by rw[e1];exact q y v' hy (l.mono ⋯)
 have qi:∀ i:Int,-(2 ^ (148+(j+1)))<i->i<2 ^ (148+(j+1))->∃ y,FV.int i=dF y/\Nr (j+1) (2*k+160) (p+1) y:=λi h1 h2=>⟨.int i,rfl,okIn.mpr ⟨h1,h2⟩,kT _,by show (if _ then _ else _)<=_;split<;>lia⟩
 have qb:∀ b:Bool,∃ y,FV.bl b=dF y/\Nr (j+1) (2*k+160) (p+1) y:=λb=>⟨.bl b,rfl,rfl,kT _,kT _⟩
 have qn:∃ y,FV.non=dF y/\Nr (j+1) (2*k+160) (p+1) y:=⟨.non,rfl,rfl,kT _,kT _⟩
 have qs:∀ s:String,s.length<=k+160->∃ y,FV.str s=dF y/\Nr (j+1) (2*k+160) (p+1) y:=λs hs=>⟨.str s,rfl,rfl,kT _,by show s.length<=_;lia⟩
 have qt:∀ z:D,Nr j k p z->(∃ y,FV.tup [dF z]=dF y/\Nr (j+1) (2*k+160) (p+1) y)/\∃ y,FV.lst [dF z]=dF y/\Nr (j+1) (2*k+160) (p+1) y:=λz hz=>by
  have g:Gl (j+1) (2*k+160) p [z]:=⟨(by show 1<=_;lia),λy hy=>(by simp at hy;subst hy;exact sH hz.ok),λy hy=>(by simp at hy;subst hy;exact hz.dp),(by show z.wt+1+0<=_;have:=hz.wt;lia)⟩
  exact⟨⟨.tup [z],rfl,g.t⟩,⟨.lst [z],rfl,g.l⟩⟩
 cases x with
 | tup xs=>exact Av d (.inl rfl) hs hn h hj q
 | lst xs=>exact Av d (.inr rfl) hs hn h hj q
 | str x =>
  have hw:x.length<=k:=h.wt
  refine mY (fd:=sZ) rfl rfl ?_
  simp[sZ,yN,dF]
  refine⟨by lia,by rw[show "s".length=1 from rfl];lia,by lia,by lia,?_⟩
  refine nh d hs ⋯ (by decide) (by decide) λu v1 u0 u1 l1=>?_
  simp only[yk,Bs]
  refine oT u0 u1 λe he=>q1 e v1 ?_ l1
  simp only[jN,gc,or_false] at he
  rcases he with rfl|rfl|rfl|rfl|rfl|rfl|rfl|rfl
  ·exact qs "keep" (by rw[show "keep".length=4 from rfl];lia)
  ·exact qs "put" (by rw[show "put".length=3 from rfl];lia)
  ·refine qs _ ?_
   unfold tL
   rw[cz,gj,cy];lia
  ·refine qs _ ?_
   rw[String.length_append,show "s".length=1 from rfl];lia
  ·exact qn
  ·exact (qt _ h).1
  ·exact (qt _ h).2
  ·exact qi 0 ⋯ ⋯
 | non =>
  refine mY (fd:=sZ) rfl rfl ?_
  simp[sZ,yN,dF]
  refine⟨by lia,by lia,?_⟩
  refine nh d hs ⋯ (by decide) (by decide) λu v1 u0 u1 l1=>?_
  simp only[yk,Bs]
  refine oT u0 u1 λe he=>q1 e v1 ?_ l1
  simp only[jN,gc,or_false] at he
  rcases he with rfl|rfl|rfl|rfl|rfl|rfl
  ·exact qi 0 ⋯ ⋯
  ·exact qi 1 ⋯ ⋯
  ·exact qb _
  ·exact qs "" (kT _)
  ·exact (qt _ h).1
  ·exact qi (-1) ⋯ ⋯
 | int i =>
  have hi:=okIn.mp h.ok
  have p9:(2:Int) ^ (148+j)<=2 ^ 149:=by
   rcases (show j=0 ∨ j=1 by lia) with rfl|rfl<;>decide
  have p0:(2:Int) ^ 149<2 ^ 150:=by decide
  have ts:xD (.int i)=some (.str (toString i)):=if_pos ⟨by lia,by lia⟩
  have tl:=wc (i:=i) ⋯ ⋯
  refine mY (fd:=sZ) rfl rfl ?_
  simp[sZ,yN,dF]
  refine⟨by lia,?_⟩
  rw[show FV.tup [FV.int 0,FV.int 1]=.tup ([0,1].map .int) from rfl,AK,ts]
  simp only[oo]
  refine nI (λ_=>?_) λ_=>?_
  all_goals
   refine⟨by lia,by lia,.inr (by decide),by lia,by lia,?_⟩
   refine nh d hs ⋯ (by decide) (by decide) λu v1 u0 u1 l1=>?_
   simp only[yk,Bs]
   refine oT u0 u1 λe he=>q1 e v1 ?_ l1
   simp only[jN,gc,or_false] at he
   rcases he with rfl|rfl|rfl|rfl|rfl|rfl|rfl|rfl|rfl|rfl|rfl|rfl
   all_goals first
    | exact qi _ ⋯ ⋯
    | exact qb _
    | exact qn
    | exact qs _ ⋯
    | exact (qt _ h).1
 | bl b =>
  have bo:0<=EJ b/\EJ b<=1:=by cases b<;>decide
  obtain⟨r,hr⟩:∃ r,DW (.bl b) (.tup [.int 0,.int 1])=some r:=⟨_,rfl⟩
  obtain⟨r2,hr2⟩:∃ r,sU (.bl b) (.int 1)=some r:=⟨_,rfl⟩
  have ts:xD (.bl b)=some (.str (if b then "True" else "False")):=rfl
  have tl:(if b then "True" else "False").length<=5:=by cases b<;>decide
  refine mY (fd:=sZ) rfl rfl ?_
  simp[sZ,yN,dF]
  refine⟨by lia,?_⟩
  rw[hr,hr2,ts]
  simp only[oo]
  refine nI (λ_=>?_) λ_=>?_
  all_goals
   refine⟨by lia,by lia,by lia,by lia,?_⟩
   refine nh d hs ⋯ (by decide) (by decide) λu v1 u0 u1 l1=>?_
   simp only[yk,Bs]
   refine oT u0 u1 λe he=>q1 e v1 ?_ l1
   simp only[jN,gc,or_false] at he
   rcases he with rfl|rfl|rfl|rfl|rfl|rfl|rfl|rfl|rfl|rfl|rfl|rfl
   all_goals first
    | exact qi _ ⋯ ⋯
    | exact qb _
    | exact qn
    | exact qs _ ⋯
    | exact (qt _ h).1
def wN:D->List D
 | .tup xs=>xs
 | .lst xs=>xs
 | _=>[]
mutual
noncomputable def oE:D->List (List Nat)
 | .tup xs=>[] :: pathsL 0 xs
 | .lst xs=>[] :: pathsL 0 xs
 | .non=>[[]]|.bl _=>[[]]|.int _=>[[]]|.str _=>[[]]
noncomputable def pathsL:Nat->List D->List (List Nat)
 | _,[]=>[]
 | i,x :: r=>(oE x).map (i :: ·)++pathsL (i+1) r
end
theorem tY:∀ (xs:List D) (i:Nat)(x:D),pathsL i (xs++[x])=pathsL i xs++(oE x).map ((i+xs.length) :: ·)
 | [],i,x=>by show (oE x).map (i :: ·)++[]=[]++_;rw[iA,ii];rfl
 | y :: r,i,x=>by
  show (oE y).map (i :: ·)++pathsL (i+1) (r++[x])=((oE y).map (i :: ·)++pathsL (i+1) r)++_
  rw[tY r (i+1) x,fB,gm,show i+1+r.length=i+(r.length+1) by lia]
theorem rN:∀ {xs:List D}{i:Nat}{p:List Nat},p∈pathsL i xs->∃ k r y,p=(i+k) :: r/\xs[k]?=some y/\r∈oE y
 | [],i,p,h=>by cases h
 | x :: xs,i,p,h=>by
  rcases ik.mp h with h|h
  ·obtain⟨r,hr,rfl⟩:=kC.mp h
   exact⟨0,r,x,rfl,rfl,hr⟩
  ·obtain⟨k,r,y,e1,e2,e3⟩:=rN h
   exact⟨k+1,r,y,by rw[e1,show i+1+k=i+(k+1) by lia],e2,e3⟩
mutual
theorem sG:∀ x:D,(oE x).length<=x.wt+1
 | .tup xs=>by have:=pathsL_len xs 0;show (pathsL 0 xs).length+1<=D.wts xs+1;lia
 | .lst xs=>by have:=pathsL_len xs 0;show (pathsL 0 xs).length+1<=D.wts xs+1;lia
 | .non=>hX ..|.bl _=>hX ..|.int _=>hX ..|.str _=>hX ..
theorem pathsL_len:∀ (xs:List D) (i:Nat),(pathsL i xs).length<=D.wts xs
 | [],_=>kT _
 | x :: r,i=>by
  have h1:=sG x
  have h2:=pathsL_len r (i+1)
  show ((oE x).map (i :: ·)++pathsL (i+1) r).length<=x.wt+1+D.wts r
  rw[dS,iq];lia
end
theorem BH:∀ (n:Nat)(x:D),pI x<=n->∀ p∈oE x,p.length<=n
 | n,x,h,p,hp=>by
  induction n generalizing x p with
  | zero =>
   cases x with
   | tup xs=>exact absurd (show deps xs+1<=0 from h) ⋯
   | lst xs=>exact absurd (show deps xs+1<=0 from h) ⋯
   | _=>simp[oE] at hp;subst hp;exact kW _
  | succ n ih =>
   have go:∀ xs:List D,deps xs+1<=n+1->p∈[] :: pathsL 0 xs->p.length<=n+1:=λxs h hp=>by
    rcases jN.mp hp with rfl|hp
    ·exact kT _
    ·obtain⟨k,r,y,rfl,e2,e3⟩:=rN hp
     have:=ih y (kq (oY (cG e2)) ⋯) r e3
     rw[gm];lia
   cases x with
   | tup xs=>exact go xs h hp
   | lst xs=>exact go xs h hp
   | _=>simp[oE] at hp;subst hp;exact kT _
theorem vh:∀ (d:Nat)(x:D){Q:FV×FV->Prop},pI x<d->pI x<=1000->x.wt<=40000->Q (.lst ((oE x).map o7),.non)->callW tb d 47 [dF x] Q
 | 0,x,Q,h,_,_,_=>absurd h (gZ _)
 | d+1,x,Q,h,h1,h2,q=>by
  refine mY (fd:=fd47) rfl rfl ?_
  have hb:big=100000:=rfl
  have go:∀ (xs:List D)(e:FV),deps xs<d->deps xs<=1000->D.wts xs<=40000->Q (.lst (([] :: pathsL 0 xs).map o7),.non)->(e=.tup (xs.map dF) ∨ e=.lst (xs.map dF))->fd47.body (callW tb d) (List.map some [e]++jc (fd47.ns-fd47.np) none) (sO fd47.io fd47.fr Q):=λxs e h h1 h2 q he=>by
   have hz:oX (sQ 0 xs.length) (xs.map dF)=(lL xs.length).map λi:Nat=>FV.tup [.int (i:Int),dF (xs.getD i .non)]:=by
    rw[oU]
    apply gr
    ·simp[oX]
    ·intro i g1 g2
     simp[oX] at g1 ⊢
     rw[aX g1];rfl
   have wl:=rh xs
   rcases he with rfl|rfl
   all_goals
    simp[fd47,GM]
    refine⟨by lia,?_⟩
    rw[hz]
    refine qf (f:=λi:Nat=>FV.tup [.int (i:Int),dF (xs.getD i .non)]) (I:=λdn L=>∃ a b e,L=[some e,some (.lst (([] :: pathsL 0 (xs.take dn.length)).map o7)),a,b]) (lL xs.length) (lL xs.length) [] _ rfl ⟨_,_,_,rfl⟩ ?_ ?_
    ·rintro dd i r L K e ⟨a,b,e0,rfl⟩ hK
     have hi:i<xs.length:=je.mp (by rw[e];simp)
     have hdd:dd.length=i:=by
      have g:(lL xs.length)[dd.length]?=some i:=by rw[e,az (kW _),Nat.sub_self];rfl
      obtain⟨g1,g2⟩:=aI.mp g
      rwa [List.getElem_range] at g2
     have hx:xs.getD i .non∈xs:=by rw[aA,aX hi];exact gn hi
     have hd:=oY hx
     have hw:=rV hx
     have hpl:=sG (xs.getD i .non)
     have hdep:=BH _ (xs.getD i .non) (kW _)
     have hpt:=pathsL_len (xs.take dd.length) 0
     have hwt:=vY xs dd.length
     have htk:pathsL 0 (xs.take (dd++[i]).length)=pathsL 0 (xs.take dd.length)++(oE (xs.getD i .non)).map (i :: ·):=by
      rw[dS,cb,ae ⋯,tY]
      congr 1
      rw[aA,aX hi,fW,gi]
      simp only[hdd,ki,hW (kr hi)]
     generalize xs.getD i .non=y at hx hd hw hpl hdep htk ⊢
     simp
     refine vh d y ⋯ ⋯ ⋯ ?_
     simp
     refine⟨by lia,?_⟩
     refine nD (f:=o7) (g:=λp=>o7 (i :: p)) (oE y) [] (λp hp K k=>?_) ?_
     ·have:=hdep p hp
      obtain⟨us,e1,e2,e3⟩:∃ us,o7 p=.tup us/\us.length=p.length/\o7 (i :: p)=.tup (.int i :: us):=⟨_,rfl,iq ..,rfl⟩
      rw[e3] at k
      rw[e1]
      simp
      exact⟨by lia,by lia,k⟩
     ·rw[ii]
      simp
      refine⟨by lia,hK _ ⟨some (.int i),some (dF y),e0,?_⟩⟩
      rw[htk]
      simp[fE]
    ·rintro L ⟨a,b,e0,rfl⟩
     rw[fw,ga]
     simp
     exact q
  cases x with
  | tup xs =>
   have g1:deps xs+1<d+1:=h
   have g2:deps xs+1<=1000:=h1
   exact go xs _ ⋯ ⋯ h2 q (.inl (by rw[dF,nj]))
  | lst xs =>
   have g1:deps xs+1<d+1:=h
   have g2:deps xs+1<=1000:=h1
   exact go xs _ ⋯ ⋯ h2 q (.inr (by rw[dF,nj]))
  | _ =>
   simp[fd47,GM,dF,hb]
   exact q
def at':D->List Nat->Option D
 | x,[]=>some x
 | x,i :: r=>(wN x)[i]?.bind λy=>at' y r
def pt:List Nat->D->D->D
 | [],_,y=>y
 | i :: r,.tup xs,y=>.tup (xs.set i (pt r (xs.getD i .non) y))
 | i :: r,.lst xs,y=>.lst (xs.set i (pt r (xs.getD i .non) y))
 | _ :: _,x,_=>x
theorem xR:∀ (p:List Nat)(x:D),p∈oE x->∃ y,at' x p=some y
 | [],x,_=>⟨x,rfl⟩
 | i :: r,x,h=>by
  have go:∀ xs:List D,wN x=xs->i :: r∈[] :: pathsL 0 xs->∃ y,at' x (i :: r)=some y:=λxs e h=>by
   rcases jN.mp h with h|h
   ·cases h
   ·obtain⟨k,q,y,e1,e2,e3⟩:=rN h
    rw[ki] at e1
    cases e1
    obtain⟨z,hz⟩:=xR r y e3
    exact⟨z,by show (wN x)[i]?.bind _=_;rw[e,e2];exact hz⟩
  cases x with
  | tup xs=>exact go xs rfl h
  | lst xs=>exact go xs rfl h
  | _=>simp[oE] at h
theorem HB {j k:Nat}:∀ (q:List Nat)(x y:D) (p:Nat),at' x q=some y->Nr j k p x->Nr j k p y/\pI y+q.length<=pI x
 | [],x,y,p,e,h=>by cases e;exact⟨h,kW _⟩
 | i :: r,x,y,p,e,h=>by
  have go:∀ xs:List D,wN x=xs->(∀ z∈xs,rK j z=true)->deps xs+1=pI x->D.wts xs=x.wt->Nr j k p y/\pI y+(i :: r).length<=pI x:=λxs e0 h1 h2 h3=>by
   obtain⟨z,e1,e2⟩:=oz (show (wN x)[i]?.bind (λy=>at' y r)=some y from e)
   rw[e0] at e1
   have hz:=cG e1
   have:=oY hz
   have:=rV hz
   have:=h.dp
   have:=h.wt
   obtain⟨g1,g2⟩:=HB (j:=j) (k:=k) r z y p e2 ⟨h1 z hz,by lia,by lia⟩
   exact⟨g1,by rw[gm];lia⟩
  cases x with
  | tup xs=>exact go xs rfl (okTu.mp h.ok).2 rfl rfl
  | lst xs=>exact go xs rfl (okLi.mp h.ok).2 rfl rfl
  | _=>obtain⟨z,e1,e2⟩:=oz (show ([]:List D)[i]?.bind (λy=>at' y r)=some y from e);cases e1
theorem IL (d:Nat){x y:D}{p:List Nat}(h:at' x p=some y){Q:FV×FV->Prop}(q:Q (dF y,.non)):callW tb (d+1) 48 [dF x,o7 p] Q:=by
 refine mY (fd:=Jr) rfl rfl ?_
 simp[Jr,Km]
 rw[show ∀ Q:List FV->Prop,wp (oV (o7 p)) Q↔Q (p.map λi:Nat=>FV.int i) from λ_=>mf]
 refine qf (f:=λi:Nat=>FV.int i) (I:=λdn L=>∃ z a,at' z (p.drop dn.length)=some y/\L=[some (dF z),some (o7 p),a]) p p [] _ rfl ⟨x,none,h,rfl⟩ ?_ ?_
 ·rintro dd i r L K e ⟨z,a,hz,rfl⟩ hK
  have hi:p.drop dd.length=i :: r:=by rw[e,List.drop_left]
  rw[hi] at hz
  obtain⟨z1,e1,e2⟩:=oz (show (wN z)[i]?.bind (λy=>at' y r)=some y from hz)
  have hK':=hK [some (dF z1),some (o7 p),some (.int i)] ⟨z1,_,by rw[dS,cb,<- ji,hi];exact e2,rfl⟩
  cases z with
  | tup xs =>
   simp[dF,nj]
   rw[nN rfl (v:=dF z1) (by rw[fx,show xs[i]?=some z1 from e1];rfl)]
   exact hK'
  | lst xs =>
   simp[dF,nj]
   rw[nN rfl (v:=dF z1) (by rw[fx,show xs[i]?=some z1 from e1];rfl)]
   exact hK'
  | _=>cases (show ([]:List D)[i]?=some z1 from e1)
 ·rintro L ⟨z,a,hz,rfl⟩
  rw[List.drop_length] at hz
  cases hz
  simp
  exact q
theorem zX:∀ (xs:List D) (i:Nat)(z w:D),xs[i]?=some z->D.wts (xs.set i w)+z.wt=D.wts xs+w.wt
 | [],i,z,w,h=>by cases h
 | x :: r,0,z,w,h=>by
  cases h
  show w.wt+1+D.wts r+x.wt=x.wt+1+D.wts r+w.wt
  lia
 | x :: r,i+1,z,w,h=>by
  have:=zX r i z w h
  show x.wt+1+D.wts (r.set i w)+z.wt=x.wt+1+D.wts r+w.wt
  lia
theorem Hj {j:Nat}:∀ (p:List Nat)(x z y:D),at' x p=some z->rK j x=true->rK (j+1) y=true->pI y<=pI z+1->rK (j+1) (pt p x y)=true/\pI (pt p x y)<=pI x+1/\(pt p x y).wt+z.wt=x.wt+y.wt
 | [],x,z,y,e,h1,h2,h3=>by cases e;exact⟨h2,h3,kA ..⟩
 | i :: r,x,z,y,e,h1,h2,h3=>by
  have go:∀ xs:List D,wN x=xs->xs.length<=40+j->(∀ z∈xs,rK j z=true)->((xs.set i (pt r (xs.getD i .non) y)).length<=40+(j+1)/\∀ u∈xs.set i (pt r (xs.getD i .non) y),rK (j+1) u=true)/\deps (xs.set i (pt r (xs.getD i .non) y))<=deps xs+1/\D.wts (xs.set i (pt r (xs.getD i .non) y))+z.wt=D.wts xs+y.wt:=λxs e0 g0 g1=>by
   obtain⟨u,e1,e2⟩:=oz (show (wN x)[i]?.bind (λy=>at' y r)=some z from e)
   rw[e0] at e1
   have hu:=cG e1
   rw[aA,e1,fW]
   obtain⟨k1,k2,k3⟩:=Hj r u z y e2 (g1 u hu) h2 h3
   have hd:=oY hu
   refine⟨⟨by rw[im];lia,λv hv=>?_⟩,sk λv hv=>?_,?_⟩
   ·rcases aH hv with hv|rfl
    ·exact sH (g1 v hv)
    ·exact k1
   ·rcases aH hv with hv|rfl
    ·have:=oY hv;lia
    ·lia
   ·have:=zX xs i u (pt r u y) e1
    lia
  cases x with
  | tup xs =>
   obtain⟨a,b,c⟩:=go xs rfl (okTu.mp h1).1 (okTu.mp h1).2
   exact⟨okTu.mpr a,fZ b,c⟩
  | lst xs =>
   obtain⟨a,b,c⟩:=go xs rfl (okLi.mp h1).1 (okLi.mp h1).2
   exact⟨okLi.mpr a,fZ b,c⟩
  | _=>obtain⟨z,e1,e2⟩:=oz (show ([]:List D)[i]?.bind (λy=>at' y r)=some z from e);cases e1
theorem tz (p:List Nat)(R:Bool->Prop):wp (sU (o7 p) (.tup [])) R↔R p.isEmpty:=by
 have hd:∀ l:List Nat,deps (l.map λi:Nat=>D.int i)=0:=λl=>by induction l with|nil=>rfl|cons x r ih=>exact (by show max 0 _=0;rw[ih];rfl)
 have e:o7 p=.tup (dFs (p.map λi:Nat=>D.int i)):=by rw[nj,kG];rfl
 rw[e,D9 (by rw[hd];decide)]
 cases p<;>exact mf
theorem sE:∀ (p:List Nat) (d:Nat)(x z y:D){Q:FV×FV->Prop},at' x p=some z->Q (dF (pt p x y),.non)->callW tb (d+p.length+1) 49 [dF x,o7 p,dF y] Q
 | [],d,x,z,y,Q,h,q=>by
  refine mY (fd:=B6) rfl rfl ?_
  simp[B6,Ev,tz]
  exact q
 | i :: r,d,x,z,y,Q,h,q=>by
  obtain⟨u,e1,e2⟩:=oz (show (wN x)[i]?.bind (λy=>at' y r)=some z from h)
  refine mY (fd:=B6) rfl rfl ?_
  cases x with
  | tup xs =>
   simp[B6,Ev,tz,dF,nj]
   rw[show o7 (i :: r)=FV.tup (.int i :: r.map λi:Nat=>.int i) from rfl]
   simp
   rw[nN rfl (v:=dF u) (by rw[fx,show xs[i]?=some u from e1];rfl),show nT (FV.int (i:Int) :: r.map λi:Nat=>FV.int i) (some 1) none=r.map λi:Nat=>FV.int i from pB _ 1]
   have hi:i<xs.length:=(aI.mp (show xs[i]?=some u from e1)).1
   refine sE r d u z y e2 ?_
   simp
   rw[sK rfl hi]
   rw[<- kE]
   rw[show pt (i :: r) (.tup xs) y=.tup (xs.set i (pt r (xs.getD i .non) y)) from rfl,aA,show xs[i]?=some u from e1,fW,dF,nj] at q
   exact q
  | lst xs =>
   simp[B6,Ev,tz,dF,nj]
   rw[show o7 (i :: r)=FV.tup (.int i :: r.map λi:Nat=>.int i) from rfl]
   simp
   rw[nN rfl (v:=dF u) (by rw[fx,show xs[i]?=some u from e1];rfl),show nT (FV.int (i:Int) :: r.map λi:Nat=>FV.int i) (some 1) none=r.map λi:Nat=>FV.int i from pB _ 1]
   have hi:i<xs.length:=(aI.mp (show xs[i]?=some u from e1)).1
   refine sE r d u z y e2 ?_
   simp
   rw[sK rfl hi]
   rw[<- kE]
   rw[show pt (i :: r) (.lst xs) y=.lst (xs.set i (pt r (xs.getD i .non) y)) from rfl,aA,show xs[i]?=some u from e1,fW,dF,nj] at q
   exact q
  | _=>cases (show ([]:List D)[i]?=some u from e1)
def Eu (call:CW):SW:=mZ (m7 (nU 7 1 (qU (m4 call 47 (mU (mT 1) mW))) (.nm 7) (tI (nk (mX uY (mT 7) (oC mW))) (nk (mT 2))) (mT 7)) (.nm 5)) (mZ (m7 (AT (zR (nk (mX qI (mT 3) (eC (.int 0)))) (nk (mX qI (mT 4) (eC (.int 0))))) (mX nK (mT 5) (nE BM (eC (.int 1)))) (mX nK (mT 5) (m5 call 33 0 (mU (nE ox (mT 5)) mW)))) (.nm 6)) (m7 (m4 call 49 (mU (mT 1) (mU (mT 6) (mU (m5 call 50 0 (mU (m4 call 48 (mU (mT 1) (mU (mT 6) mW))) mW)) mW)))) (.nm 1)))
theorem GI (call:CW):Kl call=mZ (ql (qV (mX m8 (eC (.int 1)) (nE sx (pX (mX EI (mT 3) (eC (.int 1))) (mX qI (m5 call 33 0 (mU (eC (.int 3)) mW)) (eC (.int 0))))))) (.nm 4) (Eu call)) (nq (mT 1)):=rfl
def Tri (al:Bool)(x:D):Prop:=al=true ∨ ∃ a b c,x=.tup [a,b,c]
theorem Tri.pt {al:Bool}{x y:D}{p:List Nat}(h:Tri al x)(hp:al=true ∨ p≠[]):Tri al (pt p x y):=by
 rcases hp with hp|hp
 ·exact .inl hp
 rcases h with h|⟨a,b,c,rfl⟩
 ·exact .inl h
 ·cases p with
  | nil=>exact absurd rfl hp
  | cons i r =>
   right
   rcases i with _|_|_|i
   ·exact⟨_,_,_,rfl⟩
   ·exact⟨_,_,_,rfl⟩
   ·exact⟨_,_,_,rfl⟩
   ·exact⟨_,_,_,rfl⟩
theorem E3 (d:Nat){n:Int}{v:FV}{x:D}{al:Bool}{turn i:Int}{a0 b0:Option FV}{j k p:Nat}(hs:Lf n v)(h0:0<=n)(hn:n<800000)(hp:p<=8)(hj:j<=1)(hk:k<=30000)(h:Nr j k p x)(h3:Tri al x){K:mV->Prop}{Q:FFl->mV->Prop}
  (hK:∀ y v' a b,Nr (j+1) (2*k+160) (p+1) y->Tri al y->Lf (n+4) v'->K [some v',some (dF y),some (.bl al),some (.int turn),some (.int i),a,b]):Eu (callW tb (d+11)) [some v,some (dF x),some (.bl al),some (.int turn),some (.int i),a0,b0] (rZ K Q):=by
 have hb:big=100000:=rfl
 have hl:=sG x
 have hw:=h.wt
 have hd:=h.dp
 simp[Eu]
 refine vh (d+11) x ⋯ ⋯ ⋯ ?_
 simp
 refine⟨by lia,?_⟩
 refine qZ (f:=o7) (g:=o7) (p:=λq=>!q.isEmpty || al) (oE x) [] (λq hq K k1 k2=>?_) ?_
 ·simp
  intro k3
  rw[tz]
  cases q with
  | nil =>
   cases al with
   | true=>exact k2 rfl
   | false=>exact k3 rfl rfl
  | cons i r=>exact k2 rfl
 ·rw[ii]
  have hf:∀ q∈(oE x).filter λq=>!q.isEmpty || al,q∈oE x/\(al=true ∨ q≠[]):=λq hq=>by
   obtain⟨g1,g2⟩:=ij.mp hq
   refine⟨g1,?_⟩
   rcases Bool.or_eq_true_iff.mp g2 with g|g
   ·right
    intro z;rw[z] at g;cases g
   ·exact .inl g
  have hne:1<=((oE x).filter λq=>!q.isEmpty || al).length:=by
   rcases h3 with h3|⟨a,b,c,rfl⟩
   ·refine bM (a:=[]) (ij.mpr ⟨?_,by rw[h3];rfl⟩)
    cases x<;>exact dQ
   ·refine bM (a:=[0]) (ij.mpr ⟨?_,rfl⟩)
    refine cI _ (cJ _ (kC.mpr ⟨[],?_,rfl⟩))
    cases a<;>exact dQ
  have hfl:((oE x).filter λq=>!q.isEmpty || al).length<=(oE x).length:=List.length_filter_le ..
  generalize (oE x).filter (λq=>!q.isEmpty || al)=fs at hf hne hfl ⊢
  have go:∀ (z:FV)(v1:FV)(e:FV),z∈fs.map o7->Lf (n+1) v1->callW tb (d+11) 48 [dF x,z] λz1 =>
    callW tb (d+11) 50 [v1,z1.1] λz2 =>
     callW tb (d+11) 49 [dF x,z,z2.1] λz3=>K [some z2.2,some z3.1,some (.bl al),some (.int turn),some (.int i),some e,some z]:=λz v1 e hz l1=>by
   obtain⟨q,hq,rfl⟩:=kC.mp hz
   obtain⟨g1,g2⟩:=hf q hq
   obtain⟨y,hy⟩:=xR q x g1
   obtain⟨y1,y2⟩:=HB q x y p hy h
   refine IL (d+10) hy ?_
   have hN:Nr j y.wt (pI y) y:=⟨y1.ok,kW _,kW _⟩
   refine IN (d+8) l1 ⋯ hN hj (by have:=y1.wt;lia) λw v2 w1 l2=>?_
   have:=w1.wt
   have:=y1.wt
   have:=w1.dp
   obtain⟨k1,k2,k3⟩:=Hj q x y w hy h.ok w1.ok ⋯
   have e9:d+11=(d+10-q.length)+q.length+1:=by lia
   rw[e9]
   refine sE q _ x y w hy ?_
   refine hK _ _ _ _ ⟨k1,by lia,by lia⟩ (h3.pt g2) (by rw[show n+4=n+1+3 by lia];exact l2)
  simp
  have pk:callW tb (d+11) 33 [v,.int fs.length] λz=>wp (nK (.lst (fs.map o7)) z.1) λz1 =>
    callW tb (d+11) 48 [dF x,z1] λz2=>callW tb (d+11) 50 [z.2,z2.1] λz3 =>
     callW tb (d+11) 49 [dF x,z1,z3.1] λz4=>K [some z3.2,some z4.1,some (.bl al),some (.int turn),some (.int i),some (.lst (fs.map o7)),some z1]:=by
   refine nh (d+9) hs ⋯ ⋯ ⋯ λu v1 u0 u1 l1=>?_
   simp only[yk,Bs]
   exact oT u0 (by simpa using u1) λz hz=>go z v1 _ hz l1
  refine nI (λ_=>nI (λ_=>?_) λ_=>pk) λ_=>pk
  obtain⟨fs',l,e⟩:∃ fs' l,fs=fs'++[l]:=by
   rcases List.eq_nil_or_concat fs with rfl|⟨a,b,e⟩
   ·cases hne
   ·exact⟨a,b,by rw[e,List.concat_eq_append]⟩
  have g:=go (o7 l) v (.lst (fs.map o7)) (kC.mpr ⟨l,by rw[e];simp,rfl⟩) (hs.mono ⋯)
  generalize hF:FV.lst (fs.map o7)=F at g ⊢
  rw[e,il,dR,A7]
  exact g
theorem Bt (d:Nat){n:Int}{v:FV}{x:D}{al:Bool}{turn:Int}(hs:Lf n v)(h0:0<=n)(hn:n<700000){p:Nat}(hp:p<=5)(h:Nr 0 12000 p x)(h3:Tri al x){Q:FV×FV->Prop}
  (q:∀ y v',Nr 2 48480 (p+2) y->Tri al y->Lf (n+20) v'->Q (dF y,v')):callW tb (d+12) 54 [v,dF x,.bl al,.int turn] Q:=by
 refine mY (fd:=Jq) rfl rfl ?_
 have loop:∀ (t:Nat)(v1:FV),t<=2->Lf (n+1) v1->u6 (.nm 4) (Eu (callW tb (d+11))) (sQ 0 t) [some v1,some (dF x),some (.bl al),some (.int turn),none,none,none] (K7 (λL1=>wp (lk L1 1) λx=>wp (lk L1 0) λx_1=>Q (x,x_1)) (sO true false Q)):=λt v1 ht l1=>by
  refine oH (I:=λm L=>∃ y v2 a b c,m<=2/\Nr m (12160*2 ^ m-160) (p+m) y/\Tri al y/\Lf (n+1+4*m) v2/\L=[some v2,some (dF y),some (.bl al),some (.int turn),a,b,c]) t 0 _ ⟨x,v1,none,none,none,by lia,h,h3,by simpa using l1,rfl⟩ ?_ ?_
  ·rintro m L K h1 h2 ⟨y,v2,a,b,c,hm,hy,ht3,l2,rfl⟩ hK
   simp
   have hm1:m<=1:=by lia
   have e:2*(12160*2 ^ m-160)+160=12160*2 ^ (m+1)-160:=by
    rcases (show m=0 ∨ m=1 by lia) with rfl|rfl<;>decide
   have e2:12160*2 ^ m-160<=30000:=by
    rcases (show m=0 ∨ m=1 by lia) with rfl|rfl<;>decide
   refine E3 d l2 ⋯ ⋯ ⋯ hm1 e2 hy ht3 λz v3 a b hz hz3 l3=>hK _ ⟨z,v3,_,_,_,by lia,by rw[<- e];exact hz,hz3,l3.mono (by push_cast;lia),rfl⟩
  ·rintro L ⟨y,v2,a,b,c,hm,hy,ht3,l2,rfl⟩
   simp
   have hy:Nr 2 48480 (p+2) y:=by
    rcases (show t=0 ∨ t=1 ∨ t=2 by lia) with rfl|rfl|rfl
    ·exact (hy.up (by decide) (kW _)).up (kW _) ⋯
    ·exact hy.up (by decide) ⋯
    ·exact hy
   exact q y v2 hy ht3 (l2.mono ⋯)
 simp[Jq,GI]
 have end1:∀ (c:Prop) [Decidable c] (v1:FV),Lf (n+1) v1->oJ (1+if c then 1 else 0)=true/\u6 (.nm 4) (Eu (callW tb (d+11))) (sQ 0 (1+if c then 1 else 0:Int).toNat) [some v1,some (dF x),some (.bl al),some (.int turn),none,none,none] (K7 (λL1=>wp (lk L1 1) λx=>wp (lk L1 0) λx_1=>Q (x,x_1)) (sO true false Q)):=λc _ v1 l1=>by
  by_cases hc:c
  ·rw[if_pos hc]
   exact⟨nu ⋯ ⋯,loop 2 v1 ⋯ l1⟩
  ·rw[if_neg hc]
   exact⟨nu ⋯ ⋯,loop 1 v1 ⋯ l1⟩
 refine nI (λ_=>?_) λ_=>end1 _ v (hs.mono ⋯)
 refine nh (d+9) hs ⋯ (by decide) (by decide) λu v1 u0 u1 l1=>?_
 obtain⟨r,hr⟩:∃ r,sU (.int u) (.int 0)=some r:=⟨_,rfl⟩
 rw[hr]
 exact end1 (r=true) v1 l1
def Nw (al:Bool)(x:D):Prop:=Nr 2 48480 5 x/\Tri al x
structure Wld (k:Int)(al:Bool)(g:FV)(B:D->Bool):Prop where
 vl:Vl 30000 6 g
 fd:∀ (d:Nat)(x:D){Q:FV×FV->Prop},Nw al x->Q (.bl (B x),.non)->callW tb (d+7) 52 [.int k,g,dF x] Q
 du:∀ (d:Nat)(x:D){Q:FV×FV->Prop},Nw al x->Q (.bl (B x),.non)->callW tb (d+5) 53 [.int k,g,dF x] Q
def lk0 (c:Nat->Nat->Int) (n:Nat):D->Bool
 | .tup [a,b,e]=>xm c n a b e
 | _=>false
theorem OD {ws ss as:List Int}{r:Int}(R:Rwo ws ss)(ha:Ask ws.length as r):Wld 0 false (.lst [pO ws ss,qY as,.int r]) (lk0 (sc ws ss as r) ws.length):=by
 have hy:∀ a b c:D,Nr 2 48480 5 (.tup [a,b,c])->(∀ ds,b=.tup ds->ds.length<=60)/\pI b<39:=λa b c h=>by
  have g:=h.t
  have hb:b∈[a,b,c]:=by simp
  refine⟨λds e=>?_,by have:=g.dp b hb;lia⟩
  have:=g.ok b hb
  rw[e] at this
  have:=(okTu.mp this).1
  lia
 refine⟨?_,λd x Q hx q=>?_,λd x Q hx q=>?_⟩
 ·have h1:=Gw R
  have h2:Vl 4000 2 (qY as):=by
   refine (Vl.tup (k:=41) (p:=0) (m:=30) (λx hx=>?_) (by rw[iq,ha.len];exact R.hn)).mono (by decide) (by decide)
   obtain⟨i,hi,rfl⟩:=kC.mp hx
   have:=ha.a i hi
   exact Vl.int ⋯ ⋯
  have h3:Vl 4000 2 (.int r):=(Vl.int (by have:=ha.r0;lia) (by have:=ha.r1;lia)).mono (by decide) (by decide)
  exact (Vl.lst (k:=4000) (p:=2) (m:=3) (λx hx=>by simp at hx;rcases hx with rfl|rfl|rfl<;>assumption) (by simp)).mono (by decide) (by decide)
 ·obtain⟨h1,h2⟩:=hx
  rcases h2 with h2|⟨a,b,c,rfl⟩
  ·cases h2
  ·refine mY (fd:=D8) rfl rfl ?_
   simp[D8,GK,dF,dFs]
   exact Iu d R ha a b c (hy a b c h1).1 q
 ·obtain⟨h1,h2⟩:=hx
  rcases h2 with h2|⟨a,b,c,rfl⟩
  ·cases h2
  ·refine mY (fd:=D7) rfl rfl ?_
   simp[D7,GJ,dF,dFs]
   refine Ei (d+3) R ha λkk vs hc=>?_
   simp
   exact FZ (d+1) R hc a b c (hy a b c h1).2 (hy a b c h1).1 q
theorem OC {os:List FV}(ho:os.length<=24)(hc:Cel os):Wld 1 true (.lst [.tup os]) (chB os.length):=by
 refine⟨?_,λd x Q hx q=>?_,λd x Q hx q=>?_⟩
 ·have h1:Vl 1008 1 (.tup os):=(Vl.tup (k:=41) (p:=0) (m:=24) (λx hx=>by
   obtain⟨i,rfl,i0,i1⟩:=hc x hx
   exact Vl.int ⋯ ⋯) ho).mono (by decide) (by decide)
  exact (Vl.lst (k:=1008) (p:=1) (m:=1) (λx hx=>by simp at hx;subst hx;exact h1) (by simp)).mono (by decide) (by decide)
 ·refine mY (fd:=D8) rfl rfl ?_
  simp[D8,GK]
  exact J7 (d+2) x (by have:=hx.1.dp;lia) (by have:=hx.1.wt;simp only[big];lia) os q
 ·refine mY (fd:=D7) rfl rfl ?_
  simp[D7,GJ]
  exact J2 (d+1) x (by have:=hx.1.dp;lia) (by have:=hx.1.wt;simp only[big];lia) os q
theorem CU (d:Nat){k:Int}{al:Bool}{g:FV}{B:D->Bool}(W:Wld k al g B){x:D}(hx:Nw al x){Q:FV×FV->Prop}(q:Q (.bl true,.non)):callW tb (d+8) 55 [.int k,g,dF x] Q:=by
 have h2:Vl 80000 8 (.lst [g,dF x]):=by
  obtain⟨y,e1,a1,a2,a3⟩:=W.vl
  obtain⟨z,e2,b1,b2,b3⟩:=hx.1.vl
  refine⟨.lst [y,z],by rw[e1,e2];rfl,?_,?_,?_⟩
  ·show max (pI y) (max (pI z) 0)+1<=8;lia
  ·show (y.fit && (z.fit && true))=true;rw[a2,b2];rfl
  ·show y.wt+1+(z.wt+1+0)<=80000;lia
 obtain⟨t,ht,hq⟩:=HP h2 (by decide) (by decide)
 have hb:big=100000:=rfl
 refine mY (fd:=Jp) rfl rfl ?_
 simp[Jp,Kk]
 refine⟨by lia,?_⟩
 rw[ht]
 simp
 refine W.fd d x hx ?_
 simp
 refine W.du (d+2) x hx ?_
 simp
 refine⟨by lia,?_⟩
 rw[hq]
 exact q
theorem Ec:∀ {m:Nat}{ps:List Pz},Fine m ps->m<=1000->D.wts (ps.map Pz.encD)<=92*(pK ps).length
 | m,[],_,_=>kT _
 | m,p :: ps,h,hm=>by
  obtain⟨h1,h2,h3⟩:=h.cons
  have ih:=Ec h3 hm
  rw[qm,dS,Pz.rows_len]
  have ci:∀ i:Int,-(2 ^ 40)<i->i<2 ^ 40->(D.int i).wt=41:=λi a b=>if_pos ⟨a,b⟩
  have hp:p.encD.wt+1<=92*p.sz:=by
   cases p with
   | keep a n =>
    have:=wO h1 h2
    have hn:1<=n:=h1
    show (4+1+((D.int a).wt+1+((D.int n).wt+1+0)))+1<=92*n
    rw[ci a ⋯ ⋯,ci n ⋯ ⋯];lia
   | put xs =>
    have hs:=Pz.ok_sz (p:=.put xs) h1
    have hs:1<=xs.length:=hs
    have hw:∀ ys:List Int,(∀ y∈ys,0<=y/\y<1000)->D.wts (ys.map D.int)=42*ys.length:=λys=>by
     induction ys with
     | nil=>intro _;rfl
     | cons y r ih =>
      intro h
      show (D.int y).wt+1+D.wts (r.map D.int)=_
      rw[ih λz hz=>h z (cI _ hz),ci y (by have:=h y dQ;lia) (by have:=h y dQ;lia),gm];lia
    show (3+1+(D.wts (xs.map D.int)+1+0))+1<=92*xs.length
    rw[hw xs λy hy=>h2 (.put y) (kC.mpr ⟨y,hy,rfl⟩)];lia
  show p.encD.wt+1+D.wts (ps.map Pz.encD)<=_
  rw[Nat.mul_add];lia
theorem JZ {m:Nat}{ps:List Pz}(h:Fine m ps)(hm:m<=24)(hr:(pK ps).length<=24):Nr 0 12000 3 (.tup (ps.map Pz.encD)):=by
 have hw:=Ec h ⋯
 have hl:=By h.1
 have pz:∀ p∈ps,rK 0 p.encD=true/\pI p.encD<=2:=λp hp=>by
  obtain⟨s,t,rfl⟩:=dX hp
  obtain⟨h1,h2,-⟩:=h.app.2.cons
  have pb:=sd 0
  have hz:p.sz<=24:=by
   have:(pK (s++p :: t)).length=(pK s).length+(p.rows.length+(pK t).length):=by rw[vf,qm,dS,dS]
   rw[Pz.rows_len] at this;lia
  cases p with
  | keep a n =>
   have:=wO h1 h2
   have i1:rK 0 (.int a)=true:=okIn.mpr ⋯
   have i2:rK 0 (.int n)=true:=okIn.mpr ⋯
   refine⟨okTu.mpr ⟨(by show 3<=40;lia),λx hx=>?_⟩,(by show max 0 (max 0 (max 0 0))+1<=2;decide)⟩
   simp at hx
   rcases hx with rfl|rfl|rfl
   ·rfl
   ·exact i1
   ·exact i2
  | put xs =>
   have hx':xs.length<=24:=hz
   have hi:∀ x∈xs.map D.int,rK 0 x=true/\pI x=0:=λx hx=>by
    obtain⟨y,hy,rfl⟩:=kC.mp hx
    have:0<=y/\y<1000:=h2 (.put y) (kC.mpr ⟨y,hy,rfl⟩)
    exact⟨okIn.mpr ⋯,rfl⟩
   have h9:rK 0 (.tup (xs.map D.int))=true:=okTu.mpr ⟨by rw[iq];lia,λx hx=>(hi x hx).1⟩
   refine⟨okTu.mpr ⟨(by show 2<=40;lia),λx hx=>?_⟩,?_⟩
   ·simp at hx
    rcases hx with rfl|rfl
    ·rfl
    ·exact h9
   ·have:=sk (p:=0) (xs:=xs.map D.int) λx hx=>ku (hi x hx).2
    show max 0 (max (deps (xs.map D.int)+1) 0)+1<=2
    lia
 refine Gl.t (p:=2) ⟨by rw[iq];lia,λx hx=>?_,λx hx=>?_,by lia⟩
 ·obtain⟨q,hq,rfl⟩:=kC.mp hx
  exact (pz q hq).1
 ·obtain⟨q,hq,rfl⟩:=kC.mp hx
  exact (pz q hq).2
theorem AI {xs:List D}(h:∀ x∈xs,∃ i:Int,x=.int i/\-(2 ^ 148)<i/\i<2 ^ 148)(hl:xs.length<=40):Gl 0 (152*xs.length) 0 xs:=by
 have iw:∀ x∈xs,x.wt<=151:=λx hx=>by
  obtain⟨i,rfl,_⟩:=h x hx
  show (if _ then _ else _)<=151
  split<;>lia
 refine⟨hl,λx hx=>?_,λx hx=>?_,?_⟩
 ·obtain⟨i,rfl,i1,i2⟩:=h x hx
  exact okIn.mpr ⟨i1,i2⟩
 ·obtain⟨i,rfl,_⟩:=h x hx
  exact kW _
 ·clear h hl
  induction xs with
  | nil=>exact kT _
  | cons x r ih =>
   have:=iw x dQ
   have:=ih λy hy=>iw y (cI _ hy)
   show x.wt+1+D.wts r<=152*(r.length+1)
   lia
theorem ET {x y z:D}{a b c:Nat}(hx:Nr 0 a 2 x)(hy:Nr 0 b 2 y)(hz:Nr 0 c 2 z)(h:a+b+c+3<=12000):Nr 0 12000 3 (.tup [x,y,z]):=by
 have h1:=hx.wt
 have h2:=hy.wt
 have h3:=hz.wt
 refine Gl.t (p:=2) ⟨(by show 3<=40;decide),λu hu=>?_,λu hu=>?_,?_⟩
 ·simp at hu
  rcases hu with rfl|rfl|rfl
  ·exact hx.ok
  ·exact hy.ok
  ·exact hz.ok
 ·simp at hu
  rcases hu with rfl|rfl|rfl
  ·exact hx.dp
  ·exact hy.dp
  ·exact hz.dp
 ·show x.wt+1+(y.wt+1+(z.wt+1+0))<=12000
  lia
theorem GE (d:Nat){n:Int}{v:FV}{kind:Int}(hk:kind=0 ∨ kind=1)(hs:Lf n v)(h0:0<=n)(hn:n<8000){Q:FV×FV->Prop}(q:∀ g B x v',Wld kind (kind == 1) g B->Nr 0 12000 3 x->Tri (kind == 1) x->B x=true->Lf (n+400) v'->Q (.tup [g,dF x],v')):callW tb (d+10) 51 [v,.int kind] Q:=by
 refine mY (fd:=Gm) rfl rfl ?_
 have hb:big=100000:=rfl
 rcases hk with rfl|rfl
 ·simp[Gm,GL]
  refine HZ (d+5) hs ⋯ ⋯ (by decide) (by decide) λws ss v2 w1 w2 hsl hw hss l2=>?_
  have R:Rwo ws ss:=⟨hw,hss,hsl,w2⟩
  rw[show FV.tup [.tup (ws.map .int),.tup (ss.map .int)]=pO ws ss from rfl]
  simp[or]
  refine G3 (d+6) l2 ⋯ ⋯ w2 λas r v3 ha l3=>?_
  obtain⟨P,hP⟩:=Fz (sc ws ss as r) ws.length
  simp
  refine FT (d+5) R ha hP ?_
  rw[show qg (P 0)=.tup [.int (P 0).1,o7 (P 0).2] from rfl]
  simp
  refine⟨by lia,?_⟩
  refine Br (d+5) R ha hP ?_
  obtain⟨b1,b2,b3,_⟩:=hP 0 (kT _)
  have hlen:=tJ b3
  have hlt:=(xp b3).1
  have bg:∀ {ks:List Nat},vp BJ ws.length ks->-(2 ^ 148)<pc (sc ws ss as r) ws.length ks/\pc (sc ws ss as r) ws.length ks<2 ^ 148:=λh=>by
   obtain⟨⟨g1,g2⟩,g3,g4⟩:=IK R ha h
   lia
  have okt:=Fy (ss:=ss) (as:=as) (r:=r) w1 hP
  have g0:-(2 ^ 148)<(P 0).1/\(P 0).1<2 ^ 148:=by rw[b1];exact bg b3
  have gt:∀ x∈((lL (ws.length+1)).map λj=>(P j).1).map D.int,∃ i:Int,x=.int i/\-(2 ^ 148)<i/\i<2 ^ 148:=λx hx=>by
   obtain⟨i,hi,rfl⟩:=kC.mp hx
   obtain⟨j,hj,rfl⟩:=kC.mp hi
   have hj:=je.mp hj
   obtain⟨d1,d2,d3,_⟩:=hP j ⋯
   exact⟨_,rfl,by rw[d1];exact bg d3⟩
  have gk:∀ x∈(P 0).2.map λi:Nat=>D.int i,∃ i:Int,x=.int i/\-(2 ^ 148)<i/\i<2 ^ 148:=λx hx=>by
   obtain⟨k,hk,rfl⟩:=kC.mp hx
   have:=hlt k hk
   exact⟨_,rfl,by lia⟩
  have n1:Nr 0 152 2 (.int (P 0).1):=⟨okIn.mpr g0,kT _,by show (if _ then _ else _)<=152;split<;>lia⟩
  have n2:=(AI gk (by rw[iq];lia)).t
  have n3:=(AI gt (by simp;lia)).t
  have N:=ET n1 (n2.mono (kW _) (by decide)) (n3.mono (kW _) (by decide)) (by simp;lia)
  have e1:o7 (P 0).2=dF (.tup ((P 0).2.map λi:Nat=>.int i)):=by rw[dF,nj,kG];rfl
  have e2:AS P ws.length=.tup (((lL (ws.length+1)).map λj=>(P j).1).map .int):=by rw[AS,kG];rfl
  have e3:FV.tup (((lL (ws.length+1)).map λj=>(P j).1).map .int)=dF (.tup (((lL (ws.length+1)).map λj=>(P j).1).map .int)):=by rw[dF,nj,qw]
  refine⟨by lia,by lia,?_⟩
  have:=q _ _ _ v3 (OD R ha) N (.inr ⟨_,_,_,rfl⟩) okt (l3.mono ⋯)
  rw[show FV.tup [FV.int (P 0).1,o7 (P 0).2,AS P ws.length]=dF (.tup [.int (P 0).1,.tup ((P 0).2.map λi:Nat=>.int i),.tup (((lL (ws.length+1)).map λj=>(P j).1).map .int)]) by rw[e1,e2,e3];rfl]
  exact this
 ·simp[Gm,GL]
  refine Cw (d+5) hs h0 ⋯ λos v2 ho hc l2=>?_
  simp
  refine⟨by lia,?_⟩
  refine G7 (d+5) l2 ⋯ ⋯ ho hc λys v3 hy hcy l3=>?_
  obtain⟨old,rfl,hold⟩:=Cel.ints hc
  obtain⟨new,rfl,hnew⟩:=Cel.ints hcy
  simp
  rw[iq] at ho hy
  refine DG (d+7) ⋯ ⋯ ?_
  have F:=DJ (old:=old) hnew
  have e1:FV.tup ((Jc old new).map Pz.enc)=dF (.tup ((Jc old new).map Pz.encD)):=by rw[dF,GC]
  have W:=OC (os:=old.map FV.int) (by rw[iq];exact ho) hc
  rw[iq] at W
  simp
  refine⟨by lia,?_⟩
  rw[e1]
  exact q _ _ _ v3 W (JZ F ho (by rw[F2];exact hy)) (.inl rfl) F.chB (l3.mono ⋯)
theorem law_val (ns:List Int):callW tb 14 56 [.scr ns] λz=>z.1=.bl true:=by
 refine mY (fd:=Jo) rfl rfl ?_
 simp[Jo,Kj]
 refine D1 12 ns λms hm=>?_
 simp
 have e0:∃ k:Nat,(if (3:Int)<(ms.length:Int) then (ms.length:Int) else 3)=k/\k<=8:=by
  by_cases z:(3:Int)<(ms.length:Int)
  ·exact⟨ms.length,by rw[if_pos z],by lia⟩
  ·exact⟨3,by rw[if_neg z];rfl,by lia⟩
 obtain⟨k0,ek,hk0⟩:=e0
 rw[ek,fC]
 refine⟨nu ⋯ ⋯,?_⟩
 refine oH (I:=λ_ L=>∃ a b c d e f,L=[some (FV.scr ns),some (FV.lst (ms.map FV.int)),a,b,c,d,e,f]) k0 0 _ ⟨_,_,_,_,_,_,rfl⟩ (λk L K _ hk hI hK=>?_) λL hI=>?_
 ·obtain⟨x2,x3,x4,x5,x6,x7,rfl⟩:=hI
  simp
  refine DF 12 ms k λv y hv=>?_
  obtain⟨b0,b1,b2,rfl,hc0,hc1⟩:=hv
  simp
  have hv:Lf 0 (.lst [.int b0,.int (b1+1800),.int b2]):=⟨_,_,_,rfl,hc0,hc1⟩
  rw[sK (n:=3) (i:=1) (j:=1) rfl ⋯]
  simp
  rw[show [FV.int 0,FV.int 1]=[0,1].map FV.int from rfl]
  refine⟨by decide,?_⟩
  refine qf (f:=FV.int) (I:=λdn L=>∃ v a b c d,Lf (1000*dn.length) v/\L=[some (FV.scr ns),some (FV.lst (ms.map FV.int)),some (.int k),some v,a,b,c,d]) [0,1] [0,1] [] _ rfl ⟨_,_,_,_,_,(by simpa using hv),rfl⟩ ?_ ?_
  ·rintro dn kd r L K2 e ⟨v,a,b,c,d,hv,rfl⟩ hK2
   have hk01:kd=0 ∨ kd=1:=by
    have:kd∈([0,1]:List Int):=by rw[e];simp
    simpa using this
   have hdn:dn.length<=1:=by
    have:=congrArg kZ e
    simp at this;lia
   simp
   refine GE 3 hk01 hv ⋯ ⋯ λg B x v1 W hx hT hB l1=>?_
   simp
   have ok0:Nw (kd == 1) x:=⟨(hx.up (k':=48480) (p':=5) (by decide) (by decide)).up (kW _) (kW _),hT⟩
   refine W.fd 6 x ok0 ?_
   rw[hB]
   simp
   refine W.du 8 x ok0 ?_
   rw[hB]
   simp
   refine⟨by decide,?_⟩
   refine oH (I:=λm L=>∃ v2 d2,Lf (1000*(dn.length:Int)+400+20*m) v2/\L=[some (FV.scr ns),some (FV.lst (ms.map FV.int)),some (.int k),some v2,some (.int kd),some g,some (dF x),d2]) 12 0 _ ⟨v1,d,l1.mono (by push_cast;lia),rfl⟩ ?_ ?_
   ·rintro m L K3 _ hm ⟨v2,d2,l2,rfl⟩ hK3
    simp
    refine Bt 1 l2 ⋯ ⋯ (p:=3) (by decide) hx hT λy v3 hy hyT l3=>?_
    simp
    refine CU 5 W ⟨hy,hyT⟩ ?_
    simp
    exact hK3 _ ⟨v3,_,l3.mono (by push_cast;lia),rfl⟩
   ·rintro L ⟨v2,d2,l2,rfl⟩
    simp
    exact hK2 _ ⟨v2,_,_,_,_,l2.mono (by rw[dS,cb];push_cast;lia),rfl⟩
  ·rintro L ⟨v,a,b,c,d,hv,rfl⟩
   simp
   exact hK _ ⟨_,_,_,_,_,_,rfl⟩
 ·obtain⟨x2,x3,x4,x5,x6,x7,rfl⟩:=hI
  simp
end Kq
set_option maxRecDepth 100000
set_option maxHeartbeats 4000000
namespace Kq
open PySem PySem.Spec PyProof.Rows L2 PySem.W
def top (i:Nat):mP:=PySem.Challenge.pw_keepwhole_k83_whole_sums_and_changes_spo.main.body.getD i (.Pass ⟨0,0,0,0⟩)
def d0:Df:=⟨"is_number",top 1,["thing"],["thing"],[]⟩
def d1:Df:=⟨"is_tuple_of",top 2,["thing","many"],["thing","many"],[]⟩
def d2:Df:=⟨"is_change",top 4,["old","thing"],["old","thing"],[]⟩
def d3:Df:=⟨"is_piece",top 5,["old","piece"],["old","piece"],[]⟩
def d4:Df:=⟨"is_keep",top 6,["old","piece"],["old","piece","word","at","many"],[]⟩
def d5:Df:=⟨"is_put",top 7,["piece"],["piece","word","cells"],[]⟩
def d6:Df:=⟨"least_change",top 8,["old","new"],["old","new","sizes","pieces","place","piece"],[.imm,.imm,.imm,.own]⟩
def d7:Df:=⟨"least_sizes",top 9,["old","new"],["old","new","sizes","runs","put_on","place","behind","longest"],[.imm,.imm,.own]⟩
def d8:Df:=⟨"first_keep",top 10,["old","new","sizes","place"],["old","new","sizes","place","at","many"],[]⟩
def d9:Df:=⟨"first_put",top 11,["new","sizes","place"],["new","sizes","place","many"],[]⟩
def R3:Df:=⟨"made_by",top 12,["piece"],["piece"],[]⟩
def R0:Df:=⟨"is_make",top 14,["thing","makes"],["thing","makes"],[]⟩
def RZ:Df:=⟨"change_sizes",top 15,["stock"],["stock"],[]⟩
def RY:Df:=⟨"kept_sizes",top 16,["stock","laying"],["stock","laying","sizes"],[]⟩
def RX:Df:=⟨"room",top 17,["stock","laying"],["stock","laying"],[]⟩
def RW:Df:=⟨"way",top 18,["laying","make"],["laying","make","makes","on"],[.imm,.imm,.own]⟩
def RU:Df:=⟨"reads",top 19,["stock","laying"],["stock","laying","sizes"],[]⟩
def RT:Df:=⟨"are_makes",top 21,["thing","many"],["thing","many"],[]⟩
def RS:Df:=⟨"row_stock",top 23,["row"],["row","wholes","steps"],[]⟩
def RQ:Df:=⟨"row_laying",top 24,["row","kept"],["row","kept"],[]⟩
def RP:Df:=⟨"row_room",top 25,["row","kept"],["row","kept"],[]⟩
def RO:Df:=⟨"row_reads",top 26,["row","kept"],["row","kept"],[]⟩
def RN:Df:=⟨"stretch_size",top 27,["row","first","end"],["row","first","end","wholes","steps"],[]⟩
def RM:Df:=⟨"least_sum",top 29,["row","asks","rate"],["row","asks","rate"],[]⟩
def RL:Df:=⟨"sum_table",top 30,["row","asks","rate"],["row","asks","rate"],[]⟩
def RK:Df:=⟨"best_sums",top 31,["row","asks","rate"],["row","asks","rate","best","first","stretches","found"],[]⟩
def RJ:Df:=⟨"stretch_sums",top 32,["row","asks","rate","first"],["row","asks","rate","first","sums","asked","make","read"],[.imm,.imm,.imm,.imm,.own]⟩
def RI:Df:=⟨"shows_sum",top 33,["row","asks","rate","number","kept","table"],["row","asks","rate","number","kept","table"],[]⟩
def RG:Df:=⟨"is_kept",top 34,["row","thing"],["row","thing"],[]⟩
def RF:Df:=⟨"kept_sum",top 35,["row","asks","rate","kept"],["row","asks","rate","kept","asked"],[]⟩
def RE:Df:=⟨"is_table",top 36,["row","asks","rate","thing"],["row","asks","rate","thing","many","first","stretches"],[]⟩
def RD:Df:=⟨"_law_mix",top 38,["_law_cell","_law_k"],["_law_cell","_law_k","_law_m"],[]⟩
def RC:Df:=⟨"_law_left",top 39,["_law_script","_law_k"],["_law_script","_law_k","_law_cell"],[]⟩
def RB:Df:=⟨"_law_pick",top 40,["_law_left_here","_law_many"],["_law_left_here","_law_many","_law_digit"],[.own]⟩
def RA:Df:=⟨"_law_folded",top 41,["_law_script","_law_many"],["_law_script","_law_many","_law_cells_here","_law_k","_law_cell"],[.imm,.imm,.own]⟩
def Rz:Df:=⟨"_law_numbers",top 42,["_law_some"],["_law_some"],[]⟩
def Ry:Df:=⟨"_law_cells",top 43,["_law_left_here","_law_many"],["_law_left_here","_law_many","_law_few"],[.own]⟩
def Rx:Df:=⟨"_law_thing",top 44,["_law_left_here"],["_law_left_here","_law_many"],[.own]⟩
def Rv:Df:=⟨"_law_made_anew",top 45,["_law_left_here","_law_thing_here"],["_law_left_here","_law_thing_here","_law_cells_here","_law_turn","_law_at","_law_end","_law_block","_law_to","_law_choice","_law_rest"],[.own]⟩
def Ru:Df:=⟨"_law_size",top 46,["_law_left_here","_law_great"],["_law_left_here","_law_great","_law_choice"],[.own]⟩
def Rt:Df:=⟨"_law_row",top 47,["_law_left_here","_law_most"],["_law_left_here","_law_most","_law_many","_law_great","_law_wholes"],[.own]⟩
def Rs:Df:=⟨"_law_asks",top 48,["_law_left_here","_law_many"],["_law_left_here","_law_many","_law_most","_law_chosen","_law_found_here","_law_some"],[.own]⟩
def Rr:Df:=⟨"_law_costs",top 49,["_law_row_here","_law_asks_here","_law_rate"],["_law_row_here","_law_asks_here","_law_rate","_law_many","_law_found_here","_law_begin","_law_size_here","_law_total","_law_make","_law_more"],[.imm,.imm,.imm,.imm,.own]⟩
def Rp:Df:=⟨"_law_kept_right",top 50,["_law_row_here","_law_costs_here","_law_kept"],["_law_row_here","_law_costs_here","_law_kept","_law_many"],[]⟩
def Ro:Df:=⟨"_law_sum_due",top 51,["_law_row_here","_law_costs_here","_law_number","_law_kept","_law_table"],["_law_row_here","_law_costs_here","_law_number","_law_kept","_law_table","_law_many","_law_begin"],[]⟩
def Rn:Df:=⟨"_law_is_piece",top 52,["_law_many","_law_piece"],["_law_many","_law_piece"],[]⟩
def Rm:Df:=⟨"_law_change_due",top 53,["_law_old","_law_thing_here"],["_law_old","_law_thing_here"],[]⟩
def Rl:Df:=⟨"_law_places",top 54,["_law_thing_here"],["_law_thing_here","_law_found_here","_law_k","_law_part"],[.imm,.own]⟩
def Rk:Df:=⟨"_law_part_at",top 55,["_law_thing_here","_law_path"],["_law_thing_here","_law_path","_law_k"],[]⟩
def Rj:Df:=⟨"_law_put_at",top 56,["_law_thing_here","_law_path","_law_part"],["_law_thing_here","_law_path","_law_part","_law_parts"],[.imm,.imm,.imm,.own]⟩
def Rh:Df:=⟨"_law_otherwise",top 57,["_law_left_here","_law_part"],["_law_left_here","_law_part","_law_row_here","_law_at","_law_few","_law_some","_law_choice","_law_near"],[.own]⟩
def Rg:Df:=⟨"_law_case",top 58,["_law_left_here","_law_kind"],["_law_left_here","_law_kind","_law_row_here","_law_asks_here","_law_rate","_law_number","_law_kept","_law_old"],[.own]⟩
def Rf:Df:=⟨"_law_found",top 59,["_law_kind","_law_given","_law_thing_here"],["_law_kind","_law_given","_law_thing_here"],[]⟩
def Re:Df:=⟨"_law_due",top 60,["_law_kind","_law_given","_law_thing_here"],["_law_kind","_law_given","_law_thing_here"],[]⟩
def Rb:Df:=⟨"_law_spoilt",top 61,["_law_left_here","_law_thing_here","_law_alone","_law_turn"],["_law_left_here","_law_thing_here","_law_alone","_law_turn","_law_again","_law_paths","_law_path"],[.own]⟩
def Ra:Df:=⟨"_law_right",top 62,["_law_kind","_law_given","_law_thing_here"],["_law_kind","_law_given","_law_thing_here","_law_kept","_law_found_here"],[]⟩
def d56:Df:=⟨"law",top 63,["_law_script"],["_law_script","_law_cells_here","_law_k","_law_left_here","_law_kind","_law_given","_law_thing_here","_law_turn"],[.imm,.imm,.imm,.own]⟩
def fns:Fns:=⟨[j9 "is_number",j9 "is_tuple_of",j9 "is_change",j9 "is_piece",j9 "is_keep",j9 "is_put",j9 "least_change",j9 "least_sizes",j9 "first_keep",j9 "first_put",j9 "made_by",j9 "is_make",j9 "change_sizes",j9 "kept_sizes",j9 "room",j9 "way",j9 "reads",j9 "are_makes",j9 "row_stock",j9 "row_laying",j9 "row_room",j9 "row_reads",j9 "stretch_size",j9 "least_sum",j9 "sum_table",j9 "best_sums",j9 "stretch_sums",j9 "shows_sum",j9 "is_kept",j9 "kept_sum",j9 "is_table",j9 "_law_mix",j9 "_law_left",j9 "_law_pick",j9 "_law_folded",j9 "_law_numbers",j9 "_law_cells",j9 "_law_thing",j9 "_law_made_anew",j9 "_law_size",j9 "_law_row",j9 "_law_asks",j9 "_law_costs",j9 "_law_kept_right",j9 "_law_sum_due",j9 "_law_is_piece",j9 "_law_change_due",j9 "_law_places",j9 "_law_part_at",j9 "_law_put_at",j9 "_law_otherwise",j9 "_law_case",j9 "_law_found",j9 "_law_due",j9 "_law_spoilt",j9 "_law_right",j9 "law"],[],[]⟩
abbrev DB (d:Df)(fr:Bool)(b:CW->SW):Prop:=∀ (X:Cx)(call:CW) (n:Nat),Good X (d.cc fns) n (HR tb call)->Be X (d.cc fns) fr (oN d.st) (b call)
local macro_rules | `(tactic| ac_rfl)=>do
 let g:=Lean.mkIdent `G
 let mut ts:Array (Lean.TSyntax ``Lean.Parser.Tactic.tacticSeq):=#[]
 for r in ("§Pl 12210;Oi 03110;Jn 00010;P5 00010;Pf 11110;m6 02010;oR 01010;PM 02010;fe_ix 03110;Pb 01010;Pa 14310;Od 16510;MD 18710;Mv 12110;NO 01010;fs_if 03010;Py 13210;Hv 11110;Pd 00010;fe_sl 03010;Pm 01010;NP 00010;Px 01010;CompOk.mk 05110;NH 00010;P2 01010;fw_or 02010;fe_bl 00010;NU 00010;PK 02010;PF 15410;fb_eq 12010;Ps 01010;Pv 02010;fb_ne 12010;O6 01010;PB 13210;fe_eq 12010;Mz 13210;Po 00010;fe_if 03010;D4 11010;NJ 14310;NX 16510;Pu 00010;Pw 02010;PL 13210;fs_ix 15310;fe_ge 02010;Pn 02010;Pk 01010;fb_lt 12010;NK 12210;N8 13210;NM 02110;Pe 13210;O8 02010;fb_gt 02010;O7 02010;Pr 02010;Oe 02010;PJ 15410;N5 15310;NF 01010;NZ 13210;Ob 02010;Jm 01010;N1 02010;MA 13210;Pt 01010;fe_or 02010;fe_le 12010;P3 01010;Oc 12010;N0 13210;P4 13010;N3 13210;PN 13210;MB 13210;Pq 03010;NW 13210;NN 15310;Oa 16510;My 01010;Pj 02010;N6 14210;N9 14010;Og 01010;NY 13210;fe_lt 12010;fg_tn 12110;N4 13210;NI 14210;Mx 00010;fb_ge 02010;KZ 14310;MC 12010;fe_ne 12010;PH 15410;NV 13310;Pc 14210;Pp 03010;N2 02010;fe_gt 02010;NG 01010;N7 15310;Oh 01010;O9 14210;NL 01010;fr_of 01010;PZ 02110;fb_w 01010;NX 16511;NV 13311;Ph 01000;Pi 13200;Pg 15300;NT 13200;NR 15300;NS 13200;NQ 15300;Jn 00000;Po 00000;fe_bl 00000;Pu 00000".drop 1).toString.splitOn ";" do
  let [n,c]:=r.splitOn " " | continue
  let [a,k,s,w,e]:=c.toList.map λx=>x.toNat-48|continue
  let f:=Lean.mkIdent n.toName
  let mut as:Array Lean.Term:=if a=1 then #[g] else #[]
  for _ in [0:k] do as:=as.push (<- `(?_))
  let mut t <- if as.isEmpty then `(tactic| exact $f) else `(tactic| refine $f $as*)
  if w=1 then t <- `(tactic| with_reducible $t:tactic)
  if e=1 then t <- `(tactic| ((with_reducible refine oP ?_); $t:tactic))
  for _ in [0:s] do t <- `(tactic| (($t:tactic); first | decide +kernel | rfl))
  ts:=ts.push (<- `(Lean.Parser.Tactic.tacticSeq| $t:tactic))
 ts:=ts.push (<- `(Lean.Parser.Tactic.tacticSeq| first | decide +kernel))
 `(tactic| repeat' first $[| $ts]*)
local macro_rules | `(tactic| ac_nf)=>do
 let g:=Lean.mkIdent `G
 `(tactic| (intro _ $g:ident; ac_rfl))
local macro_rules | `(tactic| eq_refl)=>do
 let g:=Lean.mkIdent `G
 `(tactic| (intro $g:ident; ac_rfl))
local macro_rules | `(tactic| exists $e)=>`(tactic| (refine $e; ac_rfl))
local macro_rules | `(tactic| exists $e,$g:ident)=>`(tactic| (intro X call n $g:ident; refine $e; ac_rfl))
theorem db0:DB d0 false MY:=by
 delta MY
 exists oR ?_,G
theorem db1:DB d1 false MX:=by
 delta MX
 exists oR ?_,G
theorem db2:DB d2 false MW:=by
 delta MW
 exists oR ?_,G
 exists oP (nM G (own:=["piece"]) (md':=[]) ?_)
 ac_nf
 ac_nf
 ac_nf
theorem db3:DB d3 false Ou:=by
 delta Ou
 exists oR ?_,G
theorem db4:DB d4 false R9:=by
 exists m6 ?_ ?_,G
theorem db5:DB d5 false R8:=by
 exists m6 ?_ ?_,G
 exists oP (nM G (own:=["cell"]) (md':=[]) ?_)
 ac_nf
 ac_nf
 ac_nf
theorem db6:DB d6 false R7:=by
 exists m6 ?_ ?_,G
theorem db7:DB d7 true R6:=by
 exists m6 ?_ ?_,G
 exists oS G (md':=[.imm,.imm,.own]) ?_ ?_ ?_ ?_
 eq_refl
 exists sh G (own:=["cell","run"]) (md':=[.imm,.imm,.own]) ?_ ?_ ?_
 ac_nf
 ac_nf
 ac_nf
theorem db8:DB d8 false R5:=by
 exists m6 ?_ ?_,G
 exists oS G (md':=[]) ?_ ?_ ?_ ?_
 eq_refl
theorem db9:DB d9 false R4:=by
 exists m6 ?_ ?_,G
theorem Q9:DB R3 false G0:=by
 delta G0
 exists oR ?_,G
theorem Q8:DB R0 false GZ:=by
 delta GZ
 exists oR ?_,G
theorem Q7:DB RZ false GY:=by
 delta GY
 exists oR ?_,G
 exists D5 G (own:=["a","b","size"]) (md':=[]) ?_ ?_
 ac_nf
 ac_nf
 ac_nf
 ac_nf
theorem Q6:DB RY false KH:=by
 exists m6 ?_ ?_,G
 exists oP (nM G (own:=["make","on"]) (md':=[]) ?_)
 ac_nf
 ac_nf
 ac_nf
theorem Q5:DB RX false GX:=by
 delta GX
 exists oR ?_,G
theorem Q4:DB RW false KG:=by
 exists m6 ?_ ?_,G
theorem Q3:DB RU false KF:=by
 exists m6 ?_ ?_,G
 exists oP (nM G (own:=["make"]) (md':=[]) ?_)
 ac_nf
 ac_nf
 ac_nf
 exists oP (nM G (own:=["passed"]) (md':=[]) ?_)
 ac_nf
 ac_nf
 ac_nf
theorem Q2:DB RT false GW:=by
 exists m6 ?_ ?_,G
 exists oP (nM G (own:=["make"]) (md':=[]) ?_)
 ac_nf
 ac_nf
 ac_nf
 exists oP (nM G (own:=["ahead","behind"]) (md':=[]) ?_)
 ac_nf
 ac_nf
 ac_nf
theorem QZ:DB RS false KE:=by
 exists m6 ?_ ?_,G
 exists oP (nM G (own:=["make","size"]) (md':=[]) ?_)
 ac_nf
 ac_nf
 ac_nf
theorem QY:DB RQ false GV:=by
 delta GV
 exists oR ?_,G
 exists oP (nM G (own:=["make"]) (md':=[]) ?_)
 ac_nf
 ac_nf
 ac_nf
theorem QX:DB RP false GU:=by
 delta GU
 exists oR ?_,G
theorem QW:DB RO false GT:=by
 delta GT
 exists oR ?_,G
theorem QV:DB RN false KD:=by
 exists m6 ?_ ?_,G
theorem QU:DB RM false GS:=by
 delta GS
 exists oR ?_,G
theorem QT:DB RL false GR:=by
 delta GR
 exists oR ?_,G
 exists oP (nM G (own:=["number","kept"]) (md':=[]) ?_)
 ac_nf
 ac_nf
 ac_nf
theorem QS:DB RK false KC:=by
 exists m6 ?_ ?_,G
 exists oS G (md':=[]) ?_ ?_ ?_ ?_
 eq_refl
 exists sh G (own:=["takes","number","kept"]) (md':=[]) ?_ ?_ ?_
 ac_nf
 ac_nf
 ac_nf
theorem QR:DB RJ true KB:=by
 exists m6 ?_ ?_,G
 exists oS G (md':=[.imm,.imm,.imm,.imm,.own]) ?_ ?_ ?_ ?_
 eq_refl
theorem QQ:DB RI false KA:=by
 exists m6 ?_ ?_,G
theorem QP:DB RG false GQ:=by
 delta GQ
 exists oR ?_,G
theorem QO:DB RF false Kz:=by
 exists m6 ?_ ?_,G
 exists sh G (own:=["ask","read"]) (md':=[]) ?_ ?_ ?_
 ac_nf
 ac_nf
 ac_nf
theorem QN:DB RE false GP:=by
 exists m6 ?_ ?_,G
 exists oP (nM G (own:=["number"]) (md':=[]) ?_)
 ac_nf
 ac_nf
 ac_nf
 exists oS G (md':=[]) ?_ ?_ ?_ ?_
 eq_refl
 exists oP (nM G (own:=["takes","number"]) (md':=[]) ?_)
 ac_nf
 ac_nf
 ac_nf
theorem QM:DB RD false Ky:=by
 exists m6 ?_ ?_,G
theorem QL:DB RC true Kx:=by
 exists m6 ?_ ?_,G
theorem QK:DB RB false GO:=by
 exists m6 ?_ ?_,G
theorem QJ:DB RA true Kw:=by
 exists m6 ?_ ?_,G
 exists oS G (md':=[.imm,.imm,.own]) ?_ ?_ ?_ ?_
 eq_refl
theorem QI:DB Rz false Cj:=by
 delta Cj
 exists oR ?_,G
 exists oP (nM G (own:=["_law_one"]) (md':=[]) ?_)
 ac_nf
 ac_nf
 ac_nf
theorem QG:DB Ry false Kv:=by
 exists m6 ?_ ?_,G
 exists oP (nM G (own:=["_law_k"]) (md':=[.own]) ?_)
 ac_nf
 ac_nf
 ac_nf
theorem QF:DB Rx false Ku:=by
 exists m6 ?_ ?_,G
theorem QE:DB Rv false Kt:=by
 exists m6 ?_ ?_,G
 exists oS G (md':=[.own]) ?_ ?_ ?_ ?_
 eq_refl
 exists oP (nM G (own:=["_law_cell"]) (md':=[.own]) ?_)
 ac_nf
 ac_nf
 ac_nf
theorem QD:DB Ru false Ks:=by
 exists m6 ?_ ?_,G
theorem QC:DB Rt false Kr:=by
 exists m6 ?_ ?_,G
 exists oP (nM G (own:=["_law_k"]) (md':=[.own]) ?_)
 ac_nf
 ac_nf
 ac_nf
 exists oP (nM G (own:=["_law_k"]) (md':=[.own]) ?_)
 ac_nf
 ac_nf
 ac_nf
theorem QB:DB Rs false Kp:=by
 exists m6 ?_ ?_,G
 exists sh G (own:=["_law_k"]) (md':=[.own]) ?_ ?_ ?_
 ac_nf
 ac_nf
 ac_nf
theorem QA:DB Rr true Ko:=by
 exists m6 ?_ ?_,G
 exists oS G (md':=[.imm,.imm,.imm,.imm,.own]) ?_ ?_ ?_ ?_
 eq_refl
 exists oS G (md':=[.imm,.imm,.imm,.imm,.own]) ?_ ?_ ?_ ?_
 eq_refl
theorem Qz:DB Rp false GN:=by
 exists m6 ?_ ?_,G
 exists oP (nM G (own:=["_law_pair"]) (md':=[]) ?_)
 ac_nf
 ac_nf
 ac_nf
theorem Qy:DB Ro false Kn:=by
 exists m6 ?_ ?_,G
 exists oS G (md':=[]) ?_ ?_ ?_ ?_
 eq_refl
 exists oP (nM G (own:=["_law_end"]) (md':=[]) ?_)
 ac_nf
 ac_nf
 ac_nf
theorem Qx:DB Rn false zQ:=by
 exists m6 ?_ ?_,G
theorem Qw:DB Rm false Ew:=by
 delta Ew
 exists oR ?_,G
 exists oP (nM G (own:=["_law_piece"]) (md':=[]) ?_)
 ac_nf
 ac_nf
 ac_nf
theorem Qv:DB Rl true GM:=by
 exists m6 ?_ ?_,G
 exists oS G (md':=[.imm,.own]) ?_ ?_ ?_ ?_
 eq_refl
 exists oP (nM G (own:=["_law_path"]) (md':=[.imm,.own]) ?_)
 ac_nf
 ac_nf
 ac_nf
theorem Qu:DB Rk false Km:=by
 exists m6 ?_ ?_,G
 exists oS G (md':=[]) ?_ ?_ ?_ ?_
 eq_refl
theorem Qt:DB Rj false Ev:=by
 exists m6 ?_ ?_,G
theorem Qs:DB Rh false yN:=by
 exists m6 ?_ ?_,G
theorem Qr:DB Rg false GL:=by
 exists m6 ?_ ?_,G
theorem Qq:DB Rf false GK:=by
 exists m6 ?_ ?_,G
theorem Qp:DB Re false GJ:=by
 exists m6 ?_ ?_,G
theorem Qo:DB Rb false Kl:=by
 exists m6 ?_ ?_,G
 exists oS G (md':=[.own]) ?_ ?_ ?_ ?_
 eq_refl
 exists sh G (own:=["_law_path"]) (md':=[.own]) ?_ ?_ ?_
 ac_nf
 ac_nf
 ac_nf
theorem Qn:DB Ra false Kk:=by
 exists m6 ?_ ?_,G
theorem ML:DB d56 false Kj:=by
 exists m6 ?_ ?_,G
 exists oS G (md':=[.imm,.imm,.imm,.own]) ?_ ?_ ?_ ?_
 eq_refl
 exists oS G (md':=[.imm,.imm,.imm,.own]) ?_ ?_ ?_ ?_
 eq_refl
 exists oS G (md':=[.imm,.imm,.imm,.own]) ?_ ?_ ?_ ?_
 eq_refl
def rc (d:Df):mB:=⟨j9 d.name,rC d.st,oN d.st,nJ d.st,J4 d.st⟩
def recs:List mB:=[rc d0,rc d1,rc d2,rc d3,rc d4,rc d5,rc d6,rc d7,rc d8,rc d9,rc R3,rc R0,rc RZ,rc RY,rc RX,rc RW,rc RU,rc RT,rc RS,rc RQ,rc RP,rc RO,rc RN,rc RM,rc RL,rc RK,rc RJ,rc RI,rc RG,rc RF,rc RE,rc RD,rc RC,rc RB,rc RA,rc Rz,rc Ry,rc Rx,rc Rv,rc Ru,rc Rt,rc Rs,rc Rr,rc Rp,rc Ro,rc Rn,rc Rm,rc Rl,rc Rk,rc Rj,rc Rh,rc Rg,rc Rf,rc Re,rc Rb,rc Ra,rc d56]
theorem recs_eq:recs=recsOf view:=by kernel_rfl!
def PD (K:mR)(mg:Str->Option mF) (i:Nat)(x:Str):Prop:=∃ df fd fa fdd,tb[i]?=some fd/\Df.ok df fd.np fd.ns fd.io=true/\(∀ X call n,Good X (df.cc fns) n (HR tb call)->Be X (df.cc fns) fd.fr (oN df.st) (fd.body call))/\Fun K (j9 df.name) (j9 df.name) df.st fa fdd/\mg x=some (.ref fa)/\Binds K fdd df.ps []
local macro_rules | `(tactic| exists $d,$b,$j,$u)=>`(tactic| (refine And.intro (have ⟨fa,fd,m,F⟩:=DIn.fn (by assumption) ((by assumption:∀ d∈recs,DIn _ _ d) (rc $d) (cG (i:=$j) rfl)); ⟨$d,_,fa,fd,rfl,by decide +kernel,$b,F,m,F.binds fun _ _ _ _ _ _ us hl=>$u (P:=fun us=>bindArgs _ ⟨us,[]⟩=pure (List.zip _ us)) hl (by intros; first | kernel_rfl! | rfl)⟩) ?_))
theorem MG {K:mR}{h:mQ}{mg:Str->Option mF}(A:AllIn K h)(D:∀ d∈recs,DIn K mg d):EachI (PD K mg) 0 fns.f:=by
 exists d0,db0,0,EG
 exists d1,db1,1,rM
 exists d2,db2,2,rM
 exists d3,db3,3,rM
 exists d4,db4,4,rM
 exists d5,db5,5,EG
 exists d6,db6,6,rM
 exists d7,db7,7,rM
 exists d8,db8,8,KU
 exists d9,db9,9,Ck
 exists R3,Q9,10,EG
 exists R0,Q8,11,rM
 exists RZ,Q7,12,EG
 exists RY,Q6,13,rM
 exists RX,Q5,14,rM
 exists RW,Q4,15,rM
 exists RU,Q3,16,rM
 exists RT,Q2,17,rM
 exists RS,QZ,18,EG
 exists RQ,QY,19,rM
 exists RP,QX,20,rM
 exists RO,QW,21,rM
 exists RN,QV,22,Ck
 exists RM,QU,23,Ck
 exists RL,QT,24,Ck
 exists RK,QS,25,Ck
 exists RJ,QR,26,KU
 exists RI,QQ,27,us6
 exists RG,QP,28,rM
 exists RF,QO,29,KU
 exists RE,QN,30,KU
 exists RD,QM,31,rM
 exists RC,QL,32,rM
 exists RB,QK,33,rM
 exists RA,QJ,34,rM
 exists Rz,QI,35,EG
 exists Ry,QG,36,rM
 exists Rx,QF,37,EG
 exists Rv,QE,38,rM
 exists Ru,QD,39,rM
 exists Rt,QC,40,rM
 exists Rs,QB,41,rM
 exists Rr,QA,42,Ck
 exists Rp,Qz,43,Ck
 exists Ro,Qy,44,us5
 exists Rn,Qx,45,rM
 exists Rm,Qw,46,rM
 exists Rl,Qv,47,EG
 exists Rk,Qu,48,rM
 exists Rj,Qt,49,Ck
 exists Rh,Qs,50,rM
 exists Rg,Qr,51,rM
 exists Rf,Qq,52,Ck
 exists Re,Qp,53,Ck
 exists Rb,Qo,54,KU
 exists Ra,Qn,55,Ck
 exists d56,ML,56,EG
 trivial
theorem law_fn (w:mD)(K:mR)(mg:Str->Option mF)(fa:mS)(h:mQ)(A:AllIn K h)(D:∀ d∈recs,DIn K mg d)(blt:∀ b∈bltNames,mg (j9 b)=none)(hm:mg (j9 "law")=some (.ref fa)) :
  ∃ fd:l0,(∀ (s:mn)(u:mF),ml s fd ⟨[u],[]⟩ [(j9 "_law_script",u)])/\∀ base:mQ,FnOk aa w K mg base EF 14 fa fd [j9 "_law_script"] (spT K tb (callW tb 14) 56):=by
 obtain⟨fa2,fd,m,F⟩:=DIn.fn A (D (rc d56) (cG (i:=56) rfl))
 have e:=hm.symm.trans m
 cases e
 have E:∀ (f:Nat)(x:Str),fns.f[f]?=some x->PD K mg f x:=λf x hx=>by
  have:=EachI.get (MG A D) f x hx
  rwa [ki] at this
 have EM:∀ (k:Nat)(c:Str)(Ca:mS)(m:Str),fns.ms[k]?=some (c,Ca,m)->∃ df fd fa fdd nm qu,tb[fns.f.length+k]?=some fd/\Df.ok df fd.np fd.ns fd.io=true/\(∀ X call n,Good X (df.cc fns) n (HR tb call)->Be X (df.cc fns) fd.fr (oN df.st) (fd.body call))/\Fun K nm qu df.st fa fdd/\mg c=some (.ref Ca)/\Cls K Ca/\(m=("__init__":Str)->Mk K Ca fa)/\(m≠("__init__":Str)->Meth K Ca m fa)/\Binds K fdd df.ps []:=λk c Ca m hx=>by cases hx
 have FL:∀ p∈fns.fl,Cls K p.1/\xk K p.1 p.2:=λp hp=>by cases hp
 refine⟨fd,?_,λbase=>?_⟩
 ·obtain⟨oc,od,kV,doc,pm,an,cdv,ct,osl,rfl,lk,hcd⟩:=F.ex
  exact λs v=>.of_eq rfl
 ·obtain⟨R1,R2⟩:=Ba (P:=aa) (w:=w) (base:=base) blt FL E EM 13
  exact wU (df:=d56) F rfl (by nofun) ML R1 blt R2 FL
end Kq
set_option maxHeartbeats 0
section
open PySem PySem.W PyProof.Rows





theorem Kq.hdef : defOf Kq.view PySem.Challenge.rw_keepwhole_k83_whole_sums_and_changes_spo.name = some (Kq.rc Kq.d56, []) := by kernel_rfl!
theorem Kq.hp : PySem.Challenge.rw_keepwhole_k83_whole_sums_and_changes_spo.prog.theDef PySem.Challenge.rw_keepwhole_k83_whole_sums_and_changes_spo.name = some ((Kq.rc Kq.d56).params, (Kq.rc Kq.d56).body, (Kq.rc Kq.d56).scope) := by kernel_rfl!
theorem Kq.okq : (chainsOk Kq.view && opensWell PySem.Challenge.rw_keepwhole_k83_whole_sums_and_changes_spo.prog && (frees PySem.Challenge.rw_keepwhole_k83_whole_sums_and_changes_spo.row.toRowW && PySem.Challenge.rw_keepwhole_k83_whole_sums_and_changes_spo.row.within.isEmpty)) = true := by nofun
theorem Kq.prom : PySem.Challenge.rw_keepwhole_k83_whole_sums_and_changes_spo.row.toRowW.promised := ⟨[.list []], by nofun, by nofun⟩
theorem PySem.Challenge.cw_keepwhole_k83_whole_sums_and_changes_spo_holds : PySem.Challenge.rw_keepwhole_k83_whole_sums_and_changes_spo.Holds :=
  Kq.row_holds Kq.said Kq.left Kq.hdef Kq.hp rfl rfl Kq.okq ⟨rfl, rfl, rfl, rfl, rfl, by nofun⟩ Kq.prom (Kq.walk2 (n := 63) (k := 14) (ds := Kq.recs) (x := Str.ofString "_law_script") (sp := fun K => Kq.spT K Kq.tb (Kq.callW Kq.tb 14) 56) rfl (by decide) rfl ⟨rfl, by decide, by decide, rfl⟩ Kq.recs_eq Kq.freeAll Kq.law_fn fun _ _ a ns hl hO hS => Kq.law_sp rfl rfl rfl hO hS (Kq.law_val ns))
end
