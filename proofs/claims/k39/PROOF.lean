import PyProof.Rows.All
import Wide.All
import OpenK.AllK
import Wide.FinOn
import Lean
import PyProof.EqAt
import PyProof.EqKinds
import PyProof.TupleCall
import PyProof.DictCompW
import PyProof.Rows.Range3
import KE.KRevIter
import PyProof.AutoRange
import PyProof.FactsAll.range_2
import PyProof.Rows.CallKwBuiltin
import PyProof.ListRange
import PyProof.TupleOfGen
import PyProof.P3Eq
import PyProof.Rows.RowHeap
import PyProof.CollectIter
import PyProof.WalksMore
import PyProof.AutoSeq1
import KE.KListMore
import PyProof.AttrMissHeap
import KE.KDictOf
import KE.KSortTup
import PyProof.Rows.SortWalk
import PyProof.SumWalkG
import PyProof.DictWalks
import KE.KDictSum
import PyProof.SetKind
import PyProof.SetRoads
import PyProof.Rows.SetFrom
import PyProof.TupleKey
import PySem.Challenge.RW_keepwhole_k39_rows_by_turns
set_option compiler.extract_closed false
set_option genSizeOf false
set_option genInjectivity false
local macro_rules | `(⋯) => `(by lia)
open PySem.Challenge renaming pw_keepwhole_k39_rows_by_turns->aa
open PySem.Builtin.SmallTypes renaming ownedTupleHandOut->ab,ownedTupleIsFree->ac,nextOf->aQ
open List renaming take_succ_eq_append_getElem->ae,eq_nil_of_length_eq_zero->ah,length_eraseIdx_of_lt->aA,getElem?_append_right->aB,getD_eq_getElem?_getD->aC,pairwise_iff_getElem->aL,getElem_append_right->aM,getElem?_eq_some_iff->aN,getElem?_eq_none_iff->aO,getElem?_append_left->aP,length_filterMap_le->aY,getElem_append_left->aZ,getElem?_take_of_lt->bc,getElem?_eq_getElem->bd,getElem?_replicate->bu,eraseIdx_cons_succ->bv,zipWith_cons_cons->bM,take_of_length_le->bN,getElem?_set_self->bO,drop_of_length_le->bP,take_eq_take_iff->ca,take_append_drop->cb,perm_append_comm->cf,pairwise_reverse->cg,mem_iff_getElem?->cj,mem_append_right->ck,length_replicate->cm,length_filter_le->cp,getElem?_zipWith->cq,getElem?_toArray->cr,getElem?_reverse->cu,filterMap_append->cv,range_eq_range'->cG,pairwise_append->cH,mem_of_mem_take->cI,mem_of_mem_drop->cJ,mem_of_getElem?->cK,mem_iff_getElem->cL,mem_cons_of_mem->cM,mem_append_left->cN,getElem?_set_ne->cO,drop_eq_nil_iff->cP,replicate_succ->da,map_congr_left->db,length_reverse->dc,filterMap_cons->dh,zip_nil_right->dO,zip_cons_cons->dP,set_cons_succ->dQ,range'_concat->dR,pairwise_cons->dS,mem_singleton->dU,mem_filterMap->dW,mem_cons_self->dX,length_append->dY,getElem_range->dZ,find?_eq_none->eg,zip_nil_left->fi,take_sublist->fj,size_toArray->fk,reverse_cons->fm,pairwise_map->fo,nodup_append->fq,mem_range'_1->ft,length_range->fu,getElem_take->fv,getElem_drop->fw,getElem?_map->fx,flatten_cons->fy,drop_sublist->fA,append_assoc->fB,zipIdx_cons->gc,take_length->ge,range'_succ->gf,not_mem_nil->gh,mem_reverse->gi,lookup_cons->gj,length_take->gk,length_drop->gn,length_cons->gp,getElem_set->gt,getElem_mem->gu,getElem_map->gw,ext_getElem->gy,cons_append->gz,all_eq_true->gB,zip_append->ic,zipIdx_nil->ie,sum_append->ig,range_succ->ii,of_mem_zip->ij,nodup_cons->ik,nil_append->il,mem_filter->ip,mem_append->iq,map_append->ir,length_set->iw,length_nil->iy,length_map->iz,forIn_cons->iA,foldl_cons->iB,find?_cons->iC,append_nil->iE,tail_drop->je,replicate->jf,nodup_nil->jg,mem_range->jh,forIn_nil->ji,filterMap->jj,drop_zero->jk,drop_drop->jl,take_nil->jM,take_add->jN,sum_cons->jO,mem_cons->jP,map_take->jQ,map_drop->jR,map_cons->jS,drop_nil->jT,any_cons->jU,zipWith->kD,mem_map->kE,map_nil->kF,map_map->kG,range'->kU,length->kW,range->lK,foldl->lL,tail->lO,getD->lP,set->mf
open PyProof.Rows renaming slot_tuple_getitem->af,callWith_type1->ak,subscriptTail_builtinR->bD,entry_tuple_getitem->c6,lt_int->c8,assignInOrder_cons->dE,args_tuple_getitem->dG,assignInOrder_nil->eT,get?_update_seq->gQ,slicePart_none->iV,pairsOf_toList->iW,tupleItemsOf_->jx,listUpdate_at->jB,Constant_none->jW,wpS_forRange->j6,pairsOf_size->ka,wpS_modify->k7,boot_range->lz,Subscript_->lB,wpS_pure->lS,wpS_mono->lT,wpS_lift->lU,wpS_bind->lV,elem'_eq->lW,SortKind->lY,wpS_get->ml,IntsAre->mw,AllBare->mB,SortSt->mC,Keyed->mR,IsTup->mT,Call_->mW
open PySem.Builtin.Tuple renaming tupleCompareSizes->ag,tupleItemsOf->aG,tupleIsExact->aH,tupleExact->bg
open Int renaming mul_le_mul_of_nonneg_left->ai,emod_lt_of_pos->er,toNat_natCast->fC,natCast_add->iF,emod_nonneg->iG,mul_nonneg->jm,le_refl->kZ
open PySem.F renaming args_tuple_iterator_next_1->aj,entry_tuple_iterator_next->al,slot_NoneType_hash->az,slot_tuple_iterator_next->aD,args_tuple_add_2->aV,plainAttrs_list->bo,entry_tuple_add->bp,args_tuple_lt_2->bq,args_dict_get_2->br,args_enumerate_next_1->bw,slot_tuple_add->bH,entry_tuple_lt->bI,entry_dict_get->bJ,entry_enumerate_next->bS,slot_tuple_lt->bY,slot_dict_get->bZ,slot_range_reversed->cy,slot_enumerate_next->cz,plain_proto_collect->cA,plain_reversed_new->cR,args_object_init_2->cS,plain_extend_loop->dq,plain_tuple_new->fF,plain_list_iadd->fG,args_zip_next_1->fH,plain_min_loop->gC,entry_zip_next->gD,entry_min_loop->gE,slot_zip_next->iH,slot_set_iter->iI,slot_int_rmul->iJ,called_tuple->jo
open PySem.Builtin.Str renaming strSliceIndices->am
open PySem.Builtin.Range renaming rangeFitsLong->ap,rangeSize->bA,small->du
open PySem.Builtin.List renaming listLengthHint->aq,listExtendWith->ar,listTooLong->bh,listSameRef->bi
open PySem.Builtin.Builtins renaming bindParams->au
open Array renaming getD_eq_getD_getElem?->av,perm_iff_toList_perm->aJ,getElem?_eq_some_iff->aK,getElem?_eq_getElem->aT,getElem?_eq_none->bU,getElem?_toList->cB,toList_reverse->cV,toArray_toList->cW,getElem_toList->cX,toList_append->dv,length_toList->dw,size_extract->eE,append_empty->eF,append_assoc->eG,toList_push->fK,toList_map->gH,toList->kJ
open PySem.Calls renaming Name_function_global->aE,callWith_builtin->bT,evalArgs_plain->cT,spliced_cons->et,spliced_nil->fI
open PySem.Builtin.Slice renaming sliceApplied->aI,slicePlaces->aR,sliceAdjust->aS
open PySem renaming wpAny_comprehension_free->aU,wpAny_callSpecial?_slot->bn,wpAny_pyNext_range_end->bB,wpAny_pyIter_rangeiter->bC,richCompare_meets_room->bE,wpAny_isTrue_Compare1->bV,builtinLookup_eq_fast->bW,ofString_length->bX,wpAny_updateSeq_pair->cC,wpAny_loadName_local->cD,codeAny_extend_loopS->cE,wpAny_setEntries_of->cZ,wpAny_loadName_cell->c5,mem_of_lookup->c7,wpAny_setField_rec->dz,wpAny_pyIter_tuple->dA,wpAny_pyIter_range->dB,wpAny_Call_Name_kw->dC,tupleKind_room_in1->dD,wpAny_truthy_bool->eI,wpAny_storeSet_of->eJ,wpAny_setState_of->eK,wpAny_sequenceKey->eL,wpAny_pyIter_slot->eM,wpAny_pyIter_list->eN,wpAny_pyIter_enum->eO,wpAny_newObj_type->eP,wpAny_assign_Name->eQ,slot_list_getitem->eR,fits_of_scanBound->eS,wpAny_pyIter_zip->fL,wpAny_isInstance->fM,wpAny_forIn_list->fN,wpAny_execs_cons->fO,wpAny_call_entry->fP,wpAny_askSetting->fQ,noFill_tuple_add->fR,wpAny_updateSeq->gI,wpAny_specialOf->gJ,wpAny_passesOwn->gK,wpAny_loadPart'->gL,wpAny_ite_split->gM,wpAny_execs_nil->gN,typeLookup_type->gO,pushCells_keeps->gP,codeAny_of_tree->gR,codeAny_builtin->gS,wpAny_tryCatch->iN,wpAny_setField->iO,wpAny_seqItems->iP,wpAny_runValue->iQ,wpAny_newTuple->iR,wpAny_fieldsOf->iS,wpAny_bindName->iT,wpAny_Compare1->iU,isSubtype_type->iX,isSubtype_stop->iY,entryFor_alias->iZ,wpAny_standAt->jq,wpAny_onRaise->jr,wpAny_notedAt->js,wpAny_newList->jt,wpAny_holding->ju,wpAny_handled->jv,wpAny_attempt->jw,seq_tuple_add->jy,rangeSize_one->jz,plainId_quiet->jA,intBits_le_64->jC,evalPart_none->jD,call_sum_walk->jE,Comprehension->jX,wpAny_typeOf->j7,seqIndex_neg->j8,concat_meets->kb,codeAny_mono->kc,Within->kh,wpAny_of_eq->kK,wpAny_letGo->kL,wpAny_field->kM,sizeLine_eq->kN,seqIndex_of->kO,IsRangeIter->kX,wpAny_rule->k8,wpAny_pure->k9,wpAny_mono->lg,wpAny_load->lh,wpAny_bind->lj,wpAny_Name->lm,typeIs_int->lq,intKind_is->lu,call_meets->lw,call->lE,IsEnumOut->lR,ZipApart->lX,SetTable->lZ,ReadsAll->l0,Operator->ma,NameKind->me,FuncData->mh,Program->mm,Keyword->mv,Builtin->my,BindsTo->mz,Shared->mD,Result->mE,Paired->mF,IsPart->mG,IsPair->mH,IsEnum->mI,DefRec->mJ,Around->mK,World->mL,Value->mM,Scope->mN,Reads->mO,Model->mP,Meets->mQ,IsZip->mS,Drawn->mU,CmpOp->mV,Stmt->mX,Heap->mY,Code->m3,Addr->m4
open PyProof.Rows.Reads renaming keeps->aW
open Option renaming isSome_iff_exists->aX,map_eq_some_iff->bL,isSome_some->dJ,isSome_map->fe,getD_some->fV,getD_none->fW,bind_some->fX,map_some->hZ,map->lF
open Bool renaming eq_false_or_eq_true->bj,and_eq_true_iff->cU,not_eq_false'->eA,false_ne_true->eB,false_eq_true->eD,not_eq_true'->fJ,noConfusion->gF,and_eq_true->gG,or_eq_true->iK,eq_iff_iff->iL,not_false->jp,true_and->jY,not_true->jZ,and_true->j0,and_self->j5
open PySem.AutoSeq1 renaming sub_tuple_tuple->bm
open Classical renaming propDecidable->bx,axiomOfChoice->bz
open PySem.Str renaming ofString_eq_toList->bF,ofString->ke
open PySem.W renaming cellsFrom_some->bG,methodObj->eX,kitx_list->eY,kitx_dict->eZ,plainGet->fT,kia_one->gU,instObj->gV,lookIn->i8,kitOne->i9,keepIn->ja,findIn->jc,codeIn->jd,fnOf->ki,Frag->kj,OpenLaw->mn,Frag->mZ
open PyProof renaming noPylong_small->bK
open PySem.Heap renaming get?_update_other->bQ,get?_push_of_some->bR,get?_update_self->cx,get?_push_size->dj,size_push->jn,lt_size->kH,SameBut->kI,ExtBut->k6
open PySem.Obj renaming isFreed_of_fields->b9,data_mapFields->dL,cls_mapFields->ff,mapFields->jJ,putSet->lG,mapSeq->lH
open List.Perm renaming append_left->cw
open Nat renaming mul_le_mul_right->cF,sub_add_cancel->dM,lt_of_lt_of_le->dN,lt_succ_of_lt->fg,le_of_succ_le->fh,succ_ne_zero->fY,min_le_right->fZ,min_eq_right->f6,lt_succ_self->f8,le_of_not_lt->ga,le_add_right->gb,not_lt_zero->ia,min_eq_left->ib,lt_irrefl->jK,add_assoc->jL,zero_add->kn,ne_of_lt->kq,ne_of_gt->ku,lt_trans->kw,le_trans->kA,le_of_lt->kB,le_of_eq->kC,zero_le->kR,le_succ->kS,le_refl->kT,not_lt->lI,not_le->lJ
open List.Pairwise renaming filter->cQ
open PySem.Around renaming under_plainId->cY
open PySem.PyData renaming intsShortAll->c9,showableAll->dI,hasDictAll->fb,canLayAll0->fc,weightAll->fU,shownAll->gX,depthAll->gY,weight->jH,depth->km
open PySem.Heap.SameBut renaming update->dm
open PySem.SeqAt.EqAt renaming int_int->dH
open PySem.SetTable.probe renaming go->eU
open PySem.SetTable renaming insertAt->eV,grown->i6,below->i7,slot->jG,has->kg
open PySem.SetTable.below renaming go->eW
open Function renaming comp_def->fE
open Std.Legacy renaming Range->fS
open PySem.PassesOwn renaming never->gZ
open Option.some renaming inj->hW
open List.cons renaming injEq->iD
open Array.Perm renaming refl->iM
open PySem.Value renaming isStrOf->jF
open PySem.Paired renaming length->jI
open PySem.Env renaming blockKind->jV
open PySem.pickOrder renaming go->j9
open Sum.inl renaming inj->kP
open PySem.Shared renaming heap->kQ
open PySem.IsRange renaming new->kY
open PySem.Walks renaming list->lA
open PyProof.Rows.SortSt renaming mk'->lC
open PySem.SeqAt renaming EqAt->lD
open False renaming elim->lM
open Char renaming toNat->lN
open PyProof.Rows.IsTup renaming new->lQ
open Ne renaming symm->mq
open Iff renaming rfl->mx
namespace L2
end L2
local macro_rules | `(command| $m:declModifiers def $i:declId $s:optDeclSig $v:declVal) => if m.raw.getArgs.all (·.getNumArgs == 0) then `(command| noncomputable def $i:declId $s:optDeclSig $v:declVal) else Lean.Macro.throwUnsupported
local macro_rules | `(command| $m:declModifiers abbrev $i:declId $s:optDeclSig $v:declVal) => if m.raw.getArgs.all (·.getNumArgs == 0) then `(command| noncomputable abbrev $i:declId $s:optDeclSig $v:declVal) else Lean.Macro.throwUnsupported
local macro_rules | `(tactic| nofun) => `(tactic| decide +kernel)
local macro_rules | `(tactic| let $p:term := $e:term) => do
 let rec f:Nat->Lean.Term->Lean.MacroM (Lean.TSyntax `rcasesPat)
  | 0,_=>Lean.Macro.throwUnsupported
  | n+1,t=>do match t with
   | `(⟨$ts,*⟩)=>
    let ps <- ts.getElems.mapM fun x=>do
     let y <- f n x
     `(Lean.Parser.Tactic.rcasesPatLo| $y:rcasesPat)
    `(rcasesPat| ⟨$ps,*⟩)
   | `(($a,$ts,*))=>
    let ps <- (#[a]++ts.getElems).mapM fun x=>do
     let y <- f n x
     `(Lean.Parser.Tactic.rcasesPatLo| $y:rcasesPat)
    `(rcasesPat| ⟨$ps,*⟩)
   | `($i:ident)=>`(rcasesPat| $i:ident)
   | `(_)=>`(rcasesPat| _)
   | _=>Lean.Macro.throwUnsupported
 match p with
 | `(⟨$_,*⟩)|`(($_,$_,*))=>
  let q <- f 20 p
  `(tactic| obtain $q:rcasesPat := $e)
 | _=>Lean.Macro.throwUnsupported
set_option Elab.async false
set_option linter.all false
set_option maxRecDepth 100000
set_option maxHeartbeats 4000000
namespace Kq
open PySem PySem.Spec PyProof.Rows L2
def bltNames:List String:=["len","abs","int","sum","all","any","min","max","tuple","list","isinstance","range","zip","bool","str","enumerate","reversed","sorted","dict","set"]
end Kq
namespace Kq
open PySem PySem.Spec PySem.Calls PyProof.Rows L2 PySem.W
def Jw:mX->Pos
 | .FunctionDef _ _ _ _ _ _ _ _ _ p=>p
 | _=>⟨0,0,0,0⟩
def LH:mX->Bool
 | .FunctionDef ..=>true
 | _=>false
def Hf (p:mm):mm:={ p with main:={ p.main with body:=p.main.body.filter LH } }
def freeIn (q:mm)(loose:List Str)(x:Str):Bool:=!startupNames.contains x && !loose.contains x && !((recsOf q).map (·.name)).contains x && !((litsOf q).map (·.1)).contains x && !((clssOf q loose).map (·.name)).contains x
end Kq
namespace Kq
open PySem PySem.Spec PyProof.Rows L2 PySem.W
def view:mm:=Hf aa
end Kq
set_option maxHeartbeats 0
section
open PySem PySem.W PyProof.Rows
theorem Kq.said:PySem.Challenge.rw_keepwhole_k39_rows_by_turns.wellSaid=true:=by nofun
theorem Kq.left:LeftO PySem.Challenge.rw_keepwhole_k39_rows_by_turns.prog Kq.view [] (λs=>xlAt Kq.view [] s && recOk (RowW.records PySem.Challenge.rw_keepwhole_k39_rows_by_turns.row.toRowW) s) (λ_=>()) (λ_=>()) 3000:=by
  intro w
  kernel_rfl!
theorem Kq.freeAll:(Kq.bltNames.all λb=>Kq.freeIn Kq.view (looseW Kq.view []) (ke b))=true:=by nofun
end
namespace L2
open PySem PySem.Spec PyProof.Rows
abbrev o6:=Sum Int (Option Str)
def vX:o6->mM->Bool
 | .inl k,v=>Value.isInt k v
 | .inr (some x),v=>jF x v
 | .inr none,v=>match v with
  | .none=>true
  | _=>false
def keyH (w:mL):o6->Int
 | .inl k=>hashInt k
 | .inr (some x)=>hashStr w x
 | .inr none=>4238894112
theorem B1 {prog:mm}{w:mL}{A:mK}{E:mM->mD->Prop}{s:mD}{Q:Int->mD->Prop}(h:Q 4238894112 { s with toks:=s.toks+1 }):wpAny (model prog w) A (pyHash .none) Q E s:=by
 have hT:s.TypeIs .none "NoneType":=rfl
 show wpAny _ _ (pyHashByItsType .none) Q E s
 unfold pyHashByItsType
 have hv:[Value.none].any Value.onHeap=false:=rfl
 refine lj ?_
 rw[cRoomFor,if_neg (by rw[hv];exact eB)];refine k9 ?_
 refine lj (gJ hT az.lookup ?_)
 show wpAny _ _ (if (some (Value.builtin "NoneType.__hash__") == some Value.none)=true then _ else _) Q E s
 rw[if_neg (by decide)]
 refine lj (gJ hT az.lookup ?_)
 show wpAny _ _ (callSpecialIfBoundUnlessNone? .none "__hash__" _ >>= _) Q E s
 refine lj (wpAny_callSpecialIfBoundUnlessNone?_slot hT az
  (fP az hT PySem.F.entry_NoneType_hash
   (show wpAny _ _ (do ret (<- mkInt 4238894112)) _ _ s from wpAny_ret_mkInt ?_) (PySem.F.args_NoneType_hash_1 _)))
 show wpAny _ _ (if (decide (-(2:Int) ^ 63<=4238894112) && decide ((4238894112:Int)<2 ^ 63))=true then _ else _) Q E _
 rw[if_pos (by decide)]
 exact k9 h
theorem oz:∀ {k:o6}{v:mM},vX k v=true->(∃ i t,k=Sum.inl i/\v=Value.int i t) ∨ (∃ x t,k=Sum.inr (some x)/\v=Value.str x t) ∨ (k=Sum.inr none/\v=Value.none)
 | .inl i,v,h=>by
  let(t,e):=Value.isInt_shape (k:=i) (v:=v) h
  exact .inl ⟨i,t,rfl,e⟩
 | .inr (some x),v,h=>by
  let(t,e):=Value.isStrOf_shape (x:=x) (v:=v) h
  exact .inr (.inl ⟨x,t,rfl,e⟩)
 | .inr none,v,h=>by
  cases v with
  | none=>exact .inr (.inr ⟨rfl,rfl⟩)
  | _=>cases h
theorem BX (i:Int)(t:Tok):vX (.inl i) (.int i t)=true:=by simp[vX,Value.isInt]
theorem BV (x:Str)(t:Tok):vX (.inr (some x)) (.str x t)=true:=by simp[vX,jF]
theorem Iy (a b:Int):decide ((Sum.inl a:o6)=Sum.inl b)=(a == b):=by
 by_cases e:a=b
 ·subst e;simp
 ·have h:¬ (Sum.inl a:o6)=Sum.inl b:=λq=>e (kP q)
  rw[decide_eq_false h]
  exact (beq_eq_false_iff_ne.mpr e).symm
theorem Ix (a b:Str):decide ((Sum.inr (some a):o6)=Sum.inr (some b))=decide (a=b):=by
 by_cases e:a=b
 ·subst e;simp
 ·have h:¬ (Sum.inr (some a):o6)=Sum.inr (some b):=λq=>e (hW (Sum.inr.inj q))
  rw[decide_eq_false h,decide_eq_false e]
def n5 (prog:mm)(w:mL):PySem.KeyKind prog w o6 where
 is:=vX
 hash:=keyH w
 inj:=λv a b ha hb=>by
  rcases oz ha with⟨i,t,rfl,rfl⟩|⟨x,t,rfl,rfl⟩|⟨rfl,rfl⟩<;>rcases oz hb with⟨j,u,rfl,e⟩|⟨y,u,rfl,e⟩|⟨rfl,e⟩<;>first|rfl|(injection e with e1 _;rw[e1])|cases e
 byValue:=λk v h=>by
  rcases oz h with⟨i,t,rfl,rfl⟩|⟨x,t,rfl,rfl⟩|⟨rfl,rfl⟩<;>rfl
 pyHash:=λhv h=>by
  rcases oz hv with⟨i,t,rfl,rfl⟩|⟨x,t,rfl,rfl⟩|⟨rfl,rfl⟩
  ·exact wpAny_pyHash_int h
  ·exact wpAny_pyHash_str h
  ·exact B1 h
 eqBool:=λhu hv h=>by
  rcases oz hu with⟨i,t,rfl,rfl⟩|⟨x,t,rfl,rfl⟩|⟨rfl,rfl⟩
  ·rcases oz hv with⟨j,u,rfl,rfl⟩|⟨y,u,rfl,rfl⟩|⟨rfl,rfl⟩
   ·rw[Iy] at h;exact wpAny_eqBool_int h
   ·rw[decide_eq_false (show ¬ (Sum.inl i:o6)=Sum.inr (some y) from λq=>nomatch q)] at h;exact SeqAt.EqAt.int_str i t y u _ _ _ _ h
   ·rw[decide_eq_false (show ¬ (Sum.inl i:o6)=Sum.inr none from λq=>nomatch q)] at h;exact SeqAt.EqAt.int_none i t _ _ _ _ h
  ·rcases oz hv with⟨j,u,rfl,rfl⟩|⟨y,u,rfl,rfl⟩|⟨rfl,rfl⟩
   ·rw[decide_eq_false (show ¬ (Sum.inr (some x):o6)=Sum.inl j from λq=>nomatch q)] at h;exact SeqAt.EqAt.str_int x t j u _ _ _ _ h
   ·rw[Ix] at h;exact wpAny_eqBool_str h
   ·rw[decide_eq_false (show ¬ (Sum.inr (some x):o6)=Sum.inr none from λq=>nomatch q)] at h;exact SeqAt.EqAt.str_none x t _ _ _ _ h
  ·rcases oz hv with⟨j,u,rfl,rfl⟩|⟨y,u,rfl,rfl⟩|⟨rfl,rfl⟩
   ·rw[decide_eq_false (show ¬ (Sum.inr none:o6)=Sum.inl j from λq=>nomatch q)] at h;exact SeqAt.EqAt.none_int j u _ _ _ _ h
   ·rw[decide_eq_false (show ¬ (Sum.inr none:o6)=Sum.inr (some y) from λq=>nomatch q)] at h;exact SeqAt.EqAt.none_str y u _ _ _ _ h
   ·rw[decide_eq_true rfl] at h;exact SeqAt.EqAt.same .none _ _ _ _ h
 «strs»:=λk x t v h=>by
  rcases oz h with⟨i,u,rfl,e⟩|⟨y,u,rfl,e⟩|⟨rfl,e⟩
  ·exact nomatch e
  ·injection e with e1 _
   subst e1
   cases v<;>rfl
  ·exact nomatch e
theorem x4 (prog:mm)(w:mL) (i:Int)(t:Tok):(n5 prog w).is (.inl i) (.int i t)=true:=BX i t
theorem wV (prog:mm)(w:mL):(n5 prog w).is (.inr none) .none=true:=rfl
theorem x0 (prog:mm)(w:mL)(x:Str)(t:Tok):(n5 prog w).is (.inr (some x)) (.str x t)=true:=BV x t
end L2
namespace L2
open PySem PySem.Spec PyProof.Rows
set_option genInjectivity true in
inductive V where
 | non|bl (b:Bool)|int (i:Int)|str (x:Str)|byt (b:Array UInt8)|flt (b:UInt64)|ref (a:m4)|ty (n:String)
 deriving DecidableEq
def RelV:V->mM->Prop
 | .non,u=>u=Value.none
 | .bl b,u=>u=Value.bool b
 | .int i,u=>∃ t,u=Value.int i t
 | .str x,u=>∃ t,u=Value.str x t
 | .byt b,u=>∃ t,u=Value.bytes b t
 | .flt b,u=>∃ t,u=Value.float b t
 | .ref a,u=>u=Value.ref a
 | .ty n,u=>u=Value.type n
abbrev Vals:List V->List mM->Prop:=mF RelV
theorem Vals.length {xs:List V}{us:List mM}(r:Vals xs us):xs.length=us.length:=jI r
theorem Vals.get:∀ {xs:List V}{us:List mM}{i:Nat}{x:V},Vals xs us->xs[i]?=some x->∃ u,us[i]?=some u/\RelV x u
 | _,_,_,_,.nil,e=>by simp at e
 | _,_,0,_,.cons r _,e=>by simp at e;subst e;exact⟨_,rfl,r⟩
 | _,_,i+1,x,.cons _ t,e=>by
  let(u,h1,h2):=Vals.get (i:=i) (x:=x) t (by simpa using e)
  exact⟨u,by simpa using h1,h2⟩
theorem Vals.set {x:V}{u:mM}(r:RelV x u):∀ {xs:List V}{us:List mM} (i:Nat),Vals xs us->Vals (xs.set i x) (us.set i u)
 | _,_,_,.nil=>.nil
 | _,_,0,.cons _ t=>.cons r t
 | _,_,i+1,.cons q t=>.cons q (Vals.set r i t)
theorem Vals.append:∀ {xs ys:List V}{us ws:List mM},Vals xs us->Vals ys ws->Vals (xs++ys) (us++ws):=λh s=>by
 induction h with
 | nil=>exact s
 | cons r _ ih=>exact .cons r ih
theorem Vals.unc {x:V}{xs:List V}{us:List mM}(h:Vals (x :: xs) us):∃ u r,us=u :: r/\RelV x u/\Vals xs r:=by
 cases h with|cons r t=>exact⟨_,_,rfl,r,t⟩
theorem Vals.unn {us:List mM}(h:Vals [] us):us=[]:=by cases h;rfl
theorem Vals.take:∀ {xs:List V}{us:List mM} (n:Nat),Vals xs us->Vals (xs.take n) (us.take n):=λn h=>by
 induction h generalizing n with
 | nil=>cases n<;>exact .nil
 | cons r _ ih=>cases n with|zero=>exact .nil|succ n=>exact .cons r (ih n)
theorem Vals.drop:∀ {xs:List V}{us:List mM} (n:Nat),Vals xs us->Vals (xs.drop n) (us.drop n):=λn h=>by
 induction h generalizing n with
 | nil=>cases n<;>exact .nil
 | cons r t ih=>cases n with|zero=>exact .cons r t|succ n=>exact ih n
def RelO:Option V->Option mM->Prop
 | some v,some u=>RelV v u
 | none,none=>True
 | _,_=>False
def KV {κ:Type}:List (κ×V)->List (κ×mM)->Prop:=mF λ(p:κ×V)(q:κ×mM)=>p.1=q.1/\RelV p.2 q.2
def kV:o6->V
 | .inl i=>.int i
 | .inr (some x)=>.str x
 | .inr none=>.non
inductive HO where
 | lst (xs:List V)
 | tup (xs:List V)
 | dK (Z6:List (o6×V))|dT (Z6:List (List o6×V))
 | set (S:Int->Bool) (n:Nat)
 | ins (C dx:m4)(fs:List (Str×V))
 | big (C dx:m4)(fs:List (Str×V))(gs:List (m4×List V))
 | own (x:m4)
 | xd (fs:List (Str×V))
 | met (f x:m4)
 | rng (lo hi:Int)
 | frz (o:Obj)(u:HO)
 | tbl (ps:Array mM)
 | ext (φ:mY->Prop)
abbrev Hp:=m4->Option HO
def oj (H:Hp)(a:m4)(o:HO):Hp:=λb=>if b=a then some o else H b
theorem nD {H:Hp}{a:m4}{o:HO}:oj H a o a=some o:=by unfold oj;rw[if_pos rfl]
theorem nv {H:Hp}{a b:m4}{o:HO}(h:b≠a):oj H a o b=H b:=by unfold oj;rw[if_neg h]
theorem G0 {H:Hp}{a b:m4}{o u:HO}(h:H a=some o)(h':H b=some u)(d:o≠u):a≠b:=by
 intro e;subst e;rw[h] at h';exact d (hW h')
theorem oo {H:Hp}{a b:m4}{o:HO}(h:H a=some o)(h':H b=none):a≠b:=by
 intro e;subst e;rw[h] at h';cases h'
section
variable (P:mm)(w:mL)
def ObjOk (H:Hp)(h:mY)(a:m4):HO->Prop
 | .lst xs=>xs.length<=sizeLine/\∃ (Z7:List mM) (n:Nat),Vals xs Z7/\h.get? a=some { cls:=.type "list",data:=.seq Z7.toArray n }
 | .tup xs=>xs.length<=sizeLine/\∃ Z7:List mM,Vals xs Z7/\mT h a Z7.toArray
 | .dK Z6=>Z6.length<=sizeLine/\(a == sysModules)=false/\∃ vs,KV Z6 vs/\h.DictOf (n5 P w) a vs
 | .dT Z6=>Z6.length<=sizeLine/\(a == sysModules)=false/\∃ xs:List (List o6×m4×mM),
   mF (λ(p:List o6×V)(q:List o6×m4×mM)=>p.1=q.1/\H q.2.1=some (.tup (p.1.map kV))/\RelV p.2 q.2.2) Z6 xs /\
   ∃ o es ep,h.get? a=some o/\o.ExactDict/\o.data=.dict es ep/\es.toList=xs.map (entryOfKey (tupleKind (n5 P w)))/\(xs.map (·.1)).Nodup
 | .set S n=>h.SetOf (intKind P w) a S n
 | .ins C dx fs=>H dx=some (.own a)/\fs.length<=1000/\dx≠a/\h.get? a=some (gV C dx) /\
   ∃ mA,h.Ns1 dx mA/\(∀ f,RelO (fs.lookup f) (mA f))/\kh mA (fs.map (·.1))
 | .big C dx fs gs=>H dx=some (.own a)/\(∀ g∈gs,H g.1=some (.own a))/\(a :: dx :: gs.map (·.1)).Nodup/\fs.length<=1000/\h.get? a=some (gV C dx) /\
   (∃ mA,h.Ns1 dx mA/\(∀ f,RelO (fs.lookup f) (mA f))/\kh mA (fs.map (·.1))) /\
   ∀ g∈gs,g.2.length<=sizeLine/\∃ (Z7:List mM) (n:Nat),Vals g.2 Z7/\h.get? g.1=some { cls:=.type "list",data:=.seq Z7.toArray n }
 | .own _=>∃ o,h.get? a=some o
 | .xd fs=>∃ mA,h.Ns1 a mA/\∀ f,RelO (fs.lookup f) (mA f)
 | .rng lo hi=>∃ t u v,h.get? a=some { cls:=.type "range",data:=.fields #[.int lo t,.int hi u,.int 1 v] }
 | .frz o u=>h.get? a=some o/\ObjOk H h a u
 | .tbl ps=>h.get? a=some { cls:=.none,data:=.fields ps }
 | .met f x=>h.get? a=some (eX (.ref f) (.ref x))
 | .ext φ=>φ h/\(∃ o,h.get? a=some o)/\∀ h1 h2:mY,φ h1->(∀ o,h1.get? a=some o->h2.get? a=some o)->φ h2
def HOk (H:Hp)(h:mY):Prop:=∀ a o,H a=some o->ObjOk P w H h a o
end
section
variable {P:mm}{w:mL}{H H':Hp}{h h':mY}{a:m4}{o:HO}
theorem ObjOk.lt (x:ObjOk P w H h a o):a<h.objs.size:=by
 cases o with
 | lst xs=>let(_,_,_,_,e):=x;exact kH e
 | tup xs=>let(_,_,_,p):=x;exact p.lt
 | dK Z6=>let(_,_,_,_,o,_,_,e,_):=x;exact kH e
 | dT Z6=>let(_,_,_,_,o,_,_,e,_):=x;exact kH e
 | set S n=>let(o,_,_,_,e,_):=x;exact kH e
 | ins C dx fs=>let(_,_,_,e,_):=x;exact kH e
 | big C dx fs gs=>let(_,_,_,_,e,_):=x;exact kH e
 | own y=>let(_,e):=x;exact kH e
 | xd fs=>let(_,(_,_,_,e,_),_):=x;exact kH e
 | rng lo hi=>let(_,_,_,e):=x;exact kH e
 | frz ob u=>let(e,_):=x;exact kH e
 | tbl ps=>exact kH (show h.get? a=some _ from x)
 | met f y=>exact kH (show h.get? a=some _ from x)
 | ext φ=>let(_,(_,e),_):=x;exact kH e
theorem Paired.mapP {α β:Type}{F G:α->β->Prop}:∀ {l₁:List α}{l₂:List β},mF F l₁ l₂->(∀ a b,F a b->G a b)->mF G l₁ l₂:=λh f=>by
 induction h with
 | nil=>exact .nil
 | cons r _ ih=>exact .cons (f _ _ r) ih
theorem ObjOk.stay (x:ObjOk P w H h a o)(k:∀ b u,(b=a ∨ H b=some (.own a))->h.get? b=some u->h'.get? b=some u)
  (ho:∀ b,H b=some (.own a)->H' b=some (.own a))(ht:∀ b xs,H b=some (.tup xs)->H' b=some (.tup xs)):ObjOk P w H' h' a o:=by
 induction o with
 | lst xs=>let(z,Z7,n,r,e):=x;exact⟨z,Z7,n,r,k _ _ (.inl rfl) e⟩
 | tup xs=>let(z,Z7,r,ob,e,c):=x;exact⟨z,Z7,r,ob,k _ _ (.inl rfl) e,c⟩
 | dK Z6=>let(z,y,vs,r,ob,es,ep,e,c):=x;exact⟨z,y,vs,r,ob,es,ep,k _ _ (.inl rfl) e,c⟩
 | dT Z6 =>
  let(z,y,xs,r,ob,es,ep,e,c):=x
  exact⟨z,y,xs,Paired.mapP r λp q z=>⟨z.1,ht _ _ z.2.1,z.2.2⟩,ob,es,ep,k _ _ (.inl rfl) e,c⟩
 | set S n=>let(ob,es,ep,t,e,c):=x;exact⟨ob,es,ep,t,k _ _ (.inl rfl) e,c⟩
 | ins C dx fs =>
  let(d,z,ne,e,mA,(od,es,ep,e2,c),r):=x
  exact⟨ho _ d,z,ne,k _ _ (.inl rfl) e,mA,⟨od,es,ep,k _ _ (.inr d) e2,c⟩,r⟩
 | big C dx fs gs =>
  let(d,gg,nd,z,e,(mA,(od,es,ep,e2,c),r),ls):=x
  exact⟨ho _ d,λg m=>ho _ (gg g m),nd,z,k _ _ (.inl rfl) e,⟨mA,⟨od,es,ep,k _ _ (.inr d) e2,c⟩,r⟩,λg m=>let ⟨l1,Z7,n,l2,l3⟩:=ls g m;⟨l1,Z7,n,l2,k _ _ (.inr (gg g m)) l3⟩⟩
 | own y=>let(ob,e):=x;exact⟨ob,k _ _ (.inl rfl) e⟩
 | xd fs=>let(mA,(od,es,ep,e,c),r):=x;exact⟨mA,⟨od,es,ep,k _ _ (.inl rfl) e,c⟩,r⟩
 | rng lo hi=>let(t,u,v,e):=x;exact⟨t,u,v,k _ _ (.inl rfl) e⟩
 | frz ob u ih=>let(e,q):=x;exact⟨k _ _ (.inl rfl) e,ih q⟩
 | tbl ps =>
  have e:h.get? a=some { cls:=.none,data:=.fields ps }:=x
  show h'.get? a=some { cls:=.none,data:=.fields ps }
  exact k a _ (.inl rfl) e
 | met f y =>
  have e:h.get? a=some (eX (.ref f) (.ref y)):=x
  show h'.get? a=some (eX (.ref f) (.ref y))
  exact k a _ (.inl rfl) e
 | ext φ=>let(p,(o,e),st):=x;exact⟨st _ _ p λo q=>k _ _ (.inl rfl) q,⟨o,k _ _ (.inl rfl) e⟩,st⟩
theorem HOk.lt (x:HOk P w H h)(e:H a=some o):a<h.objs.size:=(x a o e).lt
theorem HOk.fresh (x:HOk P w H h)(e:h.objs.size<=a):H a=none:=by
 cases q:H a with
 | none=>rfl
 | some u=>exact absurd (dN (x.lt q) e) (jK _)
theorem HOk.kept (x:HOk P w H h)(k:∀ b u,h.get? b=some u->h'.get? b=some u):HOk P w H h':=λa o e =>
 (x a o e).stay (λb u _ q=>k b u q) (λ_ q=>q) λ_ _ q=>q
theorem HOk.laid (x:HOk P w H h)(k:∀ b u,h.get? b=some u->h'.get? b=some u)(hp:h.objs.size<=a)(new:ObjOk P w (oj H a o) h' a o):HOk P w (oj H a o) h':=λb u e=>by
 have hn:=x.fresh hp
 by_cases hb:b=a
 ·subst hb;rw[nD] at e;cases e;exact new
 ·rw[nv hb] at e
  exact (x b u e).stay (λc v _ q=>k c v q) (λc q=>by rw[nv (oo q hn)];exact q) λc xs q=>by rw[nv (oo q hn)];exact q
end
def Rd (H:Hp)(a:m4)(u:HO):Prop:=H a=some u ∨ ∃ o,H a=some (.frz o u)
theorem Rd.ok {P:mm}{w:mL}{H:Hp}{h:mY}{a:m4}{u:HO}(r:Rd H a u)(x:HOk P w H h):ObjOk P w H h a u:=by
 rcases r with r|⟨o,r⟩
 ·exact x a u r
 ·let(_,q):=x a _ r
  exact q
def MD:Option HO->Prop
 | some (.lst _)=>True
 | some (.dK _)=>True
 | some (.dT _)=>True
 | some (.set _ _)=>True
 | some (.ins _ _ _)=>True
 | some (.ext _)=>True
 | _=>False
section
variable {P:mm}{w:mL}{H:Hp}{h h':mY}{x e:m4}{o':HO}
theorem HOk.write (ok:HOk P w H h)(mu:MD (H x))(he:e=x ∨ H e=some (.own x))(k:∀ b u,b≠e->h.get? b=some u->h'.get? b=some u)(heo:∃ u,h'.get? e=some u)
  (new:ObjOk P w (oj H x o') h' x o'):HOk P w (oj H x o') h':=λb u q=>by
 have nown:∀ c y,H c=some (.own y)->c≠x:=λc y r z=>by subst z;rw[r] at mu;exact mu
 have ntup:∀ c xs,H c=some (.tup xs)->c≠x:=λc xs r z=>by subst z;rw[r] at mu;exact mu
 by_cases hb:b=x
 ·subst hb;rw[nD] at q;cases q;exact new
 ·rw[nv hb] at q
  by_cases hbe:b=e
  ·have q':H b=some (.own x):=by
    rcases he with z|z
    ·exact absurd (hbe.trans z) hb
    ·rw[hbe];exact z
   rw[q] at q';cases q'
   let(v,hv):=heo
   exact⟨v,by rw[hbe];exact hv⟩
  ·refine (ok b u q).stay (λc v hc r=>k c v ?_ r) (λc r=>by rw[nv (nown c b r)];exact r) λc xs r=>by rw[nv (ntup c xs r)];exact r
   rcases hc with rfl|hc
   ·exact hbe
   ·rintro rfl
    rcases he with z|z
    ·exact nown c b hc z
    ·rw[hc] at z;cases z;exact hb rfl
end
structure Un (fs ex:List m4)(H H':Hp)(h h':mY):Prop where
 keep:∀ b o,h.get? b=some o->H b=none->b ∉ fs->b ∉ ex->h'.get? b=some o
 slot:∀ b o,h.get? b=some o->H b=none->b∈fs->b ∉ ex->∃ sl,h'.get? b=some { o with slots:=sl }
 free:∀ b o,h.get? b=some o->H b=none->b ∉ ex->H' b=none
 there:∀ b o,h.get? b=some o->b ∉ ex->∃ o',h'.get? b=some o'
 tups:∀ b xs,H b=some (.tup xs)->H' b=some (.tup xs)
 frzs:∀ b o u,H b=some (.frz o u)->H' b=some (.frz o u)
 tbls:∀ b ps,H b=some (.tbl ps)->∃ more,H' b=some (.tbl (ps++more))
section
variable {fs ex:List m4}{H H1:Hp}{h h1 h':mY}{a x e:m4}{o:HO}
theorem Un.any (u:Un fs ex H H1 h h1){b:m4}{ob:Obj}(q:h.get? b=some ob)(n:H b=none)(hx:b ∉ ex):∃ sl,h1.get? b=some { ob with slots:=sl }:=by
 by_cases hb:b∈fs
 ·exact u.slot b ob q n hb hx
 ·exact⟨ob.slots,u.keep b ob q n hb hx⟩
theorem Un.kept (k:∀ b u,h.get? b=some u->h'.get? b=some u):Un fs ex H H h h' :=
 ⟨λb ob q _ _ _=>k b ob q,λb ob q _ _ _=>⟨ob.slots,k b ob q⟩,λ_ _ _ n _=>n,λb ob q _=>⟨ob,k b ob q⟩,λ_ _ q=>q,λ_ _ _ q=>q,λ_ ps q=>⟨#[],by rw[q];simp⟩⟩
theorem Un.refl:Un fs ex H H h h:=Un.kept λ_ _ q=>q
theorem Un.laid (k:∀ b u,h.get? b=some u->h'.get? b=some u)(hp:h.objs.size<=a)(hn:H a=none):Un fs ex H (oj H a o) h h' where
 keep:=λb u q _ _ _=>k b u q
 slot:=λb u q _ _ _=>⟨u.slots,k b u q⟩
 free:=λb u q n _=>by rw[nv (kq (dN (kH q) hp))];exact n
 there:=λb u q _=>⟨u,k b u q⟩
 tups:=λb xs q=>by rw[nv (oo q hn)];exact q
 frzs:=λb u xs q=>by rw[nv (oo q hn)];exact q
 tbls:=λb ps q=>⟨#[],by rw[nv (oo q hn),q];simp⟩
theorem Un.write (mu:MD (H x))(he:e=x ∨ H e=some (.own x))(k:∀ b u,b≠e->h.get? b=some u->h'.get? b=some u)(heo:∃ u,h'.get? e=some u):Un fs ex H (oj H x o) h h':=by
 have hx:∀ b,H b=none->b≠x:=λb n z=>by subst z;rw[n] at mu;exact mu
 have hb:∀ b,H b=none->b≠e:=λb n z=>by
  subst z
  rcases he with r|r
  ·exact hx b n r
  ·rw[n] at r;cases r
 have hm:∀ b u,H b=some u->¬ MD (some u)->b≠x:=λb u q nm z=>by subst z;rw[q] at mu;exact nm mu
 refine⟨λb u q n _ _=>k b u (hb b n) q,λb u q n _ _=>⟨u.slots,k b u (hb b n) q⟩,λb u q n _=>by rw[nv (hx b n)];exact n,λb u q _=>?_,
  λb xs q=>by rw[nv (hm b _ q λz=>z)];exact q,λb u xs q=>by rw[nv (hm b _ q λz=>z)];exact q,λb ps q=>⟨#[],by rw[nv (hm b _ q λz=>z),q];simp⟩⟩
 by_cases hbe:b=e
 ·subst hbe;exact heo
 ·exact⟨u,k b u hbe q⟩
end
def MQ (h:mY)(H:Hp):List m4:=(lK h.objs.size).filter λa=>(H a).isSome
def xf (h:mY)(H:Hp):mY:=PySem.W.hideAll h (MQ h H)
theorem B0 (h:mY)(H:Hp):(xf h H).objs.size=h.objs.size:=PySem.W.hideAll_size _ _
theorem DW {h:mY}{H:Hp}{b:m4}{o:Obj}(e:h.get? b=some o)(n:H b=none):(xf h H).get? b=some o :=
 PySem.W.hideAll_get _ e λhm=>by
  have q:(H b).isSome=true:=(ip.mp hm).2
  rw[n] at q;simp at q
theorem Fp {h:mY}{H:Hp}{b:m4}{o:Obj}(e:(xf h H).get? b=some o):h.get? b=some o/\H b=none:=by
 have e':h.get? b=some o:=PySem.W.of_hideAll (MQ h H) e
 refine⟨e',?_⟩
 cases q:H b with
 | none=>rfl
 | some x =>
  have hm:b∈MQ h H:=ip.mpr ⟨jh.mpr (kH e'),by simp[q]⟩
  have z:(xf h H).get? b=none:=PySem.W.hideAll_none (MQ h H) hm
  rw[z] at e;cases e
end L2
namespace L2
open PySem PySem.Spec PyProof.Rows
structure Mod (K:kj)(mg:Str->Option mM)(base:mY):Prop where
 kin:K.In base
 glob:base.Ns mainGlobals mg
 blt:∃ mb,base.Ns builtinsNs mb/\∀ x:Str,x≠"__name__"->mb x=bootBuiltins x
 nolimit:base.NoLimit
set_option genInjectivity true in
structure Cx where
 prog:mm
 w:mL
 K:kj
 mg:Str->Option mM
 base:mY
 A:mK
 N:List Str
 s₀:mD
 H₀:Hp
 env:Env
 outer:List Env
 stack:List Env
 ex:List m4
 fn:Str->Bool
 calm:Bool
 pn:List (m4×Obj)
 xe:mM->mD->Prop
def xG (l:List Env):List m4:=l.filterMap (·.frame)
abbrev Cx.fs (X:Cx):List m4:=xG X.outer
def Kp (sc:mN)(x:Str):Prop:=sc.names.lookup x=some .local ∨ sc.names.lookup x=some .cell ∨ sc.names.lookup x=some .free
def Loc (sc:mN)(x:Str):Prop:=sc.names.lookup x=some .local ∨ sc.names.lookup x=some .cell
def Look (env:Env)(h:mY)(m:Str->Option mM)(x:Str)(u:mM):Prop :=
 (env.kindOf x=some .local/\m x=some u) ∨ ((env.kindOf x=some .cell ∨ env.kindOf x=some .free)/\∃ c,env.cells.lookup x=some c/\h.IsCell c (some u))
set_option genInjectivity true in
structure Cx.Ok (X:Cx):Prop where
 mod:Mod X.K X.mg X.base
 kind:X.env.scope.kind=.function
 glob:X.env.globals=mainGlobals
 blt:X.env.builtins=builtinsNs
 above:X.s₀.heap.objs.size<=X.env.locals
 inj:∀ x y c,X.env.cells.lookup x=some c->X.env.cells.lookup y=some c->x=y
 has:∀ x,(X.env.kindOf x=some .cell ∨ X.env.kindOf x=some .free)->∃ c,X.env.cells.lookup x=some c
 cab:∀ x c,X.fn x=true->X.env.cells.lookup x=some c->X.s₀.heap.objs.size<=c
 hd:X.calm=true->X.A.handled=none
 frames:X.A.frames=some X.stack
 stk:X.stack=X.outer ∨ (X.stack=X.env :: X.outer/\X.env.frame=some X.env.locals)
 exf:∀ b∈X.ex,b≠X.env.locals/\∀ x c,X.env.cells.lookup x=some c->c≠b
 bs:∀ b o,X.base.get? b=some o->X.s₀.heap.get? b=some o/\X.H₀ b=none
 bsz:X.base.objs.size<=X.s₀.heap.objs.size
 noex:∀ b o,X.base.get? b=some o->b ∉ X.ex
 exfs:∀ b∈X.ex,b ∉ X.fs
 funs:X.s₀.heap.FunFrames X.base X.outer
 frf:∀ b∈X.fs,X.H₀ b=none
structure Inv (X:Cx)(Z9:List (m4×Obj))(σ:List (Option V))(H:Hp)(s:mD):Prop where
 ok:X.Ok
 os:s.os=X.s₀.os
 bare:mB s.gens
 base:Un X.fs X.ex X.H₀ H X.s₀.heap s.heap
 loc:∃ m,s.heap.Ns X.env.locals m/\∀ (i:Nat)(x:Str)(v:V),X.N[i]?=some x->σ[i]?=some (some v)->Kp X.env.scope x->∃ u,RelV v u/\Look X.env s.heap m x u
 cell:∀ x c,X.env.cells.lookup x=some c->∃ v,s.heap.IsCell c v
 free:H X.env.locals=none
 freeC:∀ x c,X.env.cells.lookup x=some c->H c=none
 pin:∀ p∈X.pn++Z9,s.heap.get? p.1=some p.2/\H p.1=none/\p.1≠X.env.locals/\p.1 ∉ X.fs/\∀ v,p.2.data≠.cell v
 hok:HOk X.prog X.w H s.heap
 len:σ.length=X.N.length
section
variable {X:Cx}{Z9:List (m4×Obj)}{σ:List (Option V)}{H H':Hp}{s:mD}{h':mY}
theorem Cx.Ok.nofr (ok:X.Ok){b:m4}{o:Obj}(e:X.base.get? b=some o):b ∉ X.fs:=λhb=>by
 have:=(ok.funs.mem hb).1
 rw[e] at this;cases this
theorem Inv.bs (I:Inv X Z9 σ H s):∀ b o,X.base.get? b=some o->s.heap.get? b=some o/\H b=none:=λb o e =>
 ⟨I.base.keep b o (I.ok.bs b o e).1 (I.ok.bs b o e).2 (I.ok.nofr e) (I.ok.noex b o e),I.base.free b o (I.ok.bs b o e).1 (I.ok.bs b o e).2 (I.ok.noex b o e)⟩
theorem Inv.bk (I:Inv X Z9 σ H s):∀ b o,X.base.get? b=some o->s.heap.get? b=some o:=λb o e=>(I.bs b o e).1
theorem Inv.mod (I:Inv X Z9 σ H s):Mod X.K X.mg X.base:=I.ok.mod
theorem Inv.kIn (I:Inv X Z9 σ H s):X.K.In s.heap:=I.ok.mod.kin.keeps I.bk
theorem Inv.lt (I:Inv X Z9 σ H s):X.env.locals<s.heap.objs.size:=let ⟨_,hn,_⟩:=I.loc;hn.lt
theorem Inv.sz (I:Inv X Z9 σ H s):X.s₀.heap.objs.size<=s.heap.objs.size:=kA I.ok.above (kB I.lt)
theorem Inv.nofs (I:Inv X Z9 σ H s){a:m4}(h:s.heap.objs.size<=a):a ∉ X.fs:=λhb=>by
 let(_,o,ho,_):=I.ok.funs.mem hb
 exact absurd (dN (kH ho) (kA I.sz h)) (jK _)
theorem Inv.cne (I:Inv X Z9 σ H s):∀ x c,X.env.cells.lookup x=some c->c≠X.env.locals:=λx c e z=>by
 let(v,o,ho,hd):=I.cell x c e
 let(m,(o',es,ep,ho',hd',_),_):=I.loc
 rw[z,ho'] at ho;cases ho;rw[hd'] at hd;cases hd
theorem Inv.funs (I:Inv X Z9 σ H s):s.heap.FunFrames X.base X.outer:=by
 have all:∀ (l:List Env),(∀ b∈xG l,b∈X.fs)->X.s₀.heap.FunFrames X.base l->s.heap.FunFrames X.base l:=by
  intro l
  induction l with
  | nil=>intro _ _;trivial
  | cons env r ih =>
   intro hs hl
   let(hk,(L,o,hf,hn,ho,hd),hr):=hl
   have hL:L∈X.fs:=hs L (by unfold xG;rw[dh,hf];exact dX)
   let(sl,e):=I.base.slot L o ho (I.ok.frf L hL) hL λz=>I.ok.exfs L z hL
   exact⟨hk,⟨L,_,hf,hn,e,hd⟩,ih (λb hb=>hs b (by unfold xG;rw[dh,hf];exact cM _ hb)) hr⟩
 exact all X.outer (λ_ hb=>hb) I.ok.funs
theorem Inv.stack (I:Inv X Z9 σ H s):s.heap.FunFrames X.base X.stack:=by
 rcases I.ok.stk with e|⟨e,hf⟩
 ·rw[e];exact I.funs
 ·rw[e]
  let(m,hn,_):=I.loc
  refine .cons (by rw[I.ok.kind];decide) hf hn ?_ I.funs
  exact Heap.get?_none_of_le (kA I.ok.bsz I.ok.above)
theorem Inv.stkSub (I:Inv X Z9 σ H s):∀ b∈xG X.stack,b∈X.env.locals :: X.fs:=λb hb=>by
 rcases I.ok.stk with e|⟨e,hf⟩
 ·rw[e] at hb;exact cM _ hb
 ·rw[e] at hb
  unfold xG at hb
  rw[dh,hf] at hb
  exact hb
theorem Inv.stkFree (I:Inv X Z9 σ H s):∀ b∈xG X.stack,H b=none:=λb hb=>by
 rcases jP.mp (I.stkSub b hb) with e|hb
 ·rw[e];exact I.free
 ·let(_,o,ho,_):=I.ok.funs.mem hb
  exact I.base.free b o ho (I.ok.frf b hb) λz=>I.ok.exfs b z hb
theorem Inv.step {g':Array GenState}{t':Nat}{d':mU}{ch:List m4}(I:Inv X Z9 σ H s)
  (hch:∀ b∈ch,(b∈X.ex ∨ X.s₀.heap.objs.size<=b)/\b≠X.env.locals/\(∀ x c,X.env.cells.lookup x=some c->c≠b)/\∀ p∈X.pn++Z9,p.1≠b)
  (keep:∀ b o,b≠X.env.locals->b ∉ X.fs->b ∉ ch->s.heap.get? b=some o->H b=none->h'.get? b=some o)
  (slot:∀ b o,b≠X.env.locals->b∈X.fs->b ∉ ch->s.heap.get? b=some o->H b=none->∃ sl,h'.get? b=some { o with slots:=sl })(free:∀ b o,b ∉ ch->s.heap.get? b=some o->H b=none->H' b=none)
  (there:∀ b o,b ∉ ch->s.heap.get? b=some o->∃ o',h'.get? b=some o')
  (tups:∀ b xs,H b=some (.tup xs)->H' b=some (.tup xs))(frzs:∀ b o u,H b=some (.frz o u)->H' b=some (.frz o u))(tbls:∀ b ps,H b=some (.tbl ps)->∃ more,H' b=some (.tbl (ps++more)))
  (ns:∀ m,s.heap.Ns X.env.locals m->h'.Ns X.env.locals m)(hok:HOk X.prog X.w H' h')(hg:mB g') :
  Inv X Z9 σ H' { s with heap:=h',gens:=g',drawn:=d',toks:=t' }:=by
 have neL:∀ b o,X.s₀.heap.get? b=some o->b≠X.env.locals:=λb o e=>kq (dN (kH e) I.ok.above)
 have neC:∀ b o,X.s₀.heap.get? b=some o->b ∉ X.ex->b ∉ ch:=λb o e hx hb=>by
  rcases (hch b hb).1 with z|z
  ·exact hx z
  ·exact absurd (dN (kH e) z) (jK _)
 have cellK:∀ x c,X.env.cells.lookup x=some c->∀ v,s.heap.IsCell c v->h'.IsCell c v:=λx c e v q1=>by
  let(o,ho,hd):=q1
  have nch:c ∉ ch:=λz=>(hch c z).2.2.1 x c e rfl
  by_cases hc:c∈X.fs
  ·let(sl,q):=slot c o (I.cne x c e) hc nch ho (I.freeC x c e)
   exact⟨_,q,hd⟩
  ·exact⟨o,keep c o (I.cne x c e) hc nch ho (I.freeC x c e),hd⟩
 refine⟨I.ok,I.os,hg,⟨λb o e n hb hx=>?_,λb o e n hb hx=>?_,λb o e n hx=>?_,λb o e hx=>?_,λb xs e=>tups b xs (I.base.tups b xs e),λb o xs e=>frzs b o xs (I.base.frzs b o xs e),λb ps e=>?_⟩,?_,λx c e=>?_,?_,λx c e=>?_,λp hp=>?_,hok,I.len⟩
 ·exact keep b o (neL b o e) hb (neC b o e hx) (I.base.keep b o e n hb hx) (I.base.free b o e n hx)
 ·let(sl,e1):=I.base.slot b o e n hb hx
  let(sl',e2):=slot b _ (neL b o e) hb (neC b o e hx) e1 (I.base.free b o e n hx)
  exact⟨sl',e2⟩
 ·let(o',e1):=I.base.there b o e hx
  exact free b o' (neC b o e hx) e1 (I.base.free b o e n hx)
 ·let(o',e1):=I.base.there b o e hx
  exact there b o' (neC b o e hx) e1
 ·let(m1,e1):=I.base.tbls b ps e
  let(m2,e2):=tbls b _ e1
  exact⟨m1++m2,by rw[e2,eG]⟩
 ·let(m,hn,hl):=I.loc
  refine⟨m,ns m hn,λi x v e1 e2 e3=>?_⟩
  let(u,r,l):=hl i x v e1 e2 e3
  refine⟨u,r,?_⟩
  rcases l with l|⟨k,c,e,z⟩
  ·exact .inl l
  ·exact .inr ⟨k,c,e,cellK x c e _ z⟩
 ·let(v,z):=I.cell x c e
  exact⟨v,cellK x c e v z⟩
 ·let(m,(o,_,_,ho,_),_):=I.loc
  exact free _ o (λz=>(hch _ z).2.1 rfl) ho I.free
 ·let(v,o,ho,hd):=I.cell x c e
  exact free c o (λz=>(hch c z).2.2.1 x c e rfl) ho (I.freeC x c e)
 ·let(e,n,ne,nf,d):=I.pin p hp
  have nch:p.1 ∉ ch:=λz=>(hch p.1 z).2.2.2 p hp rfl
  exact⟨keep p.1 p.2 ne nf nch e n,free p.1 p.2 nch e n,ne,nf,d⟩
theorem Inv.un {t':Nat}(I:Inv X Z9 σ H s)(u:Un X.fs [] H H' s.heap h')(hok:HOk X.prog X.w H' h'):Inv X Z9 σ H' { s with heap:=h',toks:=t' }:=by
 let(m,(o,es,ep,ho,r),_):=id I.loc
 let(sl,hL):=u.any ho I.free (by simp)
 exact I.step (g':=s.gens) (d':=s.drawn) (ch:=[]) (λ_ z=>nomatch z) (λb o _ hb _ e n=>u.keep b o e n hb (by simp)) (λb o _ hb _ e n=>u.slot b o e n hb (by simp)) (λb o _ e n=>u.free b o e n (by simp)) (λb o _ e=>u.there b o e (by simp)) u.tups u.frzs u.tbls (λm' hm=>by
  let(o',es',ep',ho',r'):=hm
  rw[ho] at ho';cases ho'
  exact⟨_,es',ep',hL,r'⟩) hok I.bare
theorem Inv.call {g':Array GenState}{t':Nat}{d':mU}{ch:List m4}(I:Inv X Z9 σ H s)(u:Un (xG X.stack) ch H H' s.heap h')(hok:HOk X.prog X.w H' h')(hg:mB g')
  (hch:∀ b∈ch,(b∈X.ex ∨ X.s₀.heap.objs.size<=b)/\b≠X.env.locals/\(∀ x c,X.env.cells.lookup x=some c->c≠b)/\∀ p∈X.pn++Z9,p.1≠b) :
  Inv X Z9 σ H' { s with heap:=h',gens:=g',drawn:=d',toks:=t' }:=by
 let(m,(o,es,ep,ho,r),_):=id I.loc
 let(sl,hL):=u.any ho I.free λz=>(hch _ z).2.1 rfl
 exact I.step (ch:=ch) hch (λb o hL hb hc e n=>u.keep b o e n (λz=>(jP.mp (I.stkSub b z)).elim hL hb) hc) (λb o _ _ hc e n=>u.any e n hc) (λb o hc e n=>u.free b o e n hc) (λb o hc e=>u.there b o e hc) u.tups u.frzs u.tbls (λm' hm=>by
  let(o',es',ep',ho',r'):=hm
  rw[ho] at ho';cases ho'
  exact⟨_,es',ep',hL,r'⟩) hok hg
theorem Inv.turned {t':Nat}{it:m4}(I:Inv X Z9 σ H s)(k:∀ b o,b≠it->s.heap.get? b=some o->h'.get? b=some o)(hn:H it=none)(hL:it≠X.env.locals)
  (h1:it∈X.ex ∨ X.s₀.heap.objs.size<=it)(h2:∀ x c,X.env.cells.lookup x=some c->c≠it)(h3:∀ p∈X.pn++Z9,p.1≠it):Inv X Z9 σ H { s with heap:=h',toks:=t' }:=by
 have nit:∀ b u,H b=some u->b≠it:=λb u e z=>by rw[z,hn] at e;cases e
 refine I.step (g':=s.gens) (d':=s.drawn) (ch:=[it]) (λb hb=>?_) (λb o _ _ hc e _=>k b o (λz=>hc (by simp[z])) e) (λb o _ _ hc e _=>⟨o.slots,k b o (λz=>hc (by simp[z])) e⟩) (λ_ _ _ _ n=>n)
  (λb o hc e=>⟨o,k b o (λz=>hc (by simp[z])) e⟩) (λ_ _ e=>e) (λ_ _ _ e=>e) (λb ps e=>⟨#[],by rw[e];simp⟩) (λm hm=>?_) (λb u e=>?_) I.bare
 ·have e:b=it:=by simpa using hb
  subst e
  exact⟨h1,hL,h2,h3⟩
 ·let(o,es,ep,ho,r):=hm
  exact⟨o,es,ep,k _ o (mq hL) ho,r⟩
 ·refine (I.hok b u e).stay (λc v hc q=>k c v ?_ q) (λ_ q=>q) λ_ _ q=>q
  rcases hc with z|z
  ·rw[z];exact nit b u e
  ·exact nit c _ z
theorem Inv.tok (I:Inv X Z9 σ H s) (t:Nat):Inv X Z9 σ H { s with toks:=t }:=I.un (h':=s.heap) (t':=t) Un.refl I.hok
theorem Inv.kept {t':Nat}(I:Inv X Z9 σ H s)(k:∀ b u,s.heap.get? b=some u->h'.get? b=some u):Inv X Z9 σ H { s with heap:=h',toks:=t' }:=I.un (Un.kept k) (I.hok.kept k)
theorem Inv.laid {a:m4}{o:HO}{t':Nat}(I:Inv X Z9 σ H s)(k:∀ b u,s.heap.get? b=some u->h'.get? b=some u)(hp:s.heap.objs.size<=a)(new:ObjOk X.prog X.w (oj H a o) h' a o) :
  Inv X Z9 σ (oj H a o) { s with heap:=h',toks:=t' }:=I.un (Un.laid k hp (I.hok.fresh hp)) (I.hok.laid k hp new)
theorem Inv.write {x e:m4}{o:HO}{t':Nat}(I:Inv X Z9 σ H s)(mu:MD (H x))(he:e=x ∨ H e=some (.own x))(k:∀ b u,b≠e->s.heap.get? b=some u->h'.get? b=some u)(heo:∃ u,h'.get? e=some u)
  (new:ObjOk X.prog X.w (oj H x o) h' x o):Inv X Z9 σ (oj H x o) { s with heap:=h',toks:=t' }:=I.un (Un.write mu he k heo) (I.hok.write mu he k heo new)
theorem Inv.weak {σ':List (Option V)}(I:Inv X Z9 σ H s)(hl:σ'.length=σ.length)(w:∀ (i:Nat) v,σ'[i]?=some (some v)->σ[i]?=some (some v)):Inv X Z9 σ' H s :=
 ⟨I.ok,I.os,I.bare,I.base,let ⟨m,hn,hl'⟩:=I.loc;⟨m,hn,λi x v e1 e2 e3=>hl' i x v e1 (w i v e2) e3⟩,I.cell,I.free,I.freeC,I.pin,I.hok,hl.trans I.len⟩
theorem Inv.pins_of {pins':List (m4×Obj)}(I:Inv X Z9 σ H s)(h:∀ p∈pins',s.heap.get? p.1=some p.2/\H p.1=none/\p.1≠X.env.locals/\p.1 ∉ X.fs/\∀ v,p.2.data≠.cell v):Inv X pins' σ H s :=
 ⟨I.ok,I.os,I.bare,I.base,I.loc,I.cell,I.free,I.freeC,λp hp=>(iq.mp hp).elim (λz=>I.pin p (cN _ z)) (h p),I.hok,I.len⟩
theorem xY {N:List Str}(hN:N.Nodup){i j:Nat}{x:Str}(a:N[i]?=some x)(b:N[j]?=some x):i=j:=by
 let(h1,e1):=aN.mp a
 let(h2,e2):=aN.mp b
 exact (List.getElem_inj hN).mp (e1.trans e2.symm)
theorem vH {M:mP}{A:mK}{E:mM->mD->Prop}{i:Nat}{x:Str}{v:V}{u:mM}{Q:Unit->mD->Prop}(I:Inv X Z9 σ H s)(hN:X.N.Nodup)(hi:X.N[i]?=some x)(hx:Loc X.env.scope x)(r:RelV v u)
  (h:∀ s',Inv X Z9 (σ.set i (some v)) H s'->(∃ a,kI a s.heap s'.heap/\(a=X.env.locals ∨ X.env.cells.lookup x=some a))->Q () s')(hf:X.fn x=true ∨ X.env.scope.names.lookup x=some .local:=by first|exact .inl rfl|exact .inr rfl|assumption):wpAny M A (storeName X.env x u) Q E s:=by
 let(m,hn,hl):=id I.loc
 have hcls:(X.env.scope.kind == .class || (X.env.scope.kind == .module && X.env.locals != X.env.globals))=false:=by rw[I.ok.kind];rfl
 have hiσ:i<σ.length:=by rw[I.len];exact (aN.mp hi).1
 have cne:=I.cne
 have tracked:∀ {a:m4}{h':mY},(∃ o,s.heap.get? a=some o/\H a=none)->kI a s.heap h'->HOk X.prog X.w H h':=λ{a h'} ha hs b ob e=>by
  let(_,_,hfree):=ha
  refine (I.hok b ob e).stay (λc w' hc q=>(hs.2 c ?_).trans q) (λ_ q=>q) λ_ _ q=>q
  rintro rfl
  rcases hc with rfl|hc
  ·rw[hfree] at e;cases e
  ·rw[hfree] at hc;cases hc
 rcases hx with hk|hk
 ·refine wpAny_storeName_local hk hn (λh' hn' hs=>?_) hcls
  let(oL,_,_,hoL,_):=id hn
  refine h _ ⟨I.ok,I.os,I.bare,⟨λb o e n hb hx=>?_,λb o e n hb hx=>?_,I.base.free,λb o e hx=>?_,I.base.tups,I.base.frzs,I.base.tbls⟩,⟨_,hn',λj y v' e1 e2 e3=>?_⟩,λy c e=>?_,I.free,I.freeC,λp hp=>?_,tracked ⟨oL,hoL,I.free⟩ hs,by simpa using I.len⟩ ⟨_,hs,.inl rfl⟩
  ·exact (hs.2 b (kq (dN (kH e) I.ok.above))).trans (I.base.keep b o e n hb hx)
  ·let(sl,e1):=I.base.slot b o e n hb hx
   exact⟨sl,(hs.2 b (kq (dN (kH e) I.ok.above))).trans e1⟩
  ·let(o',e1):=I.base.there b o e hx
   exact⟨o',(hs.2 b (kq (dN (kH e) I.ok.above))).trans e1⟩
  ·by_cases hj:j=i
   ·subst hj
    rw[hi] at e1;cases e1
    rw[bO hiσ] at e2
    cases e2
    exact⟨u,r,.inl ⟨hk,by simp⟩⟩
   ·rw[cO (mq hj)] at e2
    let(u',r',q):=hl j y v' e1 e2 e3
    refine⟨u',r',?_⟩
    rcases q with⟨k,e⟩|⟨k,c,e,z⟩
    ·refine .inl ⟨k,?_⟩
     have:y≠x:=λe=>hj (xY hN e1 (e ▸ hi))
     simp[this,e]
    ·exact .inr ⟨k,c,e,z.sameBut hs (cne y c e)⟩
  ·let(w',z):=I.cell y c e
   exact⟨w',z.sameBut hs (cne y c e)⟩
  ·let(e,n,ne,nf,d):=I.pin p hp
   exact⟨(hs.2 p.1 ne).trans e,n,ne,nf,d⟩
 ·have hfn:X.fn x=true:=by
   rcases hf with z|z
   ·exact z
   ·rw[z] at hk;cases hk
  let(c,hc):=I.ok.has x (.inl hk)
  let(w',z):=I.cell x c hc
  refine wpAny_storeName_cell I.ok.kind hk hc z (λh' hc' hs=>?_)
  let(oc,hoc,hocd):=id z
  refine h { s with heap:=h' } ⟨I.ok,I.os,I.bare,⟨λb o e n hb hx=>?_,λb o e n hb hx=>?_,I.base.free,λb o e hx=>?_,I.base.tups,I.base.frzs,I.base.tbls⟩,⟨m,hn.sameBut hs (mq (cne x c hc)),λj y v' e1 e2 e3=>?_⟩,λy c' e=>?_,I.free,I.freeC,λp hp=>?_,tracked ⟨oc,hoc,I.freeC x c hc⟩ hs,by simpa using I.len⟩ ⟨c,hs,.inr hc⟩
  ·exact (hs.2 b (kq (dN (kH e) (I.ok.cab x c hfn hc)))).trans (I.base.keep b o e n hb hx)
  ·let(sl,e1):=I.base.slot b o e n hb hx
   exact⟨sl,(hs.2 b (kq (dN (kH e) (I.ok.cab x c hfn hc)))).trans e1⟩
  ·let(o',e1):=I.base.there b o e hx
   exact⟨o',(hs.2 b (kq (dN (kH e) (I.ok.cab x c hfn hc)))).trans e1⟩
  ·by_cases hj:j=i
   ·subst hj
    rw[hi] at e1;cases e1
    rw[bO hiσ] at e2
    cases e2
    exact⟨u,r,.inr ⟨.inl hk,c,hc,hc'⟩⟩
   ·rw[cO (mq hj)] at e2
    let(u',r',q):=hl j y v' e1 e2 e3
    refine⟨u',r',?_⟩
    rcases q with q|⟨k,c',e,z'⟩
    ·exact .inl q
    ·refine .inr ⟨k,c',e,z'.sameBut hs ?_⟩
     rintro rfl
     exact hj (xY hN e1 (I.ok.inj _ _ _ e hc ▸ hi))
  ·by_cases hcc:c'=c
   ·subst hcc;exact⟨_,hc'⟩
   ·let(w2,z2):=I.cell y c' e
    exact⟨w2,z2.sameBut hs hcc⟩
  ·let(e,n,ne,nf,d):=I.pin p hp
   refine⟨(hs.2 p.1 ?_).trans e,n,ne,nf,d⟩
   intro q
   rw[q,hoc] at e
   have q':oc=p.2:=hW e
   exact d w' (by rw[<- q'];exact hocd)
theorem qS {M:mP}{A:mK}{E:mM->mD->Prop}{i:Nat}{x:Str}{v:V}{u:mM}{Q:Unit->mD->Prop}(I:Inv X Z9 σ H s)(hN:X.N.Nodup)(hi:X.N[i]?=some x)(hx:Loc X.env.scope x)(r:RelV v u)
  (h:∀ s',Inv X Z9 (σ.set i (some v)) H s'->Q () s')(hf:X.fn x=true ∨ X.env.scope.names.lookup x=some .local:=by first|exact .inl rfl|exact .inr rfl|assumption):wpAny M A (storeName X.env x u) Q E s :=
 vH I hN hi hx r (λs' I' _=>h s' I') hf
theorem Inv.call' {s':mD}{ch:List m4}(I:Inv X Z9 σ H s)(ho:s'.os=s.os)(u:Un (xG X.stack) ch H H' s.heap s'.heap)(hok:HOk X.prog X.w H' s'.heap)(hg:mB s'.gens)
  (hch:∀ b∈ch,(b∈X.ex ∨ X.s₀.heap.objs.size<=b)/\b≠X.env.locals/\(∀ x c,X.env.cells.lookup x=some c->c≠b)/\∀ p∈X.pn++Z9,p.1≠b):Inv X Z9 σ H' s':=by
 let(h',g',d',t',o'):=s'
 have e:o'=s.os:=ho
 subst e
 exact I.call (g':=g') (t':=t') (d':=d') u hok hg hch
end
abbrev XK:=mM->Option m4->Hp->Prop
abbrev St:=List (Option V)
abbrev VK:=V->Hp->Prop
abbrev TE:=St->Hp->VK->Prop
abbrev TT:=St->Hp->(Bool->Hp->Prop)->Prop
abbrev TA:=St->Hp->(List V->Hp->Prop)->Prop
structure Ends where
 nx:St->Hp->Prop
 rt:VK
 bk:St->Hp->Prop:=λ_ _=>False
 ct:St->Hp->Prop:=λ_ _=>False
abbrev TS:=Ends->St->Hp->Prop
inductive EP (X:Cx)(Z9:List (m4×Obj))(σ:St)(Q:VK)(u:mM)(s':mD):Prop
 | mk (v:_)(H':_)(_:Inv X Z9 σ H' s')(_:RelV v u)(_:Q v H'):EP X Z9 σ Q u s'
inductive TP (X:Cx)(Z9:List (m4×Obj))(σ:St)(Q:Bool->Hp->Prop)(b:Bool)(s':mD):Prop
 | mk (H':_)(_:Inv X Z9 σ H' s')(_:Q b H'):TP X Z9 σ Q b s'
inductive AP (X:Cx)(Z9:List (m4×Obj))(σ:St)(Q:List V->Hp->Prop)(us:List mM)(s':mD):Prop
 | mk (vs:_)(H':_)(_:Inv X Z9 σ H' s')(_:Vals vs us)(_:Q vs H'):AP X Z9 σ Q us s'
def SP (X:Cx)(Z9:List (m4×Obj))(D:Ends)(f:Flow)(s':mD):Prop :=
 match f with
 | .next=>∃ σ' H',Inv X Z9 σ' H' s'/\D.nx σ' H'
 | .brk=>∃ σ' H',Inv X Z9 σ' H' s'/\D.bk σ' H'
 | .cont=>∃ σ' H',Inv X Z9 σ' H' s'/\D.ct σ' H'
 | .ret u=>∃ v σ' H',Inv X Z9 σ' H' s'/\RelV v u/\D.rt v H'
def PE (X:Cx)(e:Expr)(t:TE):Prop :=
 ∀ (Z9:List (m4×Obj))(s:mD)(σ:St)(H:Hp)(Q:VK),Inv X Z9 σ H s->t σ H Q->wpAny (model X.prog X.w) X.A (eval e X.env) (EP X Z9 σ Q) X.xe s
def PT (X:Cx)(e:Expr)(t:TT):Prop :=
 ∀ (Z9:List (m4×Obj))(s:mD)(σ:St)(H:Hp)(Q:Bool->Hp->Prop),Inv X Z9 σ H s->t σ H Q->wpAny (model X.prog X.w) X.A (isTrue e X.env (eval e X.env)) (TP X Z9 σ Q) X.xe s
def PW (X:Cx)(e:Expr)(t:TT):Prop :=
 ∀ (whole:Sem mM)(Z9:List (m4×Obj))(s:mD)(σ:St)(H:Hp)(Q:Bool->Hp->Prop),Inv X Z9 σ H s->t σ H Q->wpAny (model X.prog X.w) X.A (isTrue e X.env whole) (TP X Z9 σ Q) X.xe s
theorem PW.pt {X:Cx}{e:Expr}{t:TT}(h:PW X e t):PT X e t:=h _
def PA (X:Cx)(es:List Expr)(t:TA):Prop :=
 ∀ (pos:Pos)(Z9:List (m4×Obj))(s:mD)(σ:St)(H:Hp)(Q:List V->Hp->Prop),Inv X Z9 σ H s->t σ H Q->wpAny (model X.prog X.w) X.A (spliced (backTo pos (starEach es X.env))) (AP X Z9 σ Q) X.xe s
def PS (X:Cx)(st:mX)(t:TS):Prop :=
 ∀ (Z9:List (m4×Obj))(s:mD)(σ:St)(H:Hp)(D:Ends),Inv X Z9 σ H s->t D σ H->wpAny (model X.prog X.w) X.A (exec st X.env) (SP X Z9 D) X.xe s
def PSs (X:Cx)(st:List mX)(t:TS):Prop :=
 ∀ (Z9:List (m4×Obj))(s:mD)(σ:St)(H:Hp)(D:Ends),Inv X Z9 σ H s->t D σ H->wpAny (model X.prog X.w) X.A (execs st X.env) (SP X Z9 D) X.xe s
theorem nW {α:Type}{t:Sem α}{Q Q':α->mD->Prop}{M:mP}{A:mK}{E:mM->mD->Prop}{s:mD}(h:wpAny M A t Q E s)(hQ:∀ a s,Q a s->Q' a s):wpAny M A t Q' E s:=lg h hQ λ_ _ x=>x
end L2
namespace L2
open PySem PySem.Spec PyProof.Rows
section
variable {X:Cx}
inductive tVar (i:Nat)(σ:L2.St)(H:Hp)(Q:VK):Prop
 | mk (v:_)(_:σ[i]?=some (some v))(_:Q v H):tVar i σ H Q
def tC (v:V):TE:=λ_ H Q=>Q v H
theorem zu {i:Nat}{x:Str}{pos:Pos}(hN:X.N[i]?=some x)(hv:Kp X.env.scope x)(hd:(x == ("__debug__":Str))=false:=by decide)(hcd:(x == ("__classdict__":Str))=false:=by decide):PE X (.Name x pos) (tVar i):=by
 intro Z9 s σ H Q I h
 let(v,e,h):=h
 let(m,hn,hl):=I.loc
 let(u,r,l):=hl i x v hN e hv
 have fin:EP X Z9 σ Q u s:=⟨v,H,I,r,h⟩
 rcases l with⟨hk,hm⟩|⟨hk,c,hc,hcell⟩
 ·exact lm (cD I.ok.kind hk hn hm fin) hd
 ·rcases hk with hk|hk
  ·exact lm (c5 I.ok.kind hk hc hcell fin) hd
  ·exact lm (wpAny_loadName_free I.ok.kind hk hc hcell fin hcd) hd
theorem Dk {i j pos}:PE X (.Constant (.int i) j pos) (tC (.int i)):=λ_ _ _ H _ I h=>wpAny_Constant_int ⟨.int i,H,I.tok _,⟨_,rfl⟩,h⟩
theorem Le {b j pos}:PE X (.Constant (.bool b) j pos) (tC (.bl b)):=λ_ _ _ H _ I h=>Constant_bool ⟨.bl b,H,I,rfl,h⟩
theorem HY {j pos}:PE X (.Constant .none j pos) (tC .non):=λ_ _ _ H _ I h=>jW ⟨.non,H,I,rfl,h⟩
theorem Di {x j pos}:PE X (.Constant (.str x) j pos) (tC (.str x)):=λ_ _ _ H _ I h=>Calls.Constant_str ⟨.str x,H,I.tok _,⟨_,rfl⟩,h⟩
def Gl (X:Cx)(x:Str):Prop:=X.env.kindOf x=some .globalImplicit
theorem FK {E:mM->mD->Prop}{Z9:List (m4×Obj)}{s:mD}{σ:St}{H:Hp}{x:Str}{u:mM}{pos:Pos}{Q:mM->mD->Prop}(I:Inv X Z9 σ H s)(hg:Gl X x)(hm:X.mg x=some u)(h:Q u s)
  (hd:(x == ("__debug__":Str))=false:=by decide):wpAny (model X.prog X.w) X.A (eval (.Name x pos) X.env) Q E s :=
 aE I.ok.kind hg (Calls.loadGlobal_global (by rw[I.ok.glob];exact I.mod.glob.keeps I.bk) hm h) hd
theorem pL {E:mM->mD->Prop}{Z9:List (m4×Obj)}{s:mD}{σ:St}{H:Hp}{x:Str}{u:mM}{pos:Pos}{Q:mM->mD->Prop}(I:Inv X Z9 σ H s)(hg:Gl X x)(hm:X.mg x=none)(hv:bootBuiltins x=some u)(h:Q u s)
  (hn:x≠"__name__":=by decide)(hd:(x == ("__debug__":Str))=false:=by decide):wpAny (model X.prog X.w) X.A (eval (.Name x pos) X.env) Q E s:=by
 let(mb,h1,h2):=I.mod.blt
 exact aE I.ok.kind hg (Calls.loadGlobal_builtin (by rw[I.ok.glob];exact I.mod.glob.keeps I.bk) hm (by rw[I.ok.blt];exact h1.keeps I.bk) ((h2 x hn).trans hv) h) hd
theorem Fg {x:Str}{v:V}{u:mM}{pos:Pos}(hg:Gl X x)(hm:X.mg x=none)(hv:bootBuiltins x=some u)(r:RelV v u)(hn:x≠"__name__":=by decide)(hd:(x == ("__debug__":Str))=false:=by decide):PE X (.Name x pos) (tC v) :=
 λ_ _ _ H _ I h=>pL I hg hm hv ⟨v,H,I,r,h⟩ hn hd
variable {a b:Expr}{ta tb:TE}{pos:Pos}
def PC (X:Cx)(op:mV)(a b:Expr)(t:TE):Prop :=
 ∀ (Z9:List (m4×Obj))(s:mD)(σ:St)(H:Hp)(Q:VK),Inv X Z9 σ H s->t σ H Q ->
  wpAny (model X.prog X.w) X.A (eval a X.env) (λv s₁=>wpAny (model X.prog X.w) X.A (eval b X.env) (λu s₂=>wpAny (model X.prog X.w) X.A (compareOp op v u) (EP X Z9 σ Q) X.xe s₂) X.xe s₁) X.xe s
theorem oV (b:Expr){op:mV}(h:op≠.In)(h2:op≠.NotIn):behindInMarks op b=false:=by
 have e1:(op == CmpOp.In)=false:=by cases op<;>first|rfl|exact absurd rfl h
 have e2:(op == CmpOp.NotIn)=false:=by cases op<;>first|rfl|exact absurd rfl h2
 cases b<;>simp[behindInMarks,e1,e2]
def Os (ta:TE):TE:=λσ H Q=>ta σ H λx H1=>Q (.bl (decide (x=.non))) H1
def KB (ta:TE):TE:=λσ H Q=>ta σ H λx H1=>Q (.bl (!decide (x=.non))) H1
theorem RelV.none_iff {x:V}{v:mM}(r:RelV x v):(v == Value.none)=decide (x=.non):=by
 cases x with
 | non=>cases r;rfl
 | bl _=>cases r;rfl
 | int _=>let(t,rfl):=r;rfl
 | str _=>let(t,rfl):=r;rfl
 | byt _=>let(t,rfl):=r;rfl
 | flt _=>let(t,rfl):=r;rfl
 | ref _=>cases r;rfl
 | ty _=>cases r;rfl
theorem Dp {j pos'}(ha:PE X a ta):PC X .Is a (.Constant .none j pos') (Os ta):=by
 intro Z9 s σ H Q I h
 refine nW (ha Z9 s σ H _ I h) λv s1 q1=>?_;let(x,H1,I1,r1,q1):=q1
 exact jW (is_none_gen ⟨.bl _,H1,I1,by rw[r1.none_iff];rfl,q1⟩)
theorem Fi {j pos'}(ha:PE X a ta):PC X .IsNot a (.Constant .none j pos') (KB ta):=by
 intro Z9 s σ H Q I h
 refine nW (ha Z9 s σ H _ I h) λv s1 q1=>?_;let(x,H1,I1,r1,q1):=q1
 exact jW (isnot_none_gen ⟨.bl _,H1,I1,by rw[r1.none_iff];rfl,q1⟩)
def tB (t:TE):TT:=λσ H Q=>t σ H λx H1=>∃ c,x=.bl c/\Q c H1
theorem HZ {op:mV}{t:TE}(h:PC X op a b t)(h1:behindInMarks op b=false:=by first|exact oV _ (by decide) (by decide)|rfl):PE X (.Compare a [op] [b] pos) t:=λZ9 s σ H Q I hw=>iU (h Z9 s σ H Q I hw) h1
theorem C7 {op:mV}{t:TE}(h:PC X op a b t)(h1:behindInMarks op b=false:=by first|exact oV _ (by decide) (by decide)|rfl):PT X (.Compare a [op] [b] pos) (tB t):=by
 intro Z9 s σ H Q I hw
 refine bV (nW (h Z9 s σ H _ I hw) λv s1 h1=>nW h1 λu s2 h2=>nW h2 λc s3 ⟨x,H1,I1,r1,q1⟩=>?_) h1
 let(d,rfl,q):=q1
 cases r1
 exact eI ⟨H1,I1,q⟩
variable {tA tB':TT}{rest:List Expr}
def Ox (t u:TT):TT:=λσ H Q=>t σ H λc H1=>if c=true then u σ H1 Q else Q false H1
def tOr (t u:TT):TT:=λσ H Q=>t σ H λc H1=>if c=true then Q true H1 else u σ H1 Q
def Op (t:TT):TT:=λσ H Q=>t σ H λc H1=>Q (!c) H1
theorem E3 (ha:PT X a tA):PW X (.BoolOp .And [a] pos) tA:=by
 intro wh Z9 s σ H Q I h
 refine isTrue_and (nW (ha Z9 s σ H Q I h) λc s1 e=>?_)
 cases c with
 | true=>exact isTrue_and_nil e
 | false=>exact e
theorem HK (ha:PT X a tA):PW X (.BoolOp .Or [a] pos) tA:=by
 intro wh Z9 s σ H Q I h
 refine isTrue_or (nW (ha Z9 s σ H Q I h) λc s1 e=>?_)
 cases c with
 | false=>exact isTrue_or_nil e
 | true=>exact e
theorem HL (ha:PT X a tA)(hb:PW X (.BoolOp .And (b :: rest) pos) tB'):PW X (.BoolOp .And (a :: b :: rest) pos) (Ox tA tB'):=by
 intro wh Z9 s σ H Q I h
 refine isTrue_and (nW (ha Z9 s σ H _ I h) λc s1 ⟨H1,I1,q1⟩=>?_)
 cases c with
 | true=>exact hb wh Z9 s1 σ H1 Q I1 q1
 | false=>exact⟨H1,I1,q1⟩
theorem K9 (ha:PT X a tA)(hb:PW X (.BoolOp .Or (b :: rest) pos) tB'):PW X (.BoolOp .Or (a :: b :: rest) pos) (tOr tA tB'):=by
 intro wh Z9 s σ H Q I h
 refine isTrue_or (nW (ha Z9 s σ H _ I h) λc s1 ⟨H1,I1,q1⟩=>?_)
 cases c with
 | true=>exact⟨H1,I1,q1⟩
 | false=>exact hb wh Z9 s1 σ H1 Q I1 q1
theorem HM (ha:PT X a tA):PT X (.UnaryOp .Not a pos) (Op tA):=by
 intro Z9 s σ H Q I h
 exact isTrue_not (nW (ha Z9 s σ H (λc H1=>Q (!c) H1) I h) λu s' q1=>by let(H1,I1,q):=q1;exact⟨H1,I1,q⟩)
theorem HX {op}{t:TE}(h:PE X a t):PE X (.BoolOp op [a] pos) t:=λZ9 s σ H Q I hw=>BoolOp_one (h Z9 s σ H Q I hw)
def tIf (t:TT)(ta tb:TE):TE:=λσ H Q=>t σ H λc H1=>if c=true then ta σ H1 Q else tb σ H1 Q
theorem Dl {c:Expr}(hc:PT X c tA)(ha:PE X a ta)(hb:PE X b tb):PE X (.IfExp c a b pos) (tIf tA ta tb):=by
 intro Z9 s σ H Q I h
 refine wpAny_IfExp (nW (hc Z9 s σ H _ I h) λd s1 ⟨H1,I1,q1⟩=>?_)
 cases d with
 | true=>exact ha Z9 s1 σ H1 Q I1 q1
 | false=>exact hb Z9 s1 σ H1 Q I1 q1
end
end L2
namespace L2
open PySem PySem.Spec PyProof.Rows
def SqL (K:kj)(H:Hp)(a:m4)(xs:List V):Prop :=
 Rd H a (.lst xs) ∨
  ∃ (o:Obj)(Z7:Array mM) (n:Nat),K.lookup a=some o/\o.cls=.type "list"/\o.dict=none/\o.data=.seq Z7 n/\Z7.size<=sizeLine/\Vals xs Z7.toList
def SqT (K:kj)(H:Hp)(a:m4)(xs:List V):Prop :=
 Rd H a (.tup xs) ∨
  ∃ (o:Obj)(Z7:Array mM) (n:Nat),K.lookup a=some o/\o.cls=.type "tuple"/\o.data=.seq Z7 n/\Z7.size<=sizeLine/\Vals xs Z7.toList
def Rk:mM->Option V
 | .none=>some .non
 | .bool b=>some (.bl b)
 | .int i _=>some (.int i)
 | .str x _=>some (.str x)
 | .bytes b _=>some (.byt b)
 | .float b _=>some (.flt b)
 | .ref a=>some (.ref a)
 | .type n=>some (.ty n)
 | _=>none
theorem RelV.abs {x:V}{u:mM}(r:RelV x u):Rk u=some x:=by
 cases x with
 | non=>cases r;rfl
 | bl _=>cases r;rfl
 | int _=>let(t,rfl):=r;rfl
 | str _=>let(t,rfl):=r;rfl
 | byt _=>let(t,rfl):=r;rfl
 | flt _=>let(t,rfl):=r;rfl
 | ref _=>cases r;rfl
 | ty _=>cases r;rfl
theorem RelV.inj {x y:V}{u:mM}(r:RelV x u)(q:RelV y u):x=y:=hW (r.abs.symm.trans q.abs)
theorem Vals.inj:∀ {xs ys:List V}{us:List mM},Vals xs us->Vals ys us->xs=ys:=λ{_ ys _} h=>by
 induction h generalizing ys with
 | nil=>intro h;cases h;rfl
 | cons r _ ih=>intro h;cases h with|cons r' t'=>rw[r.inj r',ih t']
section
variable {X:Cx}{Z9:List (m4×Obj)}{σ:St}{H:Hp}{s:mD}{a:m4}{xs ys:List V}
theorem SqL.of {K:kj}(h:H a=some (.lst xs)):SqL K H a xs:=.inl (.inl h)
theorem SqT.of {K:kj}(h:H a=some (.tup xs)):SqT K H a xs:=.inl (.inl h)
theorem Inv.list (I:Inv X Z9 σ H s)(h:SqL X.K H a xs):∃ Z7:List mM,Vals xs Z7/\PlainL s.heap a Z7.toArray/\xs.length<=sizeLine:=by
 rcases h with h|⟨o,Z7,n,hk,hc,hd,hs,hz,r⟩
 ·let(z,Z7,n,r,e):=h.ok I.hok
  exact⟨Z7,r,⟨_,n,e,rfl,rfl,rfl⟩,z⟩
 ·refine⟨Z7.toList,r,⟨o,n,I.kIn a o hk,hc,hd,by simpa using hs⟩,?_⟩
  have e:=r.length
  simp only[dw] at e
  lia
theorem Inv.tuple (I:Inv X Z9 σ H s)(h:SqT X.K H a xs):∃ Z7:List mM,Vals xs Z7/\mT s.heap a Z7.toArray/\xs.length<=sizeLine:=by
 rcases h with h|⟨o,Z7,n,hk,hc,hs,hz,r⟩
 ·let(z,Z7,r,p):=h.ok I.hok
  exact⟨Z7,r,p,z⟩
 ·refine⟨Z7.toList,r,⟨o,I.kIn a o hk,hc,n,by simpa using hs⟩,?_⟩
  have e:=r.length
  simp only[dw] at e
  lia
theorem Inv.list_inj (I:Inv X Z9 σ H s)(h:SqL X.K H a xs)(h':SqL X.K H a ys):xs=ys:=by
 let(Z7,r,(o,n,e,_,_,d),_):=I.list h
 let(its',r',(o',n',e',_,_,d'),_):=I.list h'
 rw[e] at e';cases e'
 rw[d] at d'
 injection d' with d1 _
 have:Z7=its':=by simpa using congrArg kJ d1
 subst this
 exact r.inj r'
theorem Inv.tuple_inj (I:Inv X Z9 σ H s)(h:SqT X.K H a xs)(h':SqT X.K H a ys):xs=ys:=by
 let(Z7,r,(o,e,_,n,d),_):=I.tuple h
 let(its',r',(o',e',_,n',d'),_):=I.tuple h'
 rw[e] at e';cases e'
 rw[d] at d'
 injection d' with d1 _
 have:Z7=its':=by simpa using congrArg kJ d1
 subst this
 exact r.inj r'
end
abbrev Cx.wish (X:Cx)(E:mM->mD->Prop):Cx:={ X with xe:=E }
abbrev Cx.nox (X:Cx):Cx:=X.wish λ_ _=>False
theorem Cx.Ok.wish {X:Cx}(ok:X.Ok)(E:mM->mD->Prop):(X.wish E).Ok :=
 ⟨ok.mod,ok.kind,ok.glob,ok.blt,ok.above,ok.inj,ok.has,ok.cab,ok.hd,ok.frames,ok.stk,ok.exf,ok.bs,ok.bsz,ok.noex,ok.exfs,ok.funs,ok.frf⟩
theorem Cx.Ok.unwish {X:Cx}{E:mM->mD->Prop}(ok:(X.wish E).Ok):X.Ok :=
 ⟨ok.mod,ok.kind,ok.glob,ok.blt,ok.above,ok.inj,ok.has,ok.cab,ok.hd,ok.frames,ok.stk,ok.exf,ok.bs,ok.bsz,ok.noex,ok.exfs,ok.funs,ok.frf⟩
section
variable {X:Cx}{Z9:List (m4×Obj)}{σ:St}{H:Hp}{s:mD}{E:mM->mD->Prop}
theorem Inv.wish (I:Inv X Z9 σ H s)(E:mM->mD->Prop):Inv (X.wish E) Z9 σ H s:=⟨I.ok.wish E,I.os,I.bare,I.base,I.loc,I.cell,I.free,I.freeC,I.pin,I.hok,I.len⟩
theorem Inv.unwish (I:Inv (X.wish E) Z9 σ H s):Inv X Z9 σ H s:=⟨I.ok.unwish,I.os,I.bare,I.base,I.loc,I.cell,I.free,I.freeC,I.pin,I.hok,I.len⟩
theorem SP.unwish {D:Ends}{f:Flow}{s':mD}(h:SP (X.wish E) Z9 D f s'):SP X Z9 D f s':=by
 cases f with
 | next=>let(σ',H',I,q):=h;exact⟨σ',H',I.unwish,q⟩
 | brk=>let(σ',H',I,q):=h;exact⟨σ',H',I.unwish,q⟩
 | cont=>let(σ',H',I,q):=h;exact⟨σ',H',I.unwish,q⟩
 | ret u=>let(v,σ',H',I,r,q):=h;exact⟨v,σ',H',I.unwish,r,q⟩
theorem PSs.nox {st:List mX}{t:TS}(h:PSs X.nox st t):PSs X st t:=λZ9 s σ H D I hw =>
 lg (h Z9 s σ H D (I.wish _) hw) (λ_ _ q=>q.unwish) λ_ _ z=>lM z
end
section
variable {X:Cx}{st:mX}{rest:List mX}{t u:TS}{e:Expr}{te:TE}{pos:Pos}
def KD:TS:=λD σ H=>D.nx σ H
def Om (t u:TS):TS:=λD σ H=>t { D with nx:=u D } σ H
theorem E6:PSs X [] KD:=λ_ _ σ H _ I h=>gN ⟨σ,H,I,h⟩
theorem C8 (h1:PS X st t)(h2:PSs X rest u):PSs X (st :: rest) (Om t u):=by
 intro Z9 s σ H D I h
 refine fO (nW (h1 Z9 s σ H { D with nx:=u D } I h) λf s1 q=>?_)
 cases f with
 | next =>
  let(σ',H',I',q):=q
  exact h2 Z9 s1 σ' H' D I' q
 | ret v=>exact q
 | brk=>exact q
 | cont=>exact q
theorem E5 (h1:PS X st t):PSs X [st] t:=by
 intro Z9 s σ H D I h
 refine fO (nW (h1 Z9 s σ H D I h) λf s1 q=>?_)
 cases f with
 | next=>exact gN q
 | ret v=>exact q
 | brk=>exact q
 | cont=>exact q
theorem Inv.quiet {Z9:List (m4×Obj)}{σ:St}{H:Hp}{s:mD}(I:Inv X Z9 σ H s):interactive X.env=false:=by simp[interactive,I.ok.kind]
def KE (te:TE):TS:=λD σ H=>te σ H λ_ H1=>D.nx σ H1
theorem E7 (he:PE X e te)(hs:swapsWith e none pos.line X.env=pure false:=by rfl):PS X (.Expr e pos) (KE te):=by
 intro Z9 s σ H D I h
 exact wpAny_Expr_any (nW (he Z9 s σ H _ I h) λv s1 q1=>by let(x,H1,I1,r1,q1):=q1;exact⟨σ,H1,I1,q1⟩) I.quiet hs
def On (te:TE):TS:=λD σ H=>te σ H D.rt
theorem zp (he:PE X e te):PS X (.Return (some e) pos) (On te):=by
 intro Z9 s σ H D I h
 exact wpAny_Return_some (nW (he Z9 s σ H _ I h) λv s1 q1=>by let(x,H1,I1,r1,q1):=q1;exact⟨x,σ,H1,I1,r1,q1⟩)
def Ot (c:TT)(t u:TS):TS:=λD σ H=>c σ H λb H1=>if b=true then t D σ H1 else u D σ H1
theorem La {c:Expr}{a b:List mX}{tc:TT}(hc:PT X c tc)(ha:PSs X a t)(hb:PSs X b u):PS X (.If c a b pos) (Ot tc t u):=by
 intro Z9 s σ H D I h
 refine wpAny_If (nW (hc Z9 s σ H _ I h) λd s1 ⟨H1,I1,q1⟩=>?_)
 cases d with
 | true=>exact ha Z9 s1 σ H1 D I1 q1
 | false=>exact hb Z9 s1 σ H1 D I1 q1
end
abbrev TG:=V->St->Hp->(St->Hp->Prop)->Prop
abbrev J8:=List V->St->Hp->(St->Hp->Prop)->Prop
def PG (X:Cx)(Z1:Expr)(t:TG):Prop :=
 ∀ (Z9:List (m4×Obj))(s:mD)(σ:St)(H:Hp)(v:V)(u:mM)(Q:St->Hp->Prop),Inv X Z9 σ H s->RelV v u->t v σ H Q ->
  wpAny (model X.prog X.w) X.A (assign Z1 X.env u) (λ_ s'=>∃ σ' H',Inv X Z9 σ' H' s'/\Q σ' H') X.xe s
def Mz (X:Cx)(ts:List Expr)(t:J8):Prop :=
 ∀ (Z9:List (m4×Obj))(s:mD)(σ:St)(H:Hp)(vs:List V)(us:List mM)(Q:St->Hp->Prop),Inv X Z9 σ H s->Vals vs us->t vs σ H Q ->
  wpAny (model X.prog X.w) X.A (assignInOrder ((assignEach ts X.env).map (·.2)) us) (λ_ s'=>∃ σ' H',Inv X Z9 σ' H' s'/\Q σ' H') X.xe s
abbrev J7:=V->V->V->Hp->(Hp->Prop)->Prop
def My (X:Cx)(t:J7):Prop :=
 ∀ (Z9:List (m4×Obj))(s:mD)(σ:St)(H:Hp)(o i v:V)(ov iv u:mM)(Q:Hp->Prop),Inv X Z9 σ H s->RelV o ov->RelV i iv->RelV v u->t o i v H Q ->
  wpAny (model X.prog X.w) X.A (setItem ov iv u) (λ_ s'=>∃ H',Inv X Z9 σ H' s'/\Q H') X.xe s
abbrev Rn:=V->V->Hp->VK->Prop
def PIp (X:Cx)(op:ma)(t:Rn):Prop :=
 ∀ (Z9:List (m4×Obj))(s:mD)(σ:St)(H:Hp)(x y:V)(v u:mM)(Q:VK),Inv X Z9 σ H s->RelV x v->RelV y u->t x y H Q ->
  wpAny (model X.prog X.w) X.A (inplaceOp op v u) (EP X Z9 σ Q) X.xe s
section
variable {X:Cx}{pos:Pos}
def qJ (i:Nat):TG:=λv σ H Q=>Q (σ.set i (some v)) H
theorem Fc {i:Nat}{x:Str}(hN:X.N.Nodup)(hi:X.N[i]?=some x)(hx:Loc X.env.scope x)(hf:X.fn x=true ∨ X.env.scope.names.lookup x=some .local:=by first|exact .inl rfl|exact .inr rfl|assumption):PG X (.Name x pos) (qJ i):=by
 intro Z9 s σ H v u Q I r h
 exact eQ (qS I hN hi hx r (λs' I'=>⟨_,H,I',h⟩) hf)
def IG:J8:=λvs σ H Q=>vs=[]/\Q σ H
inductive gCons (t:TG)(u:J8)(vs:List V)(σ:L2.St)(H:Hp)(Q:(L2.St->Hp->Prop)):Prop
 | mk (v:_)(r:_)(_:vs=v :: r)(_:t v σ H λσ' H'=>u r σ' H' Q):gCons t u vs σ H Q
theorem As:Mz X [] IG:=by
 intro Z9 s σ H vs us Q I r h
 let(e,h):=h
 subst e
 cases r
 exact eT ⟨σ,H,I,h⟩
theorem uu {e:Expr}{es:List Expr}{t:TG}{u:J8}(h1:PG X e t)(h2:Mz X es u)
  (hs:(assignEach (e :: es) X.env).map (·.2)=assign e X.env :: (assignEach es X.env).map (·.2):=by rfl):Mz X (e :: es) (gCons t u):=by
 intro Z9 s σ H vs us Q I r h
 let(v,vr,e1,h):=h
 subst e1
 cases r with
 | cons r rr =>
  rw[hs]
  refine dE (nW (h1 Z9 s σ H _ _ _ I r h) λ_ s1 ⟨σ1,H1,I1,q1⟩=>?_)
  exact h2 Z9 s1 σ1 H1 _ _ Q I1 rr q1
inductive gTup (K:kj) (n:Nat)(t:J8)(v:V)(σ:L2.St)(H:Hp)(Q:(L2.St->Hp->Prop)):Prop
 | mk (a:_)(xs:_)(_:v=.ref a)(_:SqT K H a xs)(_:xs.length=n)(_:t xs σ H Q):gTup K n t v σ H Q
theorem Dg {es:List Expr}{k:Nat}{t:J8}{n:Nat}(hc:X.calm=true)(h:Mz X es t)
  (hn:(assignEach es X.env).length=n:=by rfl)(hst:(assignEach es X.env).findIdx? (·.1)=none:=by rfl):PG X (.Tuple es k pos) (gTup X.K n t):=by
 intro Z9 s σ H v u Q I r hw
 let(a,xs,e1,hq,hl,hw):=hw
 subst e1
 cases r
 let(Z7,rv,ht,hz):=I.tuple hq
 refine assign_Tuple_tuple (I.ok.hd hc) ht (by simp[hn,<- hl,rv.length]) hst λh' hx=>?_
 have I1:Inv X Z9 σ H { s with heap:=h' }:=I.kept (t':=s.toks) λb o e=>hx b o (kq (kH e)) e
 exact h Z9 _ σ H xs _ Q I1 (by simpa using rv) hw
def OT (to ti:TE)(t:J7):TG:=λv σ H Q=>to σ H λo H1=>ti σ H1 λi H2=>t o i v H2 λH3=>Q σ H3
theorem HU {o i:Expr}{to ti:TE}{t:J7}(ho:PE X o to)(hi:PE X i ti)(hs:My X t)
  (ha:∀ v,assign (.Subscript o i pos) X.env v=(do
   let ov <- holding [v] (eval o X.env)
   let iv <- holding [v,ov] (eval i X.env)
   standAt pos
   holding [v,ov,iv] (setItem ov iv v)
   release [v,ov,iv] []):=by intro _;rfl):PG X (.Subscript o i pos) (OT to ti t):=by
 intro Z9 s σ H v u Q I r h
 rw[ha]
 refine lj (ju (nW (ho Z9 s σ H _ I h) λov s1 ⟨x,H1,I1,r1,q1⟩=>?_))
 refine lj (ju (nW (hi Z9 s1 σ H1 _ I1 q1) λiv s2 ⟨y,H2,I2,r2,q2⟩=>?_))
 refine lj (jq (lj (ju (nW (hs Z9 s2 σ H2 x y v ov iv u _ I2 r1 r2 r q2) λ_ s3 ⟨H3,I3,q3⟩=>?_))))
 exact wpAny_release ⟨σ,H3,I3,q3⟩
def wK (te:TE)(g:TG):TS:=λD σ H=>te σ H λx H1=>g x σ H1 D.nx
theorem zq {tg e:Expr}{te:TE}{g:TG}(he:PE X e te)(hg:PG X tg g)(hs:swapsWithSole [tg] e pos.line X.env=pure false:=by rfl)(hw:swappedStores [tg] e X.env=pure none:=by rfl)
  (h1:(assignEach [tg] X.env).map (·.2)=[assign tg X.env]:=by rfl):PS X (.Assign [tg] e pos) (wK te g):=by
 intro Z9 s σ H D I h
 refine wpAny_Assign_stores (nW (he Z9 s σ H _ I h) λv s1 ⟨x,H1,I1,r1,q1⟩=>?_) hs hw
 rw[h1]
 exact nW (hg Z9 s1 σ H1 x v _ I1 r1 q1) λ_ s2 q=>q
theorem HN {i:Nat}{x:Str}{e:Expr}{te:TE}{pos':Pos}(hN:X.N.Nodup)(hi:X.N[i]?=some x)(hx:Loc X.env.scope x)(he:PE X e te)(hs:swapsWith e (some (.Name x pos')) pos.line X.env=pure false:=by rfl)(hf:X.fn x=true ∨ X.env.scope.names.lookup x=some .local:=by first|exact .inl rfl|exact .inr rfl|assumption) :
  PS X (.Assign [.Name x pos'] e pos) (wK te (qJ i)):=by
 intro Z9 s σ H D I h
 refine wpAny_Assign_Name (nW (he Z9 s σ H _ I h) λv s1 ⟨y,H1,I1,r1,q1⟩=>?_) hs
 exact qS I1 hN hi hx r1 (λs2 I2=>⟨_,H1,I2,q1⟩) hf
def Oo (i j:Nat)(ta:TA):TS:=λD σ H=>ta σ H λvs H1=>∃ v w,vs=[v,w]/\D.nx ((σ.set i (some v)).set j (some w)) H1
theorem HP {i j:Nat}{x y:Str}{a b:Expr}{ta:TA}{px py pt:Pos} {kt k2 pt2}(hc:X.calm=true)(hN:X.N.Nodup)(hi:X.N[i]?=some x)(hj:X.N[j]?=some y)(hij:i≠j)
  (hx:X.env.scope.names.lookup x=some .local)(hy:X.env.scope.names.lookup y=some .local)(ha:PA X [a,b] ta)
  (hw:swappedStores [.Tuple [.Name x px,.Name y py] kt pt] (.Tuple [a,b] k2 pt2) X.env=pure (some [x,y]))
  (hs:swapsWithSole [.Tuple [.Name x px,.Name y py] kt pt] (.Tuple [a,b] k2 pt2) pos.line X.env=pure false:=by rfl) :
  PS X (.Assign [.Tuple [.Name x px,.Name y py] kt pt] (.Tuple [a,b] k2 pt2) pos) (Oo i j ta):=by
 intro Z9 s σ H D I h
 rw[exec_Assign_arm]
 refine lj (jq ?_)
 rw[hs]
 refine lj (k9 ?_)
 rw[if_neg (by decide)]
 refine lj (Tuple_ (nW (ha _ Z9 s σ H _ I h) λus s1 ⟨vs,H1,I1,r1,q1⟩=>?_))
 let(v,w,e1,q1):=q1
 subst e1
 obtain⟨u1,u2,rfl,rv,rw'⟩:∃ u1 u2,us=[u1,u2]/\RelV v u1/\RelV w u2:=by
  cases r1 with
  | cons p q =>
   cases q with
   | cons p' q' =>
    cases q'
    exact⟨_,_,rfl,p,p'⟩
 refine eP ?_ (by show 2<=sizeLine;decide)
 have I2:Inv X Z9 σ H1 { s1 with heap:=s1.heap.push { cls:=.type "tuple",data:=.seq [u1,u2].toArray } }:=I1.kept (t':=s1.toks) λb o e=>bR _ e
 rw[hw]
 refine lj (k9 ?_)
 show wpAny (model X.prog X.w) X.A (do rule "assign.swapped-stores";let items <- unpackItems (.ref s1.heap.objs.size) 2 none;assignInOrder [λv=>bindName X.env y v,λv=>bindName X.env x v] items.reverse;pure Flow.next) _ _ _
 refine lj (k8 (lj (unpackItems_tuple (items:=#[u1,u2]) (I.ok.hd hc) (lQ s1.heap _) λh' hx'=>?_)))
 have I3:=I2.kept (h':=h') (t':=s1.toks) λb o e=>hx' b o (kq (kH e)) e
 show wpAny _ _ (assignInOrder [λv=>bindName X.env y v,λv=>bindName X.env x v] [u2,u1] >>= λ_=>pure Flow.next) _ _ _
 refine lj (dE (iT (qS I3 hN hj (.inl hy) rw' (λs2 I4=>?_) (.inr hy))))
 refine dE (iT (qS I4 hN hi (.inl hx) rv (λs3 I5=>eT (k9 ?_)) (.inr hx)))
 rw[List.set_comm _ _ (mq hij)] at I5
 exact⟨_,H1,I5,q1⟩
inductive tAug (i:Nat)(te:TE)(ti:Rn)(D:Ends)(σ:L2.St)(H:Hp):Prop
 | mk (x:_)(_:σ[i]?=some (some x))(_:te σ H λy H1=>ti x y H1 λz H2=>D.nx (σ.set i (some z)) H2):tAug i te ti D σ H
theorem HR {i:Nat}{x:Str}{e:Expr}{te:TE}{op:ma}{ti:Rn}{pos':Pos}(hN:X.N.Nodup)(hi:X.N[i]?=some x)(hx:Loc X.env.scope x)(he:PE X e te)(ho:PIp X op ti)(hf:X.fn x=true ∨ X.env.scope.names.lookup x=some .local:=by first|exact .inl rfl|exact .inr rfl|assumption) :
  PS X (.AugAssign (.Name x pos') op e pos) (tAug i te ti):=by
 intro Z9 s σ H D I h
 let(v,e1,h):=h
 let(m,hn,hl):=I.loc
 have vis:Kp X.env.scope x:=by rcases hx with k|k;exact .inl k;exact .inr (.inl k)
 let(u,r,l):=hl i x v hi e1 vis
 refine wpAny_AugAssign_Name ?_
 have go:wpAny (model X.prog X.w) X.A (eval e X.env) (λw s₂=>wpAny (model X.prog X.w) X.A (inplaceOp op u w) (λr s₃=>wpAny (model X.prog X.w) X.A (storeName X.env x r) (λ_=>SP X Z9 D .next) X.xe s₃) X.xe s₂) X.xe s:=by
  refine nW (he Z9 s σ H _ I h) λw s1 q1=>?_;let(y,H1,I1,r1,q1):=q1
  refine nW (ho Z9 s1 σ H1 v y u w _ I1 r r1 q1) λz s2 q2=>?_;let(zv,H2,I2,r2,q2):=q2
  exact qS I2 hN hi hx r2 (λs3 I3=>⟨_,H2,I3,q2⟩) hf
 rcases l with⟨hk,hm⟩|⟨hk,c,hc,hcell⟩
 ·exact cD I.ok.kind hk hn hm go
 ·rcases hk with hk|hk
  ·exact c5 I.ok.kind hk hc hcell go
  ·rcases hx with k|k
   ·have:X.env.scope.names.lookup x=some .free:=hk
    rw[k] at this;cases this
   ·have:X.env.scope.names.lookup x=some .free:=hk
    rw[k] at this;cases this
inductive ipI (f:Int->Int->Int)(x:V)(y:V)(H:Hp)(Q:VK):Prop
 | mk (i:_)(j:_)(_:x=.int i)(_:y=.int j)(_:Q (.int (f i j)) H):ipI f x y H Q
theorem IB:PIp X .Add (ipI λi j=>i+j):=by
 intro Z9 s σ H x y v u Q I r1 r2 h
 let(i,j,e1,e2,q):=h
 subst e1;subst e2
 let(t,rfl):=r1
 let(t',rfl):=r2
 exact iadd_int ⟨.int _,H,I.tok _,⟨_,rfl⟩,q⟩
end
section
variable {X:Cx}{pos:Pos}
inductive tWhile (c:TT)(tb:TS)(D:Ends)(σ:L2.St)(H:Hp):Prop
 | mk (W:Nat->St->Hp->Prop)(_:(∃ m,W m σ H))(_:∀ m σ H,W m σ H->c σ H λb H1=>if b=true then ∃ N:St->Hp->Prop,(∀ σ' H',N σ' H'->∃ m',m'<m/\W m' σ' H')/\tb { D with nx:=N,ct:=N,bk:=D.nx } σ H1 else D.nx σ H1):tWhile c tb D σ H
theorem C9 {c:Expr}{body:List mX}{tc:TT}{tb:TS}(hp:PassesOwn (model X.prog X.w) X.A X.env X.xe)(hc:PT X c tc)(hb:PSs X body tb):PS X (.While c body [] pos) (tWhile tc tb):=by
 intro Z9 s σ H D I h
 let(W,(m0,w0),turn):=h
 refine wpAny_While (codeAny_whileLoop (λn s'=>∃ σ' H',Inv X Z9 σ' H' s'/\W n σ' H') ?_ m0 ⟨σ,H,I,w0⟩)
 rintro n s1 ⟨σ1,H1,I1,w1⟩
 refine gK hp (nW (hc Z9 s1 σ1 H1 _ I1 (turn n σ1 H1 w1)) λb s2 ⟨H2,I2,q2⟩=>?_)
 cases b with
 | true =>
  let(N,hN,q2):=q2
  rw[if_pos rfl]
  refine gK hp (nW (hb Z9 s2 σ1 H2 _ I2 q2) λf s3 q3=>?_)
  cases f with
  | next =>
   let(σ3,H3,I3,n3):=q3
   let(m',hm,w3):=hN σ3 H3 n3
   exact⟨m',hm,σ3,H3,I3,w3⟩
  | cont =>
   let(σ3,H3,I3,n3):=q3
   let(m',hm,w3):=hN σ3 H3 n3
   exact⟨m',hm,σ3,H3,I3,w3⟩
  | brk=>exact q3
  | ret v=>exact q3
 | false =>
  rw[if_neg eB]
  exact gN ⟨σ1,H2,I2,q2⟩
end
structure It where
 go:Nat->Hp->Prop
 yld:Nat->Hp->V->Hp->Prop
 stop:Nat->Hp->Prop
def rM (X:Cx)(Z9:List (m4×Obj))(H:Hp)(b:m4):Prop :=
 H b=none/\b≠X.env.locals/\b ∉ X.fs/\(b∈X.ex ∨ X.s₀.heap.objs.size<=b)/\(∀ x c,X.env.cells.lookup x=some c->c≠b)/\∀ p∈X.pn++Z9,p.1≠b
theorem Inv.fpOk {X:Cx}{Z9:List (m4×Obj)}{σ:St}{H H':Hp}{s:mD}{b:m4}(I:Inv X Z9 σ H s)(hb:s.heap.objs.size<=b)(hn:H' b=none):rM X Z9 H' b:=by
 refine⟨hn,ku (dN I.lt hb),I.nofs hb,.inr (kA I.sz hb),λx c e z=>?_,λp hp z=>?_⟩
 ·let(v,q):=I.cell x c e
  exact absurd (dN q.lt (by rw[z];exact hb)) (jK _)
 ·exact absurd (dN (kH (I.pin p hp).1) (by rw[z];exact hb)) (jK _)
structure Turn (P:mm)(w:mL)(K:kj)(tg:Expr)(J:It)(fp:List m4)(it:m4)(tn:Nat->mY->Prop):Prop where
 mem:it∈fp
 obj:∀ i h,tn i h->∀ b∈fp,∃ o,h.get? b=some o/\∀ v,o.data≠.cell v
 keep:∀ i h h',tn i h->(∀ b∈fp,∀ o,h.get? b=some o->h'.get? b=some o)->tn i h'
 item:∀ (X:Cx),X.prog=P->X.w=w->X.K=K->X.calm=true->∀ (i:Nat)(Z9:List (m4×Obj))(s:mD)(σ:St)(H:Hp)(E:mM->mD->Prop),Inv X Z9 σ H s->(∀ b∈fp,rM X Z9 H b)->tn i s.heap->J.go i H ->
  wpAny (model P w) X.A (pyNext (.ref it)) (λr s1=>∃ u,r=some u /\
   wpAny (model P w) X.A (letOwnedTupleGo tg (.ref it) u) (λ_ s2=>∃ x H',Inv X Z9 σ H' s2/\RelV x u/\J.yld i H x H'/\tn (i+1) s2.heap/\∀ b∈fp,H' b=none) E s1) E s
 done:∀ (X:Cx),X.prog=P->X.w=w->X.K=K->X.calm=true->∀ (i:Nat)(Z9:List (m4×Obj))(s:mD)(σ:St)(H:Hp)(E:mM->mD->Prop),Inv X Z9 σ H s->(∀ b∈fp,rM X Z9 H b)->tn i s.heap->J.stop i H ->
  wpAny (model P w) X.A (pyNext (.ref it)) (λr s1=>r=none/\Inv X Z9 σ H s1) E s
 self:∀ (A:mK) (i:Nat)(s:mD)(Q:mM->mD->Prop)(E:mM->mD->Prop),tn i s.heap->Q (.ref it) s->wpAny (model P w) A (pyIter (.ref it)) Q E s
abbrev TI:=St->Hp->(It->Hp->Prop)->Prop
inductive PIE (X:Cx)(Z9:List (m4×Obj))(σ:St)(tg:Expr)(R:It->Hp->Prop)(itv:mM)(s2:mD):Prop
 | mk (it:m4)(fp:List m4)(tn:Nat->mY->Prop)(J:It)(H':Hp)(_:itv=.ref it)(_:Inv X Z9 σ H' s2)(_:Turn X.prog X.w X.K tg J fp it tn)(_:tn 0 s2.heap)(_:(∀ b∈fp,rM X Z9 H' b))(_:R J H'):PIE X Z9 σ tg R itv s2
def PI (X:Cx)(tg Z5:Expr)(wi:TI):Prop :=
 ∀ (Z9:List (m4×Obj))(s:mD)(σ:St)(H:Hp)(R:It->Hp->Prop),Inv X Z9 σ H s->wi σ H R ->
  wpAny (model X.prog X.w) X.A (eval Z5 X.env) (λv s1=>wpAny (model X.prog X.w) X.A (pyIter v) (PIE X Z9 σ tg R) X.xe s1) X.xe s
theorem AO {M : mP} {A : mK} {E : mM -> mD -> Prop} {s : mD} {tg : Expr} {it : m4} {u : mM} {o : Obj} {n : String} {vs : Array mM} {Q : Unit -> mD -> Prop} (ho : s.heap.get? it = some o) (hc : o.cls = .type n) (hd : o.data = .fields vs)
    (hn:["enumerate","zip","dict_itemiterator","dict_reverseitemiterator","odict_iterator","itertools.zip_longest","itertools.pairwise"].contains n=false) (hQ:Q () s):wpAny M A (letOwnedTupleGo tg (.ref it) u) Q E s:=by
  unfold letOwnedTupleGo
  cases tg<;>first
    | exact k9 hQ
    | (cases u <;> first
        | exact k9 hQ
        | (refine lj (lh ho ?_)
           rw [hc, hd]
           show wpAny M A (if (["enumerate", "zip", "dict_itemiterator", "dict_reverseitemiterator", "odict_iterator", "itertools.zip_longest", "itertools.pairwise"].contains n && vs[0]? == some (rawInt _)) = true then _ else _) Q E s
           rw [if_neg (by intro h; rw [hn, Bool.false_and] at h; cases h)]
           exact k9 hQ))
def Itl (K:kj)(a:m4):It :=
 ⟨λi H=>∃ xs x,SqL K H a xs/\xs[i]?=some x,λi H x H'=>H'=H/\∀ xs,SqL K H a xs->xs[i]?=some x,λi H=>∃ xs,SqL K H a xs/\xs.length<=i⟩
def Itt (K:kj)(a:m4):It :=
 ⟨λi H=>∃ xs x,SqT K H a xs/\xs[i]?=some x,λi H x H'=>H'=H/\∀ xs,SqT K H a xs->xs[i]?=some x,λi H=>∃ xs,SqT K H a xs/\xs.length<=i⟩
def ME (lo:Int) (n:Nat):It:=⟨λi _=>i<n,λi H x H'=>H'=H/\x=.int (lo+i),λi _=>n<=i⟩
theorem Bt {P:mm}{w:mL}{K:kj}{tg:Expr}(a it:m4):Turn P w K tg (Itl K a) [it] it (λi h=>h.IsListIter it a i) where
 mem:=by simp
 obj:=λi h st b hb=>by
  have e:b=it:=by simpa using hb
  subst e
  let(o,e,c,d):=st
  exact⟨o,e,λv z=>by rw[d] at z;cases z⟩
 keep:=λi h h' st k=>st.at λo e=>k it (by simp) o e
 item:=by
  intro X hP hw hK hc i Z9 s σ H E I hf st hg
  subst hP hw hK
  let(xs,x,hq,hx):=hg
  let(Z7,rv,p,hz):=I.list hq
  let(u,hu,ru):=rv.get hx
  let(f0,f1,f2,f3,f4,f5):=hf it (by simp)
  refine wpAny_pyNext_list_item st p.isList (x:=u) (by simpa using hu) λh' st' sb=>?_
  have I1:Inv X Z9 σ H { s with heap:=h' }:=I.turned (t':=s.toks) (λb o hb e=>(sb.2 b hb).trans e) f0 f1 f3 f4 f5
  let(o,e,c,d):=id st'
  exact⟨u,rfl,AO (s:={ s with heap:=h' }) e c d (by decide) ⟨x,H,I1,ru,⟨rfl,λys hy=>by rw[I.list_inj hy hq];exact hx⟩,st',λb hb=>(hf b hb).1⟩⟩
 done:=by
  intro X hP hw hK hc i Z9 s σ H E I hf st hg
  subst hP hw hK
  let(xs,hq,hx):=hg
  let(Z7,rv,p,hz):=I.list hq
  let(f0,f1,f2,f3,f4,f5):=hf it (by simp)
  have hl:=rv.length
  exact wpAny_pyNext_list_end (I.ok.hd hc) st p.isList (by simp;lia) λh' eb=>⟨rfl,I.turned (t':=s.toks) (λb o hb e=>eb b o hb e) f0 f1 f3 f4 f5⟩
 self:=λ_ _ _ _ _ st h=>wpAny_pyIter_listiter st h
theorem yY {P:mm}{w:mL}{K:kj}{tg:Expr}(a it:m4):Turn P w K tg (Itt K a) [it] it (λi h=>h.IsTupleIter it a i) where
 mem:=by simp
 obj:=λi h st b hb=>by
  have e:b=it:=by simpa using hb
  subst e
  let(o,e,c,d):=st
  exact⟨o,e,λv z=>by rw[d] at z;cases z⟩
 keep:=λi h h' st k=>st.at λo e=>k it (by simp) o e
 item:=by
  intro X hP hw hK hc i Z9 s σ H E I hf st hg
  subst hP hw hK
  let(xs,x,hq,hx):=hg
  let(Z7,rv,p,hz):=I.tuple hq
  let(u,hu,ru):=rv.get hx
  let(f0,f1,f2,f3,f4,f5):=hf it (by simp)
  refine wpAny_pyNext_tuple_item st (show s.heap.IsTuple a Z7.toArray from p) (x:=u) (by simpa using hu) λh' st' sb=>?_
  have I1:Inv X Z9 σ H { s with heap:=h' }:=I.turned (t':=s.toks) (λb o hb e=>(sb.2 b hb).trans e) f0 f1 f3 f4 f5
  let(o,e,c,d):=id st'
  exact⟨u,rfl,AO (s:={ s with heap:=h' }) e c d (by decide) ⟨x,H,I1,ru,⟨rfl,λys hy=>by rw[I.tuple_inj hy hq];exact hx⟩,st',λb hb=>(hf b hb).1⟩⟩
 done:=by
  intro X hP hw hK hc i Z9 s σ H E I hf st hg
  subst hP hw hK
  let(xs,hq,hx):=hg
  let(Z7,rv,p,hz):=I.tuple hq
  let(f0,f1,f2,f3,f4,f5):=hf it (by simp)
  have hl:=rv.length
  exact wpAny_pyNext_tuple_end (I.ok.hd hc) st (show s.heap.IsTuple a Z7.toArray from p) (by simp;lia) λh' eb=>⟨rfl,I.turned (t':=s.toks) (λb o hb e=>eb b o hb e) f0 f1 f3 f4 f5⟩
 self:=λ_ _ _ _ _ st h=>wpAny_pyIter_tupleiter st h
theorem yZ {P:mm}{w:mL}{K:kj}{tg:Expr}(it:m4) (lo:Int) (n:Nat):Turn P w K tg (ME lo n) [it] it (λi h=>kX h it (lo+(i:Nat)*1) ((n:Int)-(i:Nat)) 1) where
 mem:=by simp
 obj:=λi h st b hb=>by
  have e:b=it:=by simpa using hb
  subst e
  exact⟨_,st,λv z=>by
   have z':Data.fields _=Data.cell v:=z
   cases z'⟩
 keep:=λi h h' st k=>k it (by simp) _ st
 item:=by
  intro X hP hw hK hc i Z9 s σ H E I hf st hg
  subst hP hw hK
  let(f0,f1,f2,f3,f4,f5):=hf it (by simp)
  have W:=Walks.range (prog:=X.prog) (w:=X.w) (I.ok.hd hc) it lo 1 n
  refine W.item i s _ _ hg st λv h' tk hv st' kk=>?_
  let(t,rfl):=hv
  have I1:Inv X Z9 σ H { s with heap:=h',toks:=tk }:=I.turned (λb o hb e=>kk b o (by simpa using hb) e) f0 f1 f3 f4 f5
  refine⟨_,rfl,AO (s:={ s with heap:=h',toks:=tk }) (n:="range_iterator") st' rfl rfl (by decide) ⟨.int (lo+i),H,I1,⟨t,?_⟩,⟨rfl,rfl⟩,st',λb hb=>(hf b hb).1⟩⟩
  rw[Int.mul_one]
 done:=by
  intro X hP hw hK hc i Z9 s σ H E I hf st hg
  subst hP hw hK
  let(f0,f1,f2,f3,f4,f5):=hf it (by simp)
  exact bB (I.ok.hd hc) st (by have:n<=i:=hg;lia) λh' eb=>⟨rfl,I.turned (t':=s.toks) (λb o hb e=>eb b o hb e) f0 f1 f3 f4 f5⟩
 self:=λ_ _ _ _ _ st h=>bC st h
end L2
namespace L2
open PySem PySem.Spec PyProof.Rows
section
variable {X:Cx}{tg:Expr}
theorem xR {Z9:List (m4×Obj)}{σ:St}{H:Hp}{s:mD}{R:It->Hp->Prop}{E:mM->mD->Prop}{lo hi:Int}{t u v:Tok}{tk:Nat}(I:Inv X Z9 σ H s)(h1:-(2 ^ 62)<=lo)(h2:lo<2 ^ 62)(h3:-(2 ^ 62)<=hi)(h4:hi<2 ^ 62)
  (q:R (ME lo (hi-lo).toNat) H):wpAny (model X.prog X.w) X.A (pyIter (.ref s.heap.objs.size)) (PIE X Z9 σ tg R) E { s with heap:=s.heap.push { cls:=.type "range",data:=.fields #[.int lo t,.int hi u,.int 1 v] },toks:=tk }:=by
 refine dB (kY ..) (small_one h1 h2 h3 h4) ?_
 have I1:Inv X Z9 σ H { s with heap:=s.heap.push { cls:=.type "range",data:=.fields #[.int lo t,.int hi u,.int 1 v] },toks:=tk }:=I.kept λb o e=>bR _ e
 refine⟨(s.heap.push { cls:=.type "range",data:=.fields #[.int lo t,.int hi u,.int 1 v] }).objs.size,[(s.heap.push { cls:=.type "range",data:=.fields #[.int lo t,.int hi u,.int 1 v] }).objs.size],_,_,H,rfl,
  I1.kept (t':=tk) λb o e=>bR _ e,yZ _ lo (hi-lo).toNat,?_,λb hb=>?_,q⟩
 ·have e1:lo+((0:Nat):Int)*1=lo:=by simp
  have e2:(((hi-lo).toNat:Nat):Int)-((0:Nat):Int)=bA lo hi 1:=by rw[jz];split<;>lia
  show kX _ _ (lo+((0:Nat):Int)*1) ((((hi-lo).toNat:Nat):Int)-((0:Nat):Int)) 1
  rw[e1,e2]
  exact dj _ rfl
 ·have e:b=(s.heap.push { cls:=.type "range",data:=.fields #[.int lo t,.int hi u,.int 1 v] }).objs.size:=by simpa using hb
  subst e
  exact I1.fpOk (kT _) (I1.hok.fresh (kT _))
def LK (ta:TA):TI:=λσ H R=>ta σ H λvs H1=>∃ j:Int,vs=[.int j]/\-(2 ^ 62)<=j/\j<2 ^ 62/\R (ME 0 j.toNat) H1
def iRng2 (ta:TA):TI:=λσ H R=>ta σ H λvs H1=>∃ i j:Int,vs=[.int i,.int j]/\(-(2 ^ 62)<=i/\i<2 ^ 62/\-(2 ^ 62)<=j/\j<2 ^ 62)/\R (ME i (j-i).toNat) H1
theorem BJ {a:Expr}{ta:TA}{p pos:Pos}(hg:Gl X "range")(hm:X.mg "range" = none)(ha:PA X [a] ta)(hs:starEach [a] X.env=[(false,eval a X.env)]:=by rfl):PI X tg (.Call (.Name "range" p) [a] [] pos) (LK ta):=by
 intro Z9 s σ H R I h
 refine mW (pL I hg hm lz (ak (nW (ha pos Z9 s σ H _ I h) λus s1 ⟨vs,H1,I1,r1,q1⟩=>?_) hs rfl))
 let(j,e,q1,q2,q):=q1
 subst e
 cases r1 with
 | cons r rr =>
  cases rr
  let(t,rfl):=r
  exact call_range_1 (xR I1 ⋯ ⋯ q1 q2 (by simpa using q))
theorem vM {a b:Expr}{ta:TA}{p pos:Pos}(hg:Gl X "range")(hm:X.mg "range" = none)(ha:PA X [a,b] ta)(hs:starEach [a,b] X.env=[(false,eval a X.env),(false,eval b X.env)]:=by rfl)(hs2:starEach [b] X.env=[(false,eval b X.env)]:=by rfl) :
  PI X tg (.Call (.Name "range" p) [a,b] [] pos) (iRng2 ta):=by
 intro Z9 s σ H R I h
 refine mW (pL I hg hm lz (ak (nW (ha pos Z9 s σ H _ I h) λus s1 ⟨vs,H1,I1,r1,q1⟩=>?_) (by rw[hs,hs2]) (by rw[hs2];rfl)))
 let(i,j,e,(q1,q2,q3,q4),q):=q1
 subst e
 cases r1 with
 | cons r rr =>
  cases rr with
  | cons r' rr =>
   cases rr
   let(t,rfl):=r
   let(t',rfl):=r'
   exact call_range_2 (xR I1 q1 q2 q3 q4 q)
def Ou (wi:TI)(g:TG)(tb:TS):TS:=λD σ H=>wi σ H λJ H1=>∃ W:Nat->Nat->St->Hp->Prop,(∃ m,W 0 m σ H1)/\∀ i m σ H,W i m σ H ->
 (J.stop i H/\D.nx σ H) ∨ (J.go i H/\∃ N:St->Hp->Prop,(∀ σ' H',N σ' H'->∃ m',m'<m/\W (i+1) m' σ' H')/\∀ x H',J.yld i H x H'->g x σ H' λσ2 H2=>tb { D with nx:=N,ct:=N,bk:=D.nx } σ2 H2)
def rX (fp:List m4)(h:mY):List (m4×Obj):=fp.filterMap λb=>(h.get? b).map λo=>(b,o)
theorem oP {fp:List m4}{h:mY}{b:m4}{o:Obj}(hb:b∈fp)(e:h.get? b=some o):(b,o)∈rX fp h:=dW.mpr ⟨b,hb,by rw[e];rfl⟩
theorem BO {fp:List m4}{h:mY}{p:m4×Obj}(hp:p∈rX fp h):p.1∈fp/\h.get? p.1=some p.2:=by
 let(b,hb,e):=dW.mp hp
 cases q:h.get? b with
 | none=>rw[q] at e;cases e
 | some o =>
  rw[q] at e
  have e':(b,o)=p:=hW e
  subst e'
  exact⟨hb,q⟩
theorem Inv.pinned {Z9:List (m4×Obj)}{σ:St}{H:Hp}{s:mD}{fp:List m4}(I:Inv X Z9 σ H s)(hf:∀ b∈fp,rM X Z9 H b)(ho:∀ b∈fp,∃ o,s.heap.get? b=some o/\∀ v,o.data≠.cell v):Inv X (Z9++rX fp s.heap) σ H s :=
 I.pins_of λp hp=>(iq.mp hp).elim (λz=>I.pin p (ck _ z)) λz=>by
  let(hb,e):=BO z
  let(f0,f1,f2,_):=hf p.1 hb
  let(o,e',d):=ho p.1 hb
  rw[e] at e';cases e'
  exact⟨e,f0,f1,f2,d⟩
theorem Inv.unpinned {Z9 pl:List (m4×Obj)}{σ:St}{H:Hp}{s:mD}(I:Inv X (Z9++pl) σ H s):Inv X Z9 σ H s:=I.pins_of λp hp=>I.pin p (ck _ (cN _ hp))
theorem HQ {Z5:Expr}{body:List mX}{wi:TI}{g:TG}{tb:TS}{pos:Pos}(hp:PassesOwn (model X.prog X.w) X.A X.env X.xe)(hc:X.calm=true)(hi:PI X tg Z5 wi)(hg:PG X tg g)(hb:PSs X body tb)
  (hs:∀ x,foldedSetIterable Z5 X.env x=pure x:=by intro _;rfl):PS X (.For tg Z5 body [] pos) (Ou wi g tb):=by
 intro Z9 s σ H D I h
 refine wpAny_For (nW (hi Z9 s σ H _ I h) λv s1 h1=>nW h1 λitv s2 h2=>?_) hs
 let(it,fp,tn,J,H2,e,I2,T,st2,f2,W,(m0,w0),turn):=h2
 subst e
 -- what stays true of the iterator's objects through the loop
 have stat:∀ {H':Hp},(∀ b∈fp,H' b=none)->∀ b∈fp,rM X Z9 H' b:=λhn b hb=>⟨hn b hb,(f2 b hb).2⟩
 refine codeAny_forLoop_any (λn s'=>∃ i σ' H',Inv X Z9 σ' H' s'/\tn i s'.heap/\(∀ b∈fp,H' b=none)/\W i n σ' H') ?_ m0 ⟨0,σ,H2,I2,st2,λb hb=>(f2 b hb).1,w0⟩
 rintro n s3 ⟨i,σ3,H3,I3,st3,fr3,w3⟩
 rcases turn i n σ3 H3 w3 with⟨stop,qn⟩|⟨go,N,hN,step⟩
 ·refine gK hp (nW (T.done X rfl rfl rfl hc i Z9 s3 σ3 H3 X.xe I3 (stat fr3) st3 stop) λr s4 ⟨hr,I4⟩=>?_)
  subst hr
  exact gN ⟨σ3,H3,I4,qn⟩
 ·refine gK hp (nW (T.item X rfl rfl rfl hc i Z9 s3 σ3 H3 X.xe I3 (stat fr3) st3 go) λr s4 ⟨u,hr,h4⟩=>?_)
  subst hr
  refine gK hp (nW h4 λ_ s5 ⟨x,H5,I5,r5,y5,st5,fr5⟩=>?_)
  have I5':=I5.pinned (stat fr5) (T.obj _ _ st5)
  refine gK hp (nW (hg _ s5 σ3 H5 x u _ I5' r5 (step x H5 y5)) λ_ s6 ⟨σ6,H6,I6,q6⟩=>?_)
  refine gK hp (nW (hb _ s6 σ6 H6 _ I6 q6) λf s7 q7=>?_)
  have again:∀ {σ7:St}{H7:Hp},Inv X (Z9++rX fp s5.heap) σ7 H7 s7->N σ7 H7->∃ m,m<n/\∃ i σ' H',Inv X Z9 σ' H' s7/\tn i s7.heap/\(∀ b∈fp,H' b=none)/\W i m σ' H':=λ{σ7 H7} I7 n7=>by
   let(m',hm,w7):=hN σ7 H7 n7
   refine⟨m',hm,i+1,σ7,H7,I7.unpinned,T.keep _ _ _ st5 λb hb o e=>(I7.pin (b,o) (ck _ (ck _ (oP hb e)))).1,λb hb=>?_,w7⟩
   let(o,e,d):=T.obj _ _ st5 b hb
   exact (I7.pin (b,o) (ck _ (ck _ (oP hb e)))).2.1
  cases f with
  | next=>let(σ7,H7,I7,n7):=q7;exact again I7 n7
  | cont=>let(σ7,H7,I7,n7):=q7;exact again I7 n7
  | brk=>let(σ7,H7,I7,q7):=q7;exact⟨σ7,H7,I7.unpinned,q7⟩
  | ret v=>let(x7,σ7,H7,I7,r7,q7):=q7;exact⟨x7,σ7,H7,I7.unpinned,r7,q7⟩
end
end L2
namespace L2
open PySem PySem.Spec PyProof.Rows
abbrev R2:=V->V->Hp->VK->Prop
def pO (X:Cx)(f:mM->mM->Sem mM)(r:R2):Prop :=
 ∀ (Z9:List (m4×Obj))(s:mD)(σ:St)(H:Hp)(x y:V)(v u:mM)(Q:VK),Inv X Z9 σ H s->RelV x v->RelV y u->r x y H Q ->
  wpAny (model X.prog X.w) X.A (f v u) (EP X Z9 σ Q) X.xe s
def Rl (X:Cx)(f:mM->Sem mM)(r:V->Hp->VK->Prop):Prop :=
 ∀ (Z9:List (m4×Obj))(s:mD)(σ:St)(H:Hp)(x:V)(v:mM)(Q:VK),Inv X Z9 σ H s->RelV x v->r x H Q ->
  wpAny (model X.prog X.w) X.A (f v) (EP X Z9 σ Q) X.xe s
def og (X:Cx)(f:mM)(r:List V->Hp->VK->Prop):Prop :=
 ∀ (Z9:List (m4×Obj))(s:mD)(σ:St)(H:Hp)(xs:List V)(us:List mM)(Q:VK),Inv X Z9 σ H s->Vals xs us->r xs H Q ->
  wpAny (model X.prog X.w) X.A (call f us) (EP X Z9 σ Q) X.xe s
def Rm (X:Cx)(r:V->Hp->(Bool->Hp->Prop)->Prop):Prop :=
 ∀ (Z9:List (m4×Obj))(s:mD)(σ:St)(H:Hp)(x:V)(v:mM)(Q:Bool->Hp->Prop),Inv X Z9 σ H s->RelV x v->r x H Q ->
  wpAny (model X.prog X.w) X.A (truthy v) (TP X Z9 σ Q) X.xe s
def Hj (r:R2)(ta tb:TE):TE:=λσ H Q=>ta σ H λx H1=>tb σ H1 λy H2=>r x y H2 Q
def tUn (r:V->Hp->VK->Prop)(ta:TE):TE:=λσ H Q=>ta σ H λx H1=>r x H1 Q
inductive rI (C:Int->Int->Prop)(g:Int->Int->V)(x:V)(y:V)(H:Hp)(Q:VK):Prop
 | mk (i:_)(j:_)(_:x=.int i)(_:y=.int j)(_:C i j)(_:Q (g i j) H):rI C g x y H Q
inductive rI0 (g:Int->Int->V)(x:V)(y:V)(H:Hp)(Q:VK):Prop
 | mk (i:_)(j:_)(_:x=.int i)(_:y=.int j)(_:Q (g i j) H):rI0 g x y H Q
inductive rU (g:Int->V)(x:V)(H:Hp)(Q:VK):Prop
 | mk (i:_)(_:x=.int i)(_:Q (g i) H):rU g x H Q
section
variable {X:Cx}{a b:Expr}{ta tb:TE}{pos:Pos}
theorem JG (ha:PE X a ta)(hb:PE X b tb){Z9:List (m4×Obj)}{s:mD}{σ:St}{H:Hp}{R:V->V->Hp->Prop}(I:Inv X Z9 σ H s)
  (h:ta σ H λx H1=>tb σ H1 λy H2=>R x y H2){Q:mM->mD->Prop}{f:mM->mM->Sem mM}
  (hf:∀ v u s2 x y H2,Inv X Z9 σ H2 s2->RelV x v->RelV y u->R x y H2->wpAny (model X.prog X.w) X.A (f v u) Q X.xe s2) :
  wpAny (model X.prog X.w) X.A (eval a X.env) (λv s₁=>wpAny (model X.prog X.w) X.A (eval b X.env) (λu s₂=>wpAny (model X.prog X.w) X.A (f v u) Q X.xe s₂) X.xe s₁) X.xe s:=by
 refine nW (ha Z9 s σ H _ I h) λv s1 q1=>?_;let(x,H1,I1,r1,q1):=q1
 refine nW (hb Z9 s1 σ H1 _ I1 q1) λu s2 q2=>?_;let(y,H2,I2,r2,q2):=q2
 exact hf v u s2 x y H2 I2 r1 r2 q2
theorem xV {op:ma}{r:R2}(ho:pO X (binaryOp op) r)(ha:PE X a ta)(hb:PE X b tb):PE X (.BinOp a op b pos) (Hj r ta tb):=by
 intro Z9 s σ H Q I h
 exact wpAny_BinOp (JG ha hb I h λv u s2 x y H2 I2 rx ry q=>ho Z9 s2 σ H2 x y v u Q I2 rx ry q)
theorem Lc {op:UnaryOp}{r:V->Hp->VK->Prop}(ho:Rl X (unaryOp op) r)(ha:PE X a ta):PE X (.UnaryOp op a pos) (tUn r ta):=by
 intro Z9 s σ H Q I h
 exact UnaryOp_ (nW (ha Z9 s σ H _ I h) λv s1 q1=>by let(x,H1,I1,r1,q1):=q1;exact ho Z9 s1 σ H1 x v Q I1 r1 q1)
theorem M5 {f:mM->mM->Sem mM}{C:Int->Int->Prop}{g:Int->Int->Int}
  (rule:∀ (i j:Int)(t u:Tok)(s:mD)(Q:mM->mD->Prop)(E:mM->mD->Prop),C i j->Q (.int (g i j) s.toks) { s with toks:=s.toks+1 }->wpAny (model X.prog X.w) X.A (f (.int i t) (.int j u)) Q E s) :
  pO X f (rI C λi j=>.int (g i j)):=by
 intro Z9 s σ H x y v u Q I rx ry h
 let(i,j,rfl,rfl,hc,q):=h
 let(t,rfl):=rx
 let(t',rfl):=ry
 exact rule i j t t' s _ _ hc ⟨.int (g i j),H,I.tok _,⟨_,rfl⟩,q⟩
theorem Lp {f:mM->mM->Sem mM}{g:Int->Int->Int}
  (rule:∀ (i j:Int)(t u:Tok)(s:mD)(Q:mM->mD->Prop)(E:mM->mD->Prop),Q (.int (g i j) s.toks) { s with toks:=s.toks+1 }->wpAny (model X.prog X.w) X.A (f (.int i t) (.int j u)) Q E s) :
  pO X f (rI0 λi j=>.int (g i j)):=by
 intro Z9 s σ H x y v u Q I rx ry h
 let(i,j,rfl,rfl,q):=h
 let(t,rfl):=rx
 let(t',rfl):=ry
 exact rule i j t t' s _ _ ⟨.int (g i j),H,I.tok _,⟨_,rfl⟩,q⟩
theorem Fn {f:mM->mM->Sem mM}{g:Int->Int->Bool}
  (rule:∀ (i j:Int)(t u:Tok)(s:mD)(Q:mM->mD->Prop)(E:mM->mD->Prop),Q (.bool (g i j)) s->wpAny (model X.prog X.w) X.A (f (.int i t) (.int j u)) Q E s) :
  pO X f (rI0 λi j=>.bl (g i j)):=by
 intro Z9 s σ H x y v u Q I rx ry h
 let(i,j,rfl,rfl,q):=h
 let(t,rfl):=rx
 let(t',rfl):=ry
 exact rule i j t t' s _ _ ⟨.bl (g i j),H,I,rfl,q⟩
def Rr (i j:Int):Prop:=0<j/\j<1073741824
def Ro (i j:Int):Prop:=0<=j/\j<=1000000/\i.natAbs<2 ^ 64
def CMul (i j:Int):Prop:=(-(2 ^ 64)<i/\i<2 ^ 64) ∨ (-(2 ^ 64)<j/\j<2 ^ 64)
theorem CMul.ok {i j:Int}(h:CMul i j):IntMulOk i j:=by
 rcases h with⟨h1,h2⟩|⟨h1,h2⟩
 ·exact .of_left (jC h1 h2)
 ·exact .of_right (jC h1 h2)
theorem Ds:pO X (binaryOp .Add) (rI0 λi j=>.int (i+j)):=Lp λ_ _ _ _ _ _ _ q=>add_int q
theorem Ib:pO X (binaryOp .Sub) (rI0 λi j=>.int (i-j)):=Lp λ_ _ _ _ _ _ _ q=>sub_int q
theorem Ig:pO X (binaryOp .Mult) (rI CMul λi j=>.int (i*j)):=M5 λ_ _ _ _ _ _ _ hc q=>mul_int q hc.ok
theorem Fl:pO X (binaryOp .FloorDiv) (rI Rr λi j=>.int (i / j)):=M5 λi j _ _ _ _ _ hc q=>by
 have h1:(0:Int)<j:=hc.1
 have h2:j<1073741824:=hc.2
 exact floordiv_int ⋯ (by rw[Int.fdiv_eq_ediv_of_nonneg i ⋯];exact q) (.inl (bK ⋯))
theorem Ih:pO X (binaryOp .Mod) (rI (λ_ j=>0<j) λi j=>.int (i % j)):=M5 λi j _ _ _ _ _ hc q=>by
 have h1:(0:Int)<j:=hc
 exact mod_int' ⋯ (by rw[Int.fmod_eq_emod_of_nonneg i ⋯];exact q)
theorem Ie:pO X (binaryOp .Pow) (rI Ro λi j=>.int (i ^ j.toNat)):=M5 λ_ _ _ _ _ _ _ hc q=>pow_int_small hc.1 hc.2.1 hc.2.2 q
theorem unI {f:mM->Sem mM}{g:Int->Int}
  (rule:∀ (i:Int)(t:Tok)(s:mD)(Q:mM->mD->Prop)(E:mM->mD->Prop),Q (.int (g i) s.toks) { s with toks:=s.toks+1 }->wpAny (model X.prog X.w) X.A (f (.int i t)) Q E s) :
  Rl X f (rU λi=>.int (g i)):=by
 intro Z9 s σ H x v Q I rx h
 let(i,rfl,q):=h
 let(t,rfl):=rx
 exact rule i t s _ _ ⟨.int (g i),H,I.tok _,⟨_,rfl⟩,q⟩
theorem Hg:Rl X (unaryOp .USub) (rU λi=>.int (-i)):=unI λ_ _ _ _ _ q=>neg_int q
end
def KP:V->V->Bool
 | .non,.non=>true|.non,.int _=>true|.int _,.non=>true|.non,.bl _=>true|.bl _,.non=>true|.non,.str _=>true|.str _,.non=>true
 | .int _,.int _=>true|.bl _,.bl _=>true|.str _,.str _=>true|.byt _,.byt _=>true
 | .int _,.str _=>true|.str _,.int _=>true|.bl _,.str _=>true|.str _,.bl _=>true
 | _,_=>false
def rEq:R2:=λx y H Q=>KP x y=true/\Q (.bl (decide (x=y))) H
def rNe:R2:=λx y H Q=>KP x y=true/\Q (.bl (!decide (x=y))) H
theorem A6 {i j:Int}:decide (V.int i=V.int j)=(i == j):=by
 rw[iL]
 simp
theorem Ee {i j:Bool}:decide (V.bl i=V.bl j)=(i == j):=by
 rw[iL]
 simp
theorem A5 {i j:Str}:decide (V.str i=V.str j)=(i == j):=by
 rw[iL]
 simp
theorem A7 {i j:Array UInt8}:decide (V.byt i=V.byt j)=(i.toList == j.toList):=by
 rw[iL]
 cases i
 cases j
 simp
section
variable {X:Cx}{a b:Expr}{ta tb:TE}{pos:Pos}
theorem nP {Z9:List (m4×Obj)}{σ:St}{H:Hp}{s:mD}{Q:VK}{k k':Bool}(I:Inv X Z9 σ H s)(q:Q (.bl k) H)(e:k=k'):EP X Z9 σ Q (.bool k') s:=by
 subst e
 exact⟨.bl k,H,I,rfl,q⟩
theorem GX:pO X (compareOp .Eq) rEq:=by
 intro Z9 s σ H x y v u Q I rx ry h
 let(hs,q):=h
 cases x with
 | non =>
  cases rx
  cases y with
  | non=>cases ry;exact PySem.EqNone.eq_none_none (nP I q (by simp))
  | bl j=>cases ry;exact PySem.EqNone.eq_none_bool (nP I q (by simp))
  | int j=>let(t',rfl):=ry;exact PySem.EqNone.eq_none_int (nP I q (by simp))
  | str j=>let(t',rfl):=ry;exact PySem.EqNone.eq_none_str (nP I q (by simp))
  | _=>exact absurd (show false=true from hs) eB
 | bl i =>
  cases rx
  cases y with
  | non=>cases ry;exact PySem.EqNone.eq_bool_none (nP I q (by simp))
  | bl j=>cases ry;exact eq_bool (nP I q Ee)
  | str j=>let(t',rfl):=ry;exact PySem.EqMixed.eq_bool_str (nP I q (by simp))
  | _=>exact absurd (show false=true from hs) eB
 | int i =>
  let(t,rfl):=rx
  cases y with
  | non=>cases ry;exact PySem.EqNone.eq_int_none (nP I q (by simp))
  | int j=>let(t',rfl):=ry;exact eq_int (nP I q A6)
  | str j=>let(t',rfl):=ry;exact PySem.EqMixed.eq_int_str (nP I q (by simp))
  | _=>exact absurd (show false=true from hs) eB
 | str i =>
  let(t,rfl):=rx
  cases y with
  | non=>cases ry;exact PySem.EqNone.eq_str_none (nP I q (by simp))
  | bl j=>cases ry;exact PySem.EqMixed.eq_str_bool (nP I q (by simp))
  | int j=>let(t',rfl):=ry;exact PySem.EqMixed.eq_str_int (nP I q (by simp))
  | str j=>let(t',rfl):=ry;exact eq_str (nP I q A5)
  | _=>exact absurd (show false=true from hs) eB
 | byt i =>
  let(t,rfl):=rx
  cases y with
  | byt j=>let(t',rfl):=ry;exact PySem.W.eq_bytes (nP I q A7)
  | _=>exact absurd (show false=true from hs) eB
 | _=>cases y<;>exact absurd (show false=true from hs) eB
theorem Lk:pO X (compareOp .NotEq) rNe:=by
 intro Z9 s σ H x y v u Q I rx ry h
 let(hs,q):=h
 cases x with
 | non =>
  cases rx
  cases y with
  | non=>cases ry;exact PySem.EqNone.ne_none_none (nP I q (by simp))
  | bl j=>cases ry;exact PySem.EqNone.ne_none_bool (nP I q (by simp))
  | int j=>let(t',rfl):=ry;exact PySem.EqNone.ne_none_int (nP I q (by simp))
  | str j=>let(t',rfl):=ry;exact PySem.EqNone.ne_none_str (nP I q (by simp))
  | _=>exact absurd (show false=true from hs) eB
 | bl i =>
  cases rx
  cases y with
  | non=>cases ry;exact PySem.EqNone.ne_bool_none (nP I q (by simp))
  | bl j=>cases ry;exact ne_bool (nP I q (congrArg not Ee))
  | str j=>let(t',rfl):=ry;exact PySem.EqMixed.ne_bool_str (nP I q (by simp))
  | _=>exact absurd (show false=true from hs) eB
 | int i =>
  let(t,rfl):=rx
  cases y with
  | non=>cases ry;exact PySem.EqNone.ne_int_none (nP I q (by simp))
  | int j=>let(t',rfl):=ry;exact ne_int (nP I q (congrArg not A6))
  | str j=>let(t',rfl):=ry;exact PySem.EqMixed.ne_int_str (nP I q (by simp))
  | _=>exact absurd (show false=true from hs) eB
 | str i =>
  let(t,rfl):=rx
  cases y with
  | non=>cases ry;exact PySem.EqNone.ne_str_none (nP I q (by simp))
  | bl j=>cases ry;exact PySem.EqMixed.ne_str_bool (nP I q (by simp))
  | int j=>let(t',rfl):=ry;exact PySem.EqMixed.ne_str_int (nP I q (by simp))
  | str j=>let(t',rfl):=ry;exact ne_str (nP I q (congrArg not A5))
  | _=>exact absurd (show false=true from hs) eB
 | byt i =>
  let(t,rfl):=rx
  cases y with
  | byt j=>let(t',rfl):=ry;exact PySem.W.ne_bytes (nP I q (congrArg not A7))
  | _=>exact absurd (show false=true from hs) eB
 | _=>cases y<;>exact absurd (show false=true from hs) eB
theorem Ll:pO X (compareOp .Lt) (rI0 λi j=>.bl (decide (i<j))):=Fn λ_ _ _ _ _ _ _ q=>lt_int q
theorem Lm:pO X (compareOp .LtE) (rI0 λi j=>.bl (decide (i<=j))):=Fn λ_ _ _ _ _ _ _ q=>le_int q
theorem Ln:pO X (compareOp .Gt) (rI0 λi j=>.bl (decide (j<i))):=Fn λ_ _ _ _ _ _ _ q=>gt_int q
theorem Lo:pO X (compareOp .GtE) (rI0 λi j=>.bl (decide (j<=i))):=Fn λ_ _ _ _ _ _ _ q=>ge_int q
theorem Av {op:mV}{r:R2}(ho:pO X (compareOp op) r)(ha:PE X a ta)(hb:PE X b tb)(hm:behindInMarks op b=false):PE X (.Compare a [op] [b] pos) (Hj r ta tb):=by
 intro Z9 s σ H Q I h
 exact iU (JG ha hb I h λv u s2 x y H2 I2 rx ry q=>ho Z9 s2 σ H2 x y v u Q I2 rx ry q) hm
def Kz (t:TE):TT:=λσ H Q=>t σ H λx H'=>∃ k,x=.bl k/\Q k H'
theorem E4 {op:mV}{r:R2}(ho:pO X (compareOp op) r)(ha:PE X a ta)(hb:PE X b tb)(hm:behindInMarks op b=false):PT X (.Compare a [op] [b] pos) (Kz (Hj r ta tb)):=by
 intro Z9 s σ H Q I h
 refine bV (nW (ha Z9 s σ H _ I h) λv s1 ⟨x,H1,I1,r1,q1⟩=>nW (hb Z9 s1 σ H1 _ I1 q1) λu s2 ⟨y,H2,I2,r2,q2⟩ =>
  nW (ho Z9 s2 σ H2 x y v u _ I2 r1 r2 q2) λc s3 ⟨z,H3,I3,r3,k,e,q3⟩=>?_) hm
 subst e
 cases r3
 exact eI ⟨H3,I3,q3⟩
def Es (K:kj)(x:V)(H:Hp)(k:Bool):Prop :=
 match x with
 | .non=>k=false
 | .bl b=>k=b
 | .int i=>k=(i != 0)
 | .str y=>y.length<=sizeLine/\k=((y.length:Int) != 0)
 | .byt y=>y.size<=sizeLine/\k=((y.size:Int) != 0)
 | .ref p=>(∃ xs,SqL K H p xs/\k = !xs.isEmpty) ∨ (∃ xs,SqT K H p xs/\k = !xs.isEmpty) ∨ ∃ Z6,H p=some (.dK Z6)/\k = !Z6.isEmpty
 | _=>False
theorem zI {κ:Type}{Z6:List (κ×V)}{vs:List (κ×mM)}(r:KV Z6 vs):(!vs.isEmpty) = !Z6.isEmpty:=by
 cases r<;>rfl
theorem uP {xs:List V}{Z7:List mM}(r:Vals xs Z7):(!Z7.toArray.isEmpty) = !xs.isEmpty:=by
 cases r<;>simp
theorem sW:(sizeLine:Nat)<2 ^ 63:=by rw[kN];decide
theorem za:Rm X (λx H Q=>∃ k,Es X.K x H k/\Q k H):=by
 intro Z9 s σ H x v Q I rx h
 let(k,e,q):=h
 have hl:=sW
 have hs:sizeLine=16777216:=kN
 cases x with
 | non =>
  cases rx
  have e':k=false:=e
  subst e'
  exact truthy_none ⟨H,I,q⟩
 | bl b =>
  cases rx
  have e':k=b:=e
  subst e'
  exact eI ⟨H,I,q⟩
 | int i =>
  let(t,rfl):=rx
  have e':k=(i != 0):=e
  subst e'
  exact PySem.P.truthy_int ⟨H,I,q⟩
 | str y =>
  let(t,rfl):=rx
  obtain⟨hy,e'⟩:y.length<=sizeLine/\k=((y.length:Int) != 0):=e
  subst e'
  exact PySem.P.truthy_str ⋯ ⟨H,I.tok _,q⟩
 | byt y =>
  let(t,rfl):=rx
  obtain⟨hy,e'⟩:y.size<=sizeLine/\k=((y.size:Int) != 0):=e
  subst e'
  exact PySem.W.truthy_bytes ⋯ ⟨H,I.tok _,q⟩
 | ref p =>
  cases rx
  have e':(∃ xs,SqL X.K H p xs/\k = !xs.isEmpty) ∨ (∃ xs,SqT X.K H p xs/\k = !xs.isEmpty) ∨ ∃ Z6,H p=some (.dK Z6)/\k = !Z6.isEmpty:=e
  rcases e' with⟨xs,hx,e'⟩|⟨xs,hx,e'⟩|⟨Z6,hx,e'⟩
  ·subst e'
   let(Z7,r,pl,hz):=I.list hx
   have hlen:=r.length
   exact wpAny_truthy_list pl.isList (by simp only[fk];lia) ⟨H,I.tok _,by rw[uP r];exact q⟩
  ·subst e'
   let(Z7,r,pl,hz):=I.tuple hx
   have hlen:=r.length
   exact truthy_tuple pl (by simp only[fk];lia) ⟨H,I.tok _,by rw[uP r];exact q⟩
  ·subst e'
   obtain⟨hz,hS,vs,r,m⟩:Z6.length<=sizeLine/\(p == sysModules)=false/\∃ vs,KV Z6 vs/\s.heap.DictOf (n5 X.prog X.w) p vs:=I.hok p _ hx
   have hlen:Z6.length=vs.length:=jI r
   exact wpAny_truthy_dict hS m ⋯ ⟨H,I.tok _,by rw[zI r];exact q⟩
 | _=>exact (show False from e).elim
theorem C6 (ha:PE X a ta)(he:∀ whole,isTrue a X.env whole=(do let v <- whole;standAt a.pos;holding [v] (truthy v))) :
  PT X a (λσ H Q=>ta σ H λx H'=>∃ k,Es X.K x H' k/\Q k H'):=by
 intro Z9 s σ H Q I h
 exact isTrue_plain (nW (ha Z9 s σ H _ I h) λv s1 q1=>by let(x,H1,I1,r1,q1):=q1;exact za Z9 s1 σ H1 x v Q I1 r1 q1) (he _)
theorem uw:pO X (binaryOp .Add) (λx y H Q=>∃ i j,x=.str i/\y=.str j/\i.length+j.length<=sizeLine/\Q (.str (i++j)) H):=by
 intro Z9 s σ H x y v u Q I rx ry h
 let(i,j,rfl,rfl,hz,q):=h
 let(t,rfl):=rx
 let(t',rfl):=ry
 exact add_str (λt' tk=>⟨.str (i++j),H,I.tok _,⟨_,rfl⟩,q⟩) hz
theorem vals1 {x:V}{us:List mM}(r:Vals [x] us):∃ u,us=[u]/\RelV x u:=by
 cases r with
 | cons r1 r2=>cases r2;exact⟨_,rfl,r1⟩
theorem vals2 {x y:V}{us:List mM}(r:Vals [x,y] us):∃ u w',us=[u,w']/\RelV x u/\RelV y w':=by
 cases r with
 | cons r1 r2 =>
  cases r2 with
  | cons r3 r4=>cases r4;exact⟨_,_,rfl,r1,r3⟩
theorem El:og X (.builtin "abs") (λxs H Q=>∃ i,xs=[.int i]/\Q (.int (if i<0 then -i else i)) H):=by
 intro Z9 s σ H xs us Q I r h
 let(i,rfl,q):=h
 let(u,rfl,t,rfl):=vals1 r
 exact call_abs_int λu tk=>⟨.int (if i<0 then -i else i),H,I.tok _,⟨_,rfl⟩,q⟩
theorem Ch (hc:X.calm=true):og X (.builtin "max") (λxs H Q=>∃ i j,xs=[.int i,.int j]/\Q (.int (if j > i then j else i)) H):=by
 intro Z9 s σ H xs us Q I r h
 let(i,j,rfl,q):=h
 let(u,w',rfl,(t,rfl),(t',rfl)):=vals2 r
 refine max_two_ints (I.ok.hd hc) λh' tk k=>⟨_,H,I.kept k,?_,q⟩
 by_cases hj:j > i
 ·rw[if_pos hj,if_pos hj];exact⟨_,rfl⟩
 ·rw[if_neg hj,if_neg hj];exact⟨_,rfl⟩
theorem Cg (hc:X.calm=true):og X (.builtin "min") (λxs H Q=>∃ i j,xs=[.int i,.int j]/\Q (.int (if j<i then j else i)) H):=by
 intro Z9 s σ H xs us Q I r h
 let(i,j,rfl,q):=h
 let(u,w',rfl,(t,rfl),(t',rfl)):=vals2 r
 refine min_two_ints (I.ok.hd hc) λh' tk k=>⟨_,H,I.kept k,?_,q⟩
 by_cases hj:j<i
 ·rw[if_pos hj,if_pos hj];exact⟨_,rfl⟩
 ·rw[if_neg hj,if_neg hj];exact⟨_,rfl⟩
theorem wo:og X (.type "int") (λxs H Q=>(∃ i,xs=[.int i]/\Q (.int i) H) ∨ ∃ k,xs=[.bl k]/\Q (.int (if k then 1 else 0)) H):=by
 intro Z9 s σ H xs us Q I r h
 rcases h with⟨i,rfl,q⟩|⟨k,rfl,q⟩
 ·let(u,rfl,t,rfl):=vals1 r
  exact call_int_int ⟨.int i,H,I,⟨_,rfl⟩,q⟩
 ·let(u,rfl,r1):=vals1 r
  cases r1
  exact call_int_bool ⟨.int (if k then 1 else 0),H,I.tok _,⟨_,rfl⟩,q⟩
theorem xr:og X (.type "str") (λxs H Q=>∃ i,xs=[.int i]/\i.natAbs.log2<1920/\Q (.str (toString i)) H):=by
 intro Z9 s σ H xs us Q I r h
 let(i,rfl,hz,q):=h
 let(u,rfl,t,rfl):=vals1 r
 exact PySem.P.str_of_int hz ⟨.str _,H,I.tok _,⟨_,rfl⟩,q⟩
end
end L2
namespace L2
open PySem PySem.Spec PyProof.Rows
structure ObjM (h:mY)(x dx C:m4)(mA:Str->Option mM):Prop where
 obj:h.get? x=some (gV C dx)
 ns:h.Ns1 dx mA
 ne:dx≠x
theorem BU {h:mY}{dx:m4}{mA:Str->Option mM}(n:h.Ns1 dx mA):∃ od,h.get? dx=some od/\∀ name,i8 name od=some (mA name):=by
 let(o,es,ep,ho,hd,hk,_,hm):=n
 refine⟨o,ho,λname=>?_⟩
 have e:=hm name
 unfold nsFind findBy at e
 rw[<- Array.find?_toList] at e
 unfold i8
 rw[hd]
 dsimp only
 split
 ·rename_i y q
  rw[q] at e
  exact congrArg some e
 ·rename_i q
  rw[q] at e
  have a:es.toList.any (·.refKey)=false:=by
   rw[List.any_eq_false]
   intro y hy
   let(z,t,hkey):=hk y (Array.mem_toList_iff.mp hy)
   simp[DictEntry.refKey,hkey]
  have a':¬ es.toList.any (·.refKey)=true:=by rw[a];exact eB
  rw[if_neg a']
  exact congrArg some e
theorem ObjM.look {h:mY}{x dx C:m4}{mA:Str->Option mM}(I:ObjM h x dx C mA):∃ od,PySem.W.InstAt h x (gV C dx) C (some od)/\∀ name,i8 name od=some (mA name) :=
 let ⟨od,ho,hl⟩:=BU I.ns
 ⟨od,⟨I.obj,rfl,rfl,ho⟩,hl⟩
theorem RelO.some_of {v:V}{o:Option mM}(r:RelO (some v) o):∃ u,o=some u/\RelV v u:=by
 cases o with
 | none=>exact (show False from r).elim
 | some u=>exact⟨u,rfl,r⟩
section
variable {P:mm}{w:mL}{H:Hp}{h:mY}{a C dx:m4}{fs:List (Str×V)}
theorem FX (hok:HOk P w H h)(e:H a=some (.ins C dx fs)):∃ mA,ObjM h a dx C mA/\(∀ f,RelO (fs.lookup f) (mA f))/\kh mA (fs.map (·.1))/\fs.length<=1000/\H dx=some (.own a):=by
 let(d,z,ne,ob,mA,n,r,q):=(show ObjOk P w H h a (.ins C dx fs) from hok a _ e)
 exact⟨mA,⟨ob,n,ne⟩,r,q,z,d⟩
end
structure Cls (K:kj)(C:m4):Prop where
 pg:fT K C Str.empty=true
 hd:PySem.W.hasDictIn K C=true
 po:PySem.W.plainOver K C=true
 sa:jc K (.ref C) "__setattr__" = some (some (.builtin "object.__setattr__"))
theorem Cls.get {K:kj}{C:m4}(c:Cls K C)(f:Str):fT K C f=true:=c.pg
def xE (K:kj)(C:m4)(f:Str):Prop:=jc K (.ref C) f=some none
structure Meth (K:kj)(C:m4)(m:Str)(f:m4):Prop where
 at_:jc K (.ref C) m=some (some (.ref f))
 fn:PySem.W.isFn K (.ref f)=true
 kp:ja K (.ref f)=true
section
variable {X:Cx}{Z9:List (m4×Obj)}{σ:St}{H:Hp}{s:mD}{A:mK}{E:mM->mD->Prop}{Q:mM->mD->Prop}{c:mM}{b:Bool}
inductive TyOf (K:kj)(H:Hp):V->mM->Prop where
 | non:TyOf K H .non (.type "NoneType")
 | bl (x:Bool):TyOf K H (.bl x) (.type "bool")
 | int (i:Int):TyOf K H (.int i) (.type "int")
 | str (x:Str):TyOf K H (.str x) (.type "str")
 | flt (x:UInt64):TyOf K H (.flt x) (.type "float")
 | lst {a:m4}{xs:List V}(e:H a=some (.lst xs)):TyOf K H (.ref a) (.type "list")
 | frz {a:m4}{o:Obj}{xs:List V}(e:H a=some (.frz o (.lst xs))):TyOf K H (.ref a) (.type "list")
 | tup {a:m4}{xs:List V}(e:H a=some (.tup xs)):TyOf K H (.ref a) (.type "tuple")
 | dK {a:m4}{Z6:List (o6×V)}(e:H a=some (.dK Z6)):TyOf K H (.ref a) (.type "dict")
 | dT {a:m4}{Z6:List (List o6×V)}(e:H a=some (.dT Z6)):TyOf K H (.ref a) (.type "dict")
 | ins {a C dx:m4}{fs:List (Str×V)}(e:H a=some (.ins C dx fs))(cl:Cls K C)(ha:jc K (.ref C) "__class__" = some (some (.builtin "object.__class__")))
   (hn:PySem.W.specialIn K (.builtin "object.__class__") "__get__" = some (some (.builtin "getset_descriptor.__get__")))(htk:PySem.W.takesIn K (.builtin "object.__class__")=some true)
   (hm:PySem.W.mroIn K C (.type "object")=some true):TyOf K H (.ref a) (.ref C)
theorem BY {x:V}{u t:mM}(I:Inv X Z9 σ H s)(rx:RelV x u)(ty:TyOf X.K H x t)(e:i9 X.K t c=some b)(h:∀ tk,Q (.bool b) { s with toks:=tk }) :
  wpAny (model X.prog X.w) A (call (.builtin "isinstance") [u,c]) Q E s:=by
 cases ty with
 | non=>cases (show u=Value.none from rx);exact gU PySem.W.kitx_none I.kIn True.intro e (λz=>nomatch z) h
 | bl y=>cases (show u=Value.bool y from rx);exact gU PySem.W.kitx_bool I.kIn True.intro e (λz=>nomatch z) h
 | int i=>let(t,q):=(show ∃ t,u=Value.int i t from rx);cases q;exact gU PySem.W.kitx_int I.kIn True.intro e (λz=>nomatch z) h
 | str y=>let(t,q):=(show ∃ t,u=Value.str y t from rx);cases q;exact gU PySem.W.kitx_str I.kIn True.intro e (λz=>nomatch z) h
 | flt y=>let(t,q):=(show ∃ t,u=Value.float y t from rx);cases q;exact gU PySem.W.kitx_float I.kIn True.intro e (λz=>nomatch z) h
 | @lst a xs ea =>
  cases (show u=Value.ref a from rx)
  let(_,_,n,_,h1):=(show ObjOk X.prog X.w H s.heap a (.lst xs) from I.hok a _ ea)
  exact gU eY I.kIn ⟨_,h1,rfl⟩ e (λz=>nomatch z) h
 | @frz a ob xs ea =>
  cases (show u=Value.ref a from rx)
  let(_,_,_,n,_,h1):=(show ObjOk X.prog X.w H s.heap a (.frz ob (.lst xs)) from I.hok a _ ea)
  exact gU eY I.kIn ⟨_,h1,rfl⟩ e (λz=>nomatch z) h
 | @tup a xs ea =>
  cases (show u=Value.ref a from rx)
  let(_,_,_,p):=(show ObjOk X.prog X.w H s.heap a (.tup xs) from I.hok a _ ea)
  let(o,h1,h2,_):=p
  exact gU PySem.W.kitx_tuple I.kIn ⟨o,h1,h2⟩ e (λz=>nomatch z) h
 | @dK a Z6 ea =>
  cases (show u=Value.ref a from rx)
  let(_,_,vs,_,p):=(show ObjOk X.prog X.w H s.heap a (.dK Z6) from I.hok a _ ea)
  let(o,es,ep,h1,h2,_):=p
  exact gU eZ I.kIn ⟨o,h1,h2.1⟩ e (λz=>nomatch z) h
 | @dT a Z6 ea =>
  cases (show u=Value.ref a from rx)
  let(_,_,xs,_,o,es,ep,h1,h2,_):=(show ObjOk X.prog X.w H s.heap a (.dT Z6) from I.hok a _ ea)
  exact gU eZ I.kIn ⟨o,h1,h2.1⟩ e (λz=>nomatch z) h
 | @ins a C dx fs ea cl ha hn htk hm =>
  cases (show u=Value.ref a from rx)
  let(mA,O,_):=FX I.hok ea
  let(od,J,_):=O.look
  exact gU (PySem.W.kitx_own (cl.get _) cl.hd ha hn htk hm) I.kIn J e (λz=>nomatch z) h
end
end L2
namespace L2
open PySem PySem.Spec PyProof.Rows
structure Room (k:Nat)(A:mK):Prop where
 hd:A.handled=none
 dp:A.depth+3*k+5<recursionLimit
 un:A.units+16*k+200<cLine
 gd:A.guards=some []
theorem Room.deeper {k:Nat}{A:mK}(r:Room (k+1) A)(env:Env):Room k (A.deeper env) :=
 ⟨r.hd,by have:=r.dp;show A.depth+1+3*k+5<_;lia,by have:=r.un;show A.units+3+16*k+200<_;lia,r.gd⟩
structure RoomS (k:Nat)(A:mK):Prop extends Room k A where
 dp2:A.depth+3*k+7<recursionLimit
 un2:A.units+16*k+210<cLine
theorem Room.deeperS {k:Nat}{A:mK}(r:Room (k+1) A)(env:Env):RoomS k (A.deeper env) :=
 ⟨r.deeper env,by have:=r.dp;show A.depth+1+3*k+7<_;lia,by have:=r.un;show A.units+3+16*k+210<_;lia⟩
theorem Room.depth {k:Nat}{A:mK}(r:Room k A):A.depth<recursionLimit:=by have:=r.dp;lia
theorem Room.units {k:Nat}{A:mK}(r:Room k A):A.units+64<cLine:=by have:=r.un;lia
def KC:TA:=λ_ H Q=>Q [] H
def Ak (ta:TE)(tr:TA):TA:=λσ H Q=>ta σ H λx H1=>tr σ H1 λxs H2=>Q (x :: xs) H2
section
variable {X:Cx}{e:Expr}{es:List Expr}{te:TE}{t:TA}{pos:Pos}
theorem oM:PA X [] KC:=λ_ _ _ _ H Q I h=>fI ⟨[],H,I,.nil,h⟩
theorem nE (ha:PE X e te)(hr:PA X es t)(hs:starEach (e :: es) X.env=(false,eval e X.env) :: starEach es X.env:=by rfl):PA X (e :: es) (Ak te t):=by
 intro pos Z9 s σ H Q I h
 rw[hs]
 show wpAny _ _ (spliced ((false,eval e X.env) :: backTo pos (starEach es X.env))) _ _ s
 refine et (nW (ha Z9 s σ H _ I h) λu s1 ⟨x,H1,I1,r1,q1⟩=>?_)
 refine nW (hr pos Z9 s1 σ H1 _ I1 q1) λus s2 q2=>?_;let(xs,H2,I2,r2,q2):=q2;exact⟨x :: xs,H2,I2,.cons r1 r2,q2⟩
def Ol (t:TA):TE:=λσ H Q=>t σ H λxs H1=>xs.length<=sizeLine/\∀ p,H1 p=none->Q (.ref p) (oj H1 p (.tup xs))
def Oq (t:TA):TE:=λσ H Q=>t σ H λxs H1=>xs.length<=sizeLine/\∀ p,H1 p=none->Q (.ref p) (oj H1 p (.lst xs))
theorem HV {x1}(h:PA X es t):PE X (.Tuple es x1 pos) (Ol t):=by
 intro Z9 s σ H Q I hq
 refine wpAny_Tuple_spliced (nW (h pos Z9 s σ H _ I hq) λus s1 ⟨xs,H1,I1,r,z,q⟩=>⟨by rw[<- r.length];exact z,?_⟩)
 have hf:H1 s1.heap.objs.size=none:=I1.hok.fresh (kT _)
 refine⟨.ref s1.heap.objs.size,oj H1 s1.heap.objs.size (.tup xs),I1.laid (t':=s1.toks) (λb u e=>bR _ e) (kT _) ?_,rfl,q _ hf⟩
 exact⟨z,us,r,⟨_,dj _ rfl,rfl,_,rfl⟩⟩
theorem Dj (h:PA X es t):PE X (.List es pos) (Oq t):=by
 intro Z9 s σ H Q I hq
 refine wpAny_List_spliced (nW (h pos Z9 s σ H _ I hq) λus s1 ⟨xs,H1,I1,r,z,q⟩=>⟨by rw[<- r.length];exact z,?_⟩)
 have hf:H1 s1.heap.objs.size=none:=I1.hok.fresh (kT _)
 refine⟨.ref s1.heap.objs.size,oj H1 s1.heap.objs.size (.lst xs),I1.laid (t':=s1.toks) (λb u e=>bR _ e) (kT _) ?_,rfl,q _ hf⟩
 exact⟨z,us,0,r,dj _ rfl⟩
end
abbrev Sp:=List V->Hp->VK->XK->Prop
abbrev GN:=List Env->Hp->mD->XK->mM->mD->Prop
structure Env0 (P:mm)(w:mL)(K:kj)(mg:Str->Option mM)(base:mY)(A:mK)(outer:List Env)(s:mD)(H:Hp):Prop where
 frames:A.frames=some outer
 mod:Mod K mg base
 bs:∀ b o,base.get? b=some o->s.heap.get? b=some o/\H b=none
 bsz:base.objs.size<=s.heap.objs.size
 funs:s.heap.FunFrames base outer
 frf:∀ b∈xG outer,H b=none
 hok:HOk P w H s.heap
 bare:mB s.gens
inductive CE (outer:List Env)(P:mm)(w:mL)(H:Hp)(s:mD)(Q:VK)(u:mM)(s':mD):Prop
 | mk (v:_)(H':_)(_:s'.os=s.os)(_:mB s'.gens)(_:Un (xG outer) [] H H' s.heap s'.heap)(_:HOk P w H' s'.heap)(_:RelV v u)(_:Q v H'):CE outer P w H s Q u s'
def CR (CX:GN)(outer:List Env)(P:mm)(w:mL)(H:Hp)(s:mD)(Q:VK)(E:XK)(r:mE)(s':mD):Prop :=
 match r with
 | .ok (.ret u)=>CE outer P w H s Q u s'
 | .ok _=>False
 | .error e=>CX outer H s E e s'
structure FnOk (P:mm)(w:mL)(K:kj)(mg:Str->Option mM)(base:mY)(CX:GN) (k:Nat)(f:m4)(fd:mh)(ps:List Str)(sp:Sp):Prop where
 len:∀ vs H Q E,sp vs H Q E->vs.length=ps.length
 run:∀ (A:mK)(outer:List Env)(s:mD)(H:Hp)(args:Args)(us:List mM)(vs:List V)(Q:VK)(E:XK),Room k A->Env0 P w K mg base A outer s H->mz s fd args (ps.zip us)->Vals vs us->sp vs H Q E ->
  codeAny (model P w) A (.call (.ref f) args) (CR CX outer P w H s Q E) s
section
variable {X:Cx}{Z9:List (m4×Obj)}{σ:St}{H:Hp}{s s':mD}
theorem Inv.env0 (I:Inv X Z9 σ H s):Env0 X.prog X.w X.K X.mg X.base X.A X.stack s H :=
 ⟨I.ok.frames,I.ok.mod,I.bs,kA I.ok.bsz I.sz,I.stack,I.stkFree,I.hok,I.bare⟩
theorem Inv.after {Q:VK}{u:mM}(I:Inv X Z9 σ H s)(h:CE X.stack X.prog X.w H s Q u s'):EP X Z9 σ Q u s':=by
 let(v,H',os,bare,un,hok,r,q):=h
 let(hh,g,d,t,os'):=s'
 obtain rfl:os'=s.os:=os
 exact⟨v,H',I.call (h':=hh) (g':=g) (d':=d) (t':=t) (ch:=[]) un hok bare (λb z=>absurd z (by simp)),r,q⟩
end
def KH (sp:Sp)(dvs:List V)(E:XK)(t:TA):TE:=λσ H Q=>t σ H λvs H1=>sp (vs++dvs) H1 Q E
def Binds (K:kj)(fd:mh)(ps:List Str)(ds:List mM):Prop :=
 ∀ (s:mD)(us:List mM),K.In s.heap->(us++ds).length=ps.length->mz s fd ⟨us,[]⟩ (ps.zip (us++ds))
theorem Binds.all {K:kj}{fd:mh}{ps:List Str}(h:∀ us:List mM,us.length=ps.length->bindArgs fd ⟨us,[]⟩=pure (ps.zip us)):Binds K fd ps []:=λs us _ hl=>by
 rw[iE] at hl ⊢
 exact .of_eq (h us hl)
def Ag (CX:GN)(X:Cx)(E:XK):Prop:=∀ (Z9:List (m4×Obj))(σ:St)(H:Hp)(s:mD)(e:mM)(s':mD),Inv X Z9 σ H s->CX X.stack H s E e s'->X.xe e s'
section
variable {X:Cx}{CX:GN}{k:Nat}{f C:m4}{fd:mh}{ps:List Str}{sp:Sp}{dvs:List V}{ds:List mM}{E:XK}{x:Str}{p pos:Pos}{e:Expr}{es:List Expr}{t:TA}
theorem HC {Z9:List (m4×Obj)}{σ:St}{H:Hp}{s:mD}{Q:VK}{us:List mM}{vs:List V}(F:FnOk X.prog X.w X.K X.mg X.base CX k f fd ps sp)(hr:Room k X.A)(hb:Binds X.K fd ps ds)(hd:Vals dvs ds)(hx:Ag CX X E)
  (I:Inv X Z9 σ H s)(r:Vals vs us)(h:sp (vs++dvs) H Q E):wpAny (model X.prog X.w) X.A (call (.ref f) us) (EP X Z9 σ Q) X.xe s:=by
 have r2:Vals (vs++dvs) (us++ds):=r.append hd
 have hl:(us++ds).length=ps.length:=by rw[<- r2.length];exact F.len _ _ _ _ h
 refine wpAny_call (kc (F.run X.A X.stack s H ⟨us,[]⟩ (us++ds) (vs++dvs) Q E hr I.env0 (hb s us I.kIn hl) r2 h) λr s' hq=>?_)
 cases r with
 | error e=>exact hx Z9 σ H s e s' I hq
 | ok fl =>
  cases fl with
  | ret u=>exact I.after hq
  | next=>exact lM hq
  | brk=>exact lM hq
  | cont=>exact lM hq
theorem Ff (F:FnOk X.prog X.w X.K X.mg X.base CX k f fd ps sp)(hr:Room k X.A)(hg:Gl X x)(hm:X.mg x=some (.ref f))(hk:ja X.K (.ref f)=true)(hb:Binds X.K fd ps ds)(hd:Vals dvs ds)(hx:Ag CX X E)
  (ha:PA X (e :: es) t)(hdb:(x == ("__debug__":Str))=false:=by decide)(he:starEach (e :: es) X.env=(false,eval e X.env) :: starEach es X.env:=by rfl)(hpl:(backTo pos (starEach es X.env)).any (·.1)=false:=by rfl) :
  PE X (.Call (.Name x p) (e :: es) [] pos) (KH sp dvs E t):=by
 intro Z9 s σ H Q I h
 refine dC (FK I hg hm ?_ hdb)
 refine PySem.W.callWith_K (h₀:=X.base) I.ok.mod.kin hk (nW (ha pos Z9 s σ H _ I h) λus s1 ⟨vs,H1,I1,r,q⟩=>⟨I1.kIn,?_⟩) he hpl
 exact HC F hr hb hd hx I1 r q
structure Mk (K:kj)(C f:m4):Prop where
 makes:PySem.W.makesIn K C=true
 init:jc K (.ref C) "__init__" = some (some (.ref f))
 fn:PySem.W.isFn K (.ref f)=true
 kp:ja K (.ref C)=true
end
structure FnScope (N P:List Str)(sc:mN):Prop where
 kind:sc.kind=.function
 co:sc.isCoroutine=false
 gen:sc.isGenerator=false
 nd:N.Nodup
 pre:N.take P.length=P
 par:∀ x∈P,sc.names.lookup x=some .local ∨ sc.names.lookup x=some .cell
 nofree:∀ y∈sc.names,y.2≠.free
theorem wv {kindOf:Str->Option me}{x:Str}:∀ {binds:List (Str×mM)}{m:Str->Option mM},(∀ v,(x,v) ∉ binds)->bindL kindOf binds m x=m x
 | [],_,_=>rfl
 | (n,v) :: r,m,h=>by
  unfold bindL
  rw[wv λw hw=>h w (cM _ hw)]
  split
  ·have:x≠n:=by rintro rfl;exact h v dX
   simp[this]
  ·rfl
theorem wy {kindOf:Str->Option me}{x:Str}:∀ {binds:List (Str×mM)}{m:Str->Option mM},(∀ v,(x,v) ∉ binds)->bindC kindOf binds m x=m x
 | [],_,_=>rfl
 | (n,v) :: r,m,h=>by
  unfold bindC
  rw[wy λw hw=>h w (cM _ hw)]
  split
  ·rfl
  ·have:x≠n:=by rintro rfl;exact h v dX
   simp[this]
theorem wx {kindOf:Str->Option me}{x:Str}{v:mM}:∀ {P:List Str}{vs:List mM}{i:Nat}{m:Str->Option mM},P.Nodup->P[i]?=some x->vs[i]?=some v->kindOf x=some .local ->
  bindL kindOf (P.zip vs) m x=some v
 | [],_,_,_,_,h,_,_=>by simp at h
 | _ :: _,[],_,_,_,_,h,_=>by simp at h
 | p :: P,w :: vs,0,m,nd,h1,h2,hk=>by
  simp at h1 h2;subst h1;subst h2
  show bindL kindOf ((p,w) :: P.zip vs) m p=_
  unfold bindL
  rw[wv λv hv=>(ik.mp nd).1 (ij hv).1,if_pos hk]
  simp
 | p :: P,w :: vs,i+1,m,nd,h1,h2,hk=>by
  show bindL kindOf ((p,w) :: P.zip vs) m x=_
  unfold bindL
  exact wx (i:=i) (ik.mp nd).2 (by simpa using h1) (by simpa using h2) hk
theorem wz {kindOf:Str->Option me}{x:Str}{v:mM}:∀ {P:List Str}{vs:List mM}{i:Nat}{m:Str->Option mM},P.Nodup->P[i]?=some x->vs[i]?=some v->kindOf x≠some .local ->
  bindC kindOf (P.zip vs) m x=some v
 | [],_,_,_,_,h,_,_=>by simp at h
 | _ :: _,[],_,_,_,_,h,_=>by simp at h
 | p :: P,w :: vs,0,m,nd,h1,h2,hk=>by
  simp at h1 h2;subst h1;subst h2
  show bindC kindOf ((p,w) :: P.zip vs) m p=_
  unfold bindC
  rw[wy λv hv=>(ik.mp nd).1 (ij hv).1,if_neg hk]
  simp
 | p :: P,w :: vs,i+1,m,nd,h1,h2,hk=>by
  show bindC kindOf ((p,w) :: P.zip vs) m x=_
  unfold bindC
  exact wz (i:=i) (ik.mp nd).2 (by simpa using h1) (by simpa using h2) hk
def start (N:List Str)(vs:List V):St:=vs.map some++jf (N.length-vs.length) none
def zY (CX:GN)(P:mm)(w:mL)(K:kj)(mg:Str->Option mM)(base:mY)(N:List Str)(qual:Str)(scope:mN)(f:m4)(cd:mM)(A:mK)(outer:List Env)(s:mD)(H:Hp)(E:XK):Cx where
 prog:=P
 w:=w
 K:=K
 mg:=mg
 base:=base
 A:=A.deeper (envOfC qual scope s.heap.objs.size f cd)
 N:=N
 s₀:=s
 H₀:=H
 env:=envOfC qual scope s.heap.objs.size f cd
 outer:=outer
 stack:=envOfC qual scope s.heap.objs.size f cd :: outer
 ex:=[]
 calm:=true
 fn:=λ_=>true
 pn:=[]
 xe:=λe s'=>wpAny (model P w) (A.deeper (envOfC qual scope s.heap.objs.size f cd)) (leaving (envOfC qual scope s.heap.objs.size f cd) e) (λ_ s''=>CX outer H s E e s'') (λe' s''=>CX outer H s E e' s'') s'
theorem yT {sc:mN}{n:Nat}{x:Str}(h:sc.names.lookup x=some .cell):∃ c,(cellsFrom n sc.names []).lookup x=some c:=by
 have q:=bG sc.names n [] (.inl h)
 exact aX.mp q
theorem BZ {CX:GN}{P:mm}{w:mL}{K:kj}{mg:Str->Option mM}{base:mY}{N ps:List Str}{qual:Str}{scope:mN}{f:m4}{cd:mM}{A:mK}{outer:List Env}{s s1:mD}{H:Hp}{E:XK}{us:List mM}{vs:List V}
  (S:FnScope N ps scope)(hd:A.handled=none)(e0:Env0 P w K mg base A outer s H)(hl:vs.length=ps.length)(r:Vals vs us)
  (x:InCallC s s.heap.objs.size (bindL (envOfC qual scope s.heap.objs.size f cd).kindOf (ps.zip us) λ_=>none) (cellsFrom (s.heap.objs.size+1) scope.names []) (bindC (envOfC qual scope s.heap.objs.size f cd).kindOf (ps.zip us) λ_=>none) s1) :
  Inv (zY CX P w K mg base N qual scope f cd A outer s H E) [] (start N vs) H s1:=by
 have hpl:ps.length<=N.length:=by have:=congrArg kW S.pre;rw[gk] at this;lia
 let(h1,tk,rfl,hk):=x.done
 have noA:∀ b:m4,b ∉ (zY CX P w K mg base N qual scope f cd A outer s H E).ex:=λb z=>absurd (show b∈([]:List m4) from z) (by simp)
 refine⟨⟨e0.mod,S.kind,rfl,rfl,kT _,λy z c h1 h2=>?_,λy hy=>?_,λy c _ h=>?_,λ_=>hd,Around.frames_deeper e0.frames,.inr ⟨rfl,rfl⟩,λb z=>absurd z (noA b),e0.bs,e0.bsz,λb _ _=>noA b,λb z=>absurd z (noA b),e0.funs,e0.frf⟩,
  rfl,e0.bare,Un.kept hk,⟨_,x.toInCall.ns,λi y v h1 h2 h3=>?_⟩,λy c h=>⟨_,x.cell y c h⟩,e0.hok.fresh (kT _),λy c h=>?_,λp hp=>absurd (show p∈([]:List (m4×Obj)) from hp) (by simp),e0.hok.kept hk,?_⟩
 ·exact name_of_addr x.apart (c7 h1) (c7 h2)
 ·have hy:scope.names.lookup y=some .cell ∨ scope.names.lookup y=some .free:=hy
  rcases hy with hy|hy
  ·exact yT hy
  ·exact absurd rfl (S.nofree _ (c7 hy))
 ·exact kB (x.above y c (c7 h))
 ·have hi:i<vs.length:=by
   unfold start at h2
   by_cases hi:i<vs.length
   ·exact hi
   ·rw[aB (by simpa using hi)] at h2
    rw[bu] at h2
    split at h2<;>cases h2
  have ha:vs[i]?=some v:=by
   unfold start at h2
   rw[aP (by simpa using hi),fx] at h2
   cases e:vs[i]? with
   | none=>rw[e] at h2;cases h2
   | some a=>rw[e] at h2;cases h2;rfl
  let(u,hu,rv):=r.get ha
  have hp:ps[i]?=some y:=by
   rw[<- S.pre,bc ⋯];exact h1
  have ndP:ps.Nodup:=by rw[<- S.pre];exact S.nd.sublist (fj _ _)
  refine⟨u,rv,?_⟩
  rcases S.par y (cK hp) with k|k
  ·exact .inl ⟨k,wx ndP hp hu k⟩
  ·let(c,e):=yT (n:=s.heap.objs.size+1) k
   refine .inr ⟨.inl k,c,e,?_⟩
   have q:=x.cell y c e
   rw[wz ndP hp hu (by show scope.names.lookup y≠_;rw[k];decide)] at q
   exact q
 ·exact e0.hok.fresh (kB (x.above y c (c7 h)))
 ·unfold start
  show _=N.length
  rw[dY,iz,cm]
  lia
theorem LV {CX:GN}{P:mm}{w:mL}{K:kj}{mg:Str->Option mM}{base:mY}{k:Nat}{f:m4}{name qual:Str}{params:Arguments}{body:List mX}{scope:mN}{dV kV doc pm cdv ct oc:mM}{an od:Option m4}
  {osl:Array (Option mM)}{N ps:List Str}{sp:Sp}(lk:K.lookup f=some ⟨oc,od,.func (ki name qual params body scope dV kV doc pm an cdv ct),osl⟩)(hcd:jd K cdv qual=true)(S:FnScope N ps scope)
  (len:∀ vs H Q E,sp vs H Q E->vs.length=ps.length)
  (ZU:∀ (A:mK)(outer:List Env)(s:mD)(H:Hp)(vs:List V)(Q:VK)(E:XK),RoomS k (A.deeper (envOfC qual scope s.heap.objs.size f cdv))->sp vs H Q E ->
   ∃ t,PSs (zY CX P w K mg base N qual scope f cdv A outer s H E) body t/\t { nx:=λ_ H'=>Q .non H',rt:=Q } (start N vs) H) :
  FnOk P w K mg base CX (k+1) f (ki name qual params body scope dV kV doc pm an cdv ct) ps sp:=by
 refine⟨len,λA outer s H args us vs Q E hr e0 hb r hsp=>?_⟩
 have hl:=len _ _ _ _ hsp
 have KX:K.In s.heap:=e0.mod.kin.keeps λb o e=>(e0.bs b o e).1
 have lim:s.heap.NoLimit:=e0.mod.nolimit.keeps λb o e=>(e0.bs b o e).1
 have hkind:∀ y∈ps.zip us,scope.names.lookup y.1=some .local ∨ (scope.names.lookup y.1=some .cell/\((cellsFrom (s.heap.objs.size+1) scope.names []).lookup y.1).isSome=true):=λq1 hy=>by
  let(n,v):=q1
  rcases S.par n (ij hy).1 with q|q
  ·exact .inl q
  ·exact .inr ⟨q,bG _ _ _ (.inl q)⟩
 refine codeAny_call_function hr.depth (KX _ _ lk) rfl S.co S.gen rfl (PySem.W.codeRec_of KX hcd) (hb _ _ _ _ ?_)
 refine wpAny_newFunctionEnv_cells S.kind hkind λenv he s1 x=>?_
 subst he
 refine⟨lim.keeps x.toInCall.keep,codeAny_func ?_⟩
 let(t,ht,hq):=ZU A outer s H vs Q E (hr.deeperS _) hsp
 have I:Inv (zY CX P w K mg base N qual scope f cdv A outer s H E) [] (start N vs) H s1:=BZ S hr.hd e0 hl r x
 refine lg (ht [] s1 (start N vs) H _ I hq) (λfl s' hs=>?_) λe s' hs=>hs
 have fin:∀ {σ':St}{H':Hp}{v:V}{u:mM},Inv (zY CX P w K mg base N qual scope f cdv A outer s H E) [] σ' H' s'->RelV v u->Q v H'->CE outer P w H s Q u s' :=
  λ{σ' H' v u} J rv q=>⟨v,H',J.os,J.bare,J.base,J.hok,rv,q⟩
 cases fl with
 | ret u =>
  let(v,σ',H',J,rv,q):=hs
  exact fin J rv q
 | next =>
  let(σ',H',J,q):=hs
  exact fin (v:=V.non) (u:=Value.none) J rfl q
 | brk =>
  let(_,_,_,q):=hs
  exact lM q
 | cont =>
  let(_,_,_,q):=hs
  exact lM q
end L2
namespace L2
open PySem PySem.Spec PyProof.Rows
section
variable {X:Cx}{x:Str}{p pos:Pos}{e:Expr}{es:List Expr}{t:TA}{id T:String}{r:List V->Hp->VK->Prop}
def Ov (r:List V->Hp->VK->Prop)(t:TA):TE:=λσ H Q=>t σ H λvs H1=>r vs H1 Q
theorem qU (hc:og X (.builtin id) r)(hg:Gl X x)(hm:X.mg x=none)(hv:bootBuiltins x=some (.builtin id))(ha:PA X (e :: es) t)(hn:x≠"__name__":=by decide)(hdb:(x == ("__debug__":Str))=false:=by decide)
  (he:starEach (e :: es) X.env=(false,eval e X.env) :: starEach es X.env:=by rfl)(hpl:(backTo pos (starEach es X.env)).any (·.1)=false:=by rfl):PE X (.Call (.Name x p) (e :: es) [] pos) (Ov r t):=by
 intro Z9 s σ H Q I h
 refine dC (pL I hg hm hv ?_ hn hdb)
 exact PyProof.Rows.callWith_builtin1 (nW (ha pos Z9 s σ H _ I h) λus s1 q1=>by let(vs,H1,I1,r1,q1):=q1;exact hc Z9 s1 σ H1 vs us Q I1 r1 q1) he hpl
theorem BL (hc:og X (.type T) r)(hg:Gl X x)(hm:X.mg x=none)(hv:bootBuiltins x=some (.type T))(ha:PA X (e :: es) t)(hn:x≠"__name__":=by decide)(hdb:(x == ("__debug__":Str))=false:=by decide)
  (he:starEach (e :: es) X.env=(false,eval e X.env) :: starEach es X.env:=by rfl)(hpl:(backTo pos (starEach es X.env)).any (·.1)=false:=by rfl):PE X (.Call (.Name x p) (e :: es) [] pos) (Ov r t):=by
 intro Z9 s σ H Q I h
 refine dC (pL I hg hm hv ?_ hn hdb)
 exact ak (nW (ha pos Z9 s σ H _ I h) λus s1 q1=>by let(vs,H1,I1,r1,q1):=q1;exact hc Z9 s1 σ H1 vs us Q I1 r1 q1) he hpl
end
end L2
namespace HT
open PySem PyProof.Rows
def lexLt:List Int->List Int->Bool
 | [],[]=>false
 | [],_ :: _=>true
 | _ :: _,[]=>false
 | x :: xs,y :: ys=>if x=y then lexLt xs ys else decide (x<y)
theorem zE (x y:Int)(xs ys:List Int):lexLt (x :: xs) (y :: ys)=if x=y then lexLt xs ys else decide (x<y):=rfl
theorem vy:lexLt [] []=false:=rfl
theorem uG (y:Int)(ys:List Int):lexLt [] (y :: ys)=true:=rfl
theorem uH (x:Int)(xs:List Int):lexLt (x :: xs) []=false:=rfl
theorem D5 (A:mK)(s:mD) (a:Int)(t:Tok) (c:Int)(u:Tok):∃ e,lD A s (.int a t) (.int c u) e/\(e=true↔a=c) :=
 ⟨(a == c),dH a t c u,by simp⟩
theorem C2 (A:mK)(s:mD) (a:Int)(t:Tok) (c:Int)(u:Tok)(prog:mm)(w:mL)(E:mM->mD->Prop)(Q:mM->mD->Prop)(h:Q (.bool (decide (a<c))) s) :
  wpAny (model prog w) A (richCompare .Lt (.int a t) (.int c u)) Q E s :=
 (c8 h:wpAny (model prog w) A (compareOp .Lt (.int a t) (.int c u)) Q E s)
section
open PySem.SeqAt
open PySem.AutoSeq1 (wpAny_loadPart')
open PySem.MeetsSeq PySem.MeetsSeq2 PySem.MeetsSeq3
theorem vo (l b:m4)(items ZX:Array mM) (n n2:Nat)(dd dd2:Option m4)(sl sl2:Array (Option mM))(ns ms:List Int)(hi:mw items.toList ns)(hj:mw ZX.toList ms) :
  mQ (my.«tuple.__lt__» ⟨[.ref l,.ref b],[]⟩)
   (λ_ R s=>s.heap.get? l=some { cls:=.type "tuple",dict:=dd,data:=.seq items n,slots:=sl }/\s.heap.get? b=some { cls:=.type "tuple",dict:=dd2,data:=.seq ZX n2,slots:=sl2 } /\
    R (.ok (.ret (.bool (lexLt ns ms)))) s) :=
 .of_wp λprog w A R s h=>by
  let(hp,g,d,tk,os):=s;let(hl,hb,h):=h
  have f2:=bm
  have z1:items.size=ns.length:=by rw[<- hi.length];simp
  have z2:ZX.size=ms.length:=by rw[<- hj.length];simp
  wp_walk using gL hl,gL hb,fN _ (λrest b s'=>b.1=none/\s'=⟨hp,g,d,tk,os⟩/\∃ (vs ws:List mM)(ns' ms':List Int),rest=vs.zip ws /\
   mw vs ns'/\mw ws ms'/\ns'.length+ZX.size=ms'.length+items.size/\R (.ok (.ret (.bool (lexLt ns' ms')))) ⟨hp,g,d,tk,os⟩) _
  case turn =>
   rintro⟨y,x⟩ rest b s' ⟨hb',rfl,vs,ws,ns',ms',hz,hvi,hwi,hlen,hR⟩
   cases hvi with
   | nil=>rw[fi] at hz;cases hz
   | cons a t hvi' =>
    cases hwi with
    | nil=>rw[dO] at hz;cases hz
    | cons c u hwi' =>
     rw[dP] at hz
     injection hz with hyx hrest
     injection hyx with hy hx
     subst hy hx
     rw[zE] at hR
     simp only[gp] at hlen
     let(e,he,hiff):=D5 A.in1 ⟨hp,g,d,tk,os⟩ a t c u
     refine lj (he prog w _ _ ?_)
     cases e with
     | true =>
      rw[if_pos (hiff.mp rfl)] at hR
      wp_walk
      exact⟨rfl,rfl,_,_,_,_,hrest,hvi',hwi',by lia,hR⟩
     | false =>
      rw[if_neg (λq=>absurd (hiff.mpr q) eB)] at hR
      have hri:=C2 A.in1 ⟨hp,g,d,tk,os⟩ a t c u prog w
      wp_walk using hri
      exact⟨_,rfl,by simpa using hR⟩
  case fin =>
   rintro⟨b1,b2⟩ s' ⟨hb',rfl,vs,ws,ns',ms',hz,hvi,hwi,hlen,hR⟩
   simp only at hb'
   subst hb'
   have hv:lexLt ns' ms'=decide (items.size<ZX.size):=by
    cases hvi with
    | nil =>
     cases hwi with
     | nil =>
      simp only[iy] at hlen
      rw[vy]
      exact (decide_eq_false ⋯).symm
     | cons c u hw =>
      simp only[iy,gp] at hlen
      rw[uG]
      exact (decide_eq_true ⋯).symm
    | cons a t hv =>
     cases hwi with
     | nil =>
      simp only[iy,gp] at hlen
      rw[uH]
      exact (decide_eq_false ⋯).symm
     | cons c u hw =>
      rw[dP] at hz
      cases hz
   rw[hv] at hR
   wp_walk
   exact⟨_,rfl,by simpa[ag] using hR⟩
  case h =>
   exact⟨rfl,rfl,items.toList,ZX.toList,ns,ms,rfl,hi,hj,by lia,h⟩
end
section
variable {prog:mm}{w:mL}{A:mK}{E:mM->mD->Prop}{s:mD}
theorem lt_tupInts {l b:m4}{items ZX:Array mM}{ns ms:List Int}{Q:mM->mD->Prop}(hl:mT s.heap l items)(hb:mT s.heap b ZX)(hi:mw items.toList ns)(hj:mw ZX.toList ms)
  (hu:A.units<cLine)(h:Q (.bool (lexLt ns ms)) s):wpAny (model prog w) A (compareOp .Lt (.ref l) (.ref b)) Q E s:=by
 let((cls,dd,data,sl),ho,hc,n,hd):=id hl
 let((cls2,dd2,data2,sl2),ho2,hc2,n2,hd2):=id hb
 simp only at hc hd hc2 hd2
 subst hc hd hc2 hd2
 exact bE (op:=.Lt) ⟨_,ho,rfl⟩ ⟨_,ho2,rfl⟩ bY bI (bq _ _) (vo l b items ZX n n2 dd dd2 sl sl2 ns ms hi hj)
  ⟨ho,ho2,show Value.bool (lexLt ns ms)≠Value.notImplemented/\Q (.bool (lexLt ns ms)) s from ⟨(λx=>nomatch x),h⟩⟩ hu
theorem cat_tup {t b:m4}{vs ws:List mM}{Q:mM->mD->Prop}(ht:mT s.heap t vs.toArray)(hb:mT s.heap b ws.toArray)(hv:vs≠[])
  (h1:ws=[]->Q (.ref t) s)(h2:ws≠[]->Q (.ref s.heap.objs.size) { s with heap:=s.heap.push { cls:=.type "tuple",data:=.seq (vs++ws).toArray } })
  (hsz:vs.length+ws.length<=sizeLine):wpAny (model prog w) A (binaryOp .Add (.ref t) (.ref b)) Q E s:=by
 let((cls,dd,data,sl),ho,hc,n,hd):=id ht
 let((cls2,dd2,data2,sl2),ho2,hc2,n2,hd2):=id hb
 simp only at hc hd hc2 hd2
 subst hc hd hc2 hd2
 have e:vs.toArray++ws.toArray=(vs++ws).toArray:=by simp
 by_cases hw:ws=[]
 ·exact kb ⟨_,ho,rfl⟩ ⟨_,ho2,rfl⟩ fR jy bH bp (aV _ _)
   (tuple_addW1 t b vs.toArray ws.toArray n n2 dd dd2 sl sl2 (by simpa using hv) (by simp[hw])) ⟨ho,ho2,h1 hw⟩
 ·refine kb ⟨_,ho,rfl⟩ ⟨_,ho2,rfl⟩ fR jy bH bp (aV _ _)
   (tuple_addW2 t b vs.toArray ws.toArray n n2 dd dd2 sl sl2 (by simpa using hv) (by simpa using hw) (by rw[fk,fk];exact hsz)) ⟨ho,ho2,?_⟩
  rw[e]
  exact h2 hw
def sIx (n d:Nat):Option Int->Nat
 | none=>d
 | some v=>if v<0 then (v+(n:Int)).toNat else min v.toNat n
theorem Hx (n d:Nat)(hd:d<=n)(o:Option Int):sIx n d o<=n:=by
 cases o with
 | none=>exact hd
 | some v =>
  show (if v<0 then (v+(n:Int)).toNat else min v.toNat n)<=n
  by_cases hv:v<0
  ·rw[if_pos hv];lia
  ·rw[if_neg hv];exact fZ _ _
theorem Bd (v:Int) (n d:Nat):(if v<0 then max (v+(n:Int)) 0 else min v (n:Int))=((sIx n d (some v):Nat):Int):=by
 show (if v<0 then max (v+(n:Int)) 0 else min v (n:Int))=(((if v<0 then (v+(n:Int)).toNat else min v.toNat n):Nat):Int)
 by_cases hv:v<0
 ·simp only[if_pos hv];lia
 ·simp only[if_neg hv];lia
theorem Ad (lo hi:Option Int) (n:Nat):aS lo hi 1 (n:Int)=(((sIx n 0 lo:Nat):Int),((sIx n n hi:Nat):Int)):=by
 have h1:¬ ((1:Int)<0):=by lia
 unfold aS
 simp only[h1,if_false]
 refine Prod.ext ?_ ?_
 ·cases lo with
  | none=>rfl
  | some v=>exact Bd v n 0
 ·cases hi with
  | none=>rfl
  | some v=>exact Bd v n n
theorem zr (i j:Nat):aR (i:Int) (j:Int) 1=j-i:=by
 unfold aR
 have h1:(1:Int) > 0:=by lia
 simp only[h1,if_true,Int.ediv_one]
 split<;>lia
theorem uj {v:mM}{o:Option Int}{Q:Option Int->mD->Prop}(p:mG v o)(h:Q o s):wpAny (model prog w) A (Builtin.Slice.slicePartIndex v) Q E s:=by
 cases p with
 | none=>exact iV h
 | int i t=>exact slicePart_int h
theorem sliceApplied_gen {sl:m4}{vl vu:mM}{lo hi:Option Int}{n:Nat}{Q:Int×Int×Nat->mD->Prop}(hs:s.heap.IsSliceOf sl vl vu .none)(pl:mG vl lo)(pu:mG vu hi)
  (h:Q (((sIx n 0 lo:Nat):Int),1,sIx n n hi-sIx n 0 lo) s):wpAny (model prog w) A (aI (.ref sl) (pure (n:Int))) Q E s:=by
 let(os,hos,hcs,hds):=id hs
 unfold aI Builtin.Slice.sliceFields
 refine lj (lj (kM hos hds (x:=vl) rfl (lj (kM hos hds (x:=vu) rfl (lj (kM hos hds (x:=.none) rfl (k9 ?_)))))))
 refine lj (iV ?_)
 show wpAny _ _ (if ((1:Int) == 0)=true then _ else _) _ _ s
 rw[if_neg (by decide)]
 refine lj (uj pl (lj (uj pu (lj (k9 ?_)))))
 show wpAny _ _ (match aS lo hi 1 (n:Int) with|(lo,hi)=>pure (lo,(1:Int),aR lo hi 1)) _ _ s
 rw[Ad lo hi n]
 show wpAny _ _ (pure (((sIx n 0 lo:Nat):Int),(1:Int),aR ((sIx n 0 lo:Nat):Int) ((sIx n n hi:Nat):Int) 1)) _ _ s
 rw[zr]
 exact k9 h
theorem Dd (xs:Array mM) (i k:Nat):((lK k).filterMap λ(m:Nat)=>xs[((i:Int)+(m:Int)*1).toNat]?).toArray=((xs.toList.drop i).take k).toArray:=by
 have e:(λ(m:Nat)=>xs[((i:Int)+(m:Int)*1).toNat]?)=λm=>xs[i+m]?:=by
  funext m
  have:((i:Int)+(m:Int)*1).toNat=i+m:=by lia
  rw[this]
 rw[e]
 have:=pick_run xs i k
 rw[List.filterMap_map] at this
 have e2:((λx=>xs[x]?) ∘ λx=>i+x)=λm=>xs[i+m]?:=rfl
 rw[e2] at this
 rw[this]
theorem getItem_tuple_cut {t sl:m4}{items:Array mM}{vl vu:mM}{lo hi:Option Int}{Q:mM->mD->Prop}(ht:mT s.heap t items)(hs:s.heap.IsSliceOf sl vl vu .none)(pl:mG vl lo)(pu:mG vu hi)
  (hw:¬ (sIx items.size 0 lo=0/\sIx items.size items.size hi=items.size))
  (h:Q (.ref s.heap.objs.size) { s with heap:=s.heap.push { cls:=.type "tuple",data:=.seq ((items.toList.drop (sIx items.size 0 lo)).take (sIx items.size items.size hi-sIx items.size 0 lo)).toArray } })
  (hsz:items.size<=sizeLine):wpAny (model prog w) A (getItem (.ref t) (.ref sl)) Q E s:=by
 have htake:sizeOk (.seq ((items.toList.drop (sIx items.size 0 lo)).take (sIx items.size items.size hi-sIx items.size 0 lo)).toArray):=by
  show ((items.toList.drop (sIx items.size 0 lo)).take (sIx items.size items.size hi-sIx items.size 0 lo)).toArray.size<=sizeLine
  rw[fk,gk,gn,dw]
  lia
 have hj:sIx items.size items.size hi<=items.size:=Hx _ _ (kT _) hi
 let(os,hos,hcs,hds):=id hs
 have hTs:s.TypeIs (.ref sl) "slice":=⟨os,hos,hcs⟩
 unfold getItem
 try with_reducible refine ju ?_
 first|refine lj (k9 ?_)|skip
 refine lj (eL ht.typeIs (by decide) ?_)
 refine lj (bn (name:=ke "__getitem__") ht.typeIs af
  (fP af ht.typeIs c6 ?_ (dG _ _)))
 show wpAny _ _ (aG (.ref t) >>= _) _ _ s
 refine lj (jx ht ?_)
 refine lj (j7 hTs ?_)
 rw[if_pos (by decide)]
 refine lj (sliceApplied_gen hs pl pu ?_)
 have hno:¬ ((((sIx items.size 0 lo:Nat):Int) == 0 && (1:Int) == 1 && (sIx items.size items.size hi-sIx items.size 0 lo) == items.size)=true):=by
  intro q
  rw[gG,gG] at q
  have q1:((sIx items.size 0 lo:Nat):Int)=0:=eq_of_beq q.1.1
  have q2:sIx items.size items.size hi-sIx items.size 0 lo=items.size:=eq_of_beq q.2
  exact hw ⟨by lia,by lia⟩
 show wpAny _ _ (if (((sIx items.size 0 lo:Nat):Int) == 0 && (1:Int) == 1 && (sIx items.size items.size hi-sIx items.size 0 lo) == items.size)=true then _ else _) _ _ s
 rw[if_neg hno,Dd]
 first
  | exact lj (m:=bg _) (eP (k9 ⟨_,rfl,k9 h⟩) htake)
  | exact lj (m:=bg _) (eP (lj (k9 (k9 ⟨_,rfl,k9 h⟩))) htake)
  | exact lj (lj (m:=bg _) (eP (k9 (k9 ⟨_,rfl,k9 h⟩)) htake))
  | exact lj (lj (m:=bg _) (eP (k9 ⟨_,rfl,k9 h⟩) htake))
end
end HT
namespace L2
open PySem PySem.Spec PyProof.Rows
abbrev TO:=St->Hp->(Option Int->Hp->Prop)->Prop
def PO (X:Cx)(e:Option Expr)(t:TO):Prop :=
 ∀ (Z9:List (m4×Obj))(s:mD)(σ:St)(H:Hp)(Q:Option Int->Hp->Prop),Inv X Z9 σ H s->t σ H Q ->
  wpAny (model X.prog X.w) X.A (evalPart e X.env) (λu s'=>∃ o H',Inv X Z9 σ H' s'/\mG u o/\Q o H') X.xe s
def EH:TO:=λ_ H Q=>Q none H
def KA (t:TE):TO:=λσ H Q=>t σ H λx H1=>∃ i,x=.int i/\Q (some i) H1
theorem intsAre_of {ns:List Int}:∀ {us:List mM},Vals (ns.map V.int) us->mw us ns:=by
 induction ns with
 | nil=>intro us r;rw[kF] at r;cases r;exact .nil
 | cons n ns ih =>
  intro us r
  rw[jS] at r
  cases r with
  | cons r1 r2 =>
   let(t,e):=r1
   subst e
   exact .cons n t (ih r2)
section
variable {X:Cx}{e:Expr}{te:TE}{lo hi:Option Expr}{tl th:TO}{pos p2:Pos}
theorem Aq:PO X none EH:=by
 intro Z9 s σ H Q I h
 rw[jD]
 exact k9 ⟨none,H,I,.none,h⟩
theorem Ap (h:PE X e te):PO X (some e) (KA te):=by
 intro Z9 s σ H Q I hw
 rw[evalPart_some]
 refine nW (h Z9 s σ H _ I hw) λu s1 q1=>?_;let(x,H1,I1,r1,q1):=q1
 let(i,rfl,q):=q1
 let(t,rfl):=r1
 exact⟨some i,H1,I1,.int i t,q⟩
def Kr (X:Cx)(r:V->Option Int->Option Int->Hp->VK->Prop):Prop :=
 ∀ (Z9:List (m4×Obj))(s:mD)(σ:St)(H:Hp)(x:V)(v vl vu:mM)(lo hi:Option Int)(sl:m4)(Q:VK),Inv X Z9 σ H s->RelV x v->s.heap.IsSliceOf sl vl vu .none->mG vl lo->mG vu hi->r x lo hi H Q ->
  ∃ T id,typeLookup (.type T) "__getitem__" = pure (some (.builtin id))/\s.TypeIs v T/\wpAny (model X.prog X.w) X.A (getItem v (.ref sl)) (EP X Z9 σ Q) X.xe s
def tSl (r:V->Option Int->Option Int->Hp->VK->Prop)(te:TE)(tl th:TO):TE:=λσ H Q=>te σ H λx H1=>tl σ H1 λl H2=>th σ H2 λu H3=>r x l u H3 Q
theorem uv {r:V->Option Int->Option Int->Hp->VK->Prop}(hr:Kr X r)(he:PE X e te)(hl:PO X lo tl)(hu:PO X hi th):PE X (.Subscript e (.Slice lo hi none p2) pos) (tSl r te tl th):=by
 intro Z9 s σ H Q I h
 refine lB (nW (he Z9 s σ H _ I h) λv s1 ⟨x,H1,I1,r1,q1⟩=>?_)
 refine wpAny_Slice (nW (hl Z9 s1 σ H1 _ I1 q1) λvl s2 ⟨l,H2,I2,pl,q2⟩=>nW (hu Z9 s2 σ H2 _ I2 q2) λvu s3 ⟨u,H3,I3,pu,q3⟩=>?_)
 rw[jD]
 refine k9 ?_
 have I4:Inv X Z9 σ H3 { s3 with heap:=s3.heap.push { cls:=.type "slice",data:=.fields #[vl,vu,.none] } }:=I3.kept (t':=s3.toks) λb ob q=>bR _ q
 let(T,id,hT,ht,hg):=hr Z9 { s3 with heap:=s3.heap.push { cls:=.type "slice",data:=.fields #[vl,vu,.none] } } σ H3 x v vl vu l u s3.heap.objs.size Q I4 r1 (Heap.IsSliceOf.new ..) pl pu q3
 show wpAny (model X.prog X.w) X.A (subscriptTail e (.Slice lo hi none p2) v (.ref s3.heap.objs.size)) (EP X Z9 σ Q) X.xe { s3 with heap:=s3.heap.push { cls:=.type "slice",data:=.fields #[vl,vu,.none] } }
 exact tail_any (ops:=[.ref s3.heap.objs.size,v]) ht hT hg (by with_unfolding_all rfl)
def yP (xs:List V)(lo hi:Option Int):List V:=(xs.drop (HT.sIx xs.length 0 lo)).take (HT.sIx xs.length xs.length hi-HT.sIx xs.length 0 lo)
theorem tK (xs:List V)(lo hi:Option Int):(yP xs lo hi).length<=xs.length:=by
 unfold yP
 rw[gk,gn]
 lia
inductive rSlT (K:kj)(x:V)(lo:Option Int)(hi:Option Int)(H:Hp)(Q:VK):Prop
 | mk (a:_)(xs:_)(_:x=.ref a)(_:SqT K H a xs)(_:¬ (HT.sIx xs.length 0 lo=0/\HT.sIx xs.length xs.length hi=xs.length))(_:∀ p,H p=none->Q (.ref p) (oj H p (.tup (yP xs lo hi)))):rSlT K x lo hi H Q
theorem Hs:Kr X (rSlT X.K):=by
 intro Z9 s σ H x v vl vu lo hi sl Q I rx hs pl pu h
 let(a,xs,rfl,hx,hw,q):=h
 cases rx
 let(Z7,r,ht,hz):=I.tuple hx
 have hlen:Z7.toArray.size=xs.length:=by rw[fk];exact r.length.symm
 refine⟨"tuple",_,af.lookup,ht.typeIs,?_⟩
 refine HT.getItem_tuple_cut ht hs pl pu (by rw[hlen];exact hw) ?_ (by rw[hlen];exact hz)
 rw[hlen]
 refine⟨.ref s.heap.objs.size,_,I.laid (t':=s.toks) (o:=.tup (yP xs lo hi)) (λb ob q=>bR _ q) (kT _) ?_,rfl,q _ (I.hok.fresh (kT _))⟩
 exact⟨kA (tK xs lo hi) hz,_,(r.drop (HT.sIx xs.length 0 lo)).take (HT.sIx xs.length xs.length hi-HT.sIx xs.length 0 lo),lQ _ _⟩
inductive rLtT (K:kj)(x:V)(y:V)(H:Hp)(Q:VK):Prop
 | mk (a:_)(b:_)(ns:_)(ms:_)(_:x=.ref a)(_:y=.ref b)(_:SqT K H a (ns.map V.int))(_:SqT K H b (ms.map V.int))(_:Q (.bl (HT.lexLt ns ms)) H):rLtT K x y H Q
theorem Ii (hu:X.A.units<cLine):pO X (compareOp .Lt) (rLtT X.K):=by
 intro Z9 s σ H x y v u Q I rx ry h
 let(a,b,ns,ms,rfl,rfl,ha,hb,q):=h
 cases rx
 cases ry
 let(Z7,r1,p1,_):=I.tuple ha
 let(its2,r2,p2,_):=I.tuple hb
 have i1:mw Z7.toArray.toList ns:=intsAre_of r1
 have i2:mw its2.toArray.toList ms:=intsAre_of r2
 exact HT.lt_tupInts p1 p2 i1 i2 hu ⟨.bl (HT.lexLt ns ms),H,I,rfl,q⟩
inductive rCatT (K:kj)(x:V)(y:V)(H:Hp)(Q:VK):Prop
 | mk (a:_)(b:_)(xs:_)(ys:_)(_:x=.ref a)(_:y=.ref b)(_:SqT K H a xs)(_:SqT K H b ys)(_:xs≠[])(_:xs.length+ys.length<=sizeLine)(_:(ys=[]->Q (.ref a) H))(_:(ys≠[]->∀ p,H p=none->Q (.ref p) (oj H p (.tup (xs++ys))))):rCatT K x y H Q
theorem Vals.nil_iff {xs:List V}{us:List mM}(r:Vals xs us):us=[]↔xs=[]:=by
 cases r with
 | nil=>simp
 | cons _ _=>simp
theorem Fm:pO X (binaryOp .Add) (rCatT X.K):=by
 intro Z9 s σ H x y v u Q I rx ry h
 let(a,b,xs,ys,rfl,rfl,ha,hb,hx,hz,q1,q2):=h
 cases rx
 cases ry
 let(Z7,r1,p1,_):=I.tuple ha
 let(its2,r2,p2,_):=I.tuple hb
 refine HT.cat_tup p1 p2 (λz=>hx (r1.nil_iff.mp z)) (λz=>⟨.ref a,H,I,rfl,q1 (r2.nil_iff.mp z)⟩) (λz=>?_) (by rw[<- r1.length,<- r2.length];exact hz)
 refine⟨.ref s.heap.objs.size,_,I.laid (t':=s.toks) (o:=.tup (xs++ys)) (λb ob q=>bR _ q) (kT _) ?_,rfl,q2 (λw=>z (r2.nil_iff.mpr w)) _ (I.hok.fresh (kT _))⟩
 exact⟨by rw[dY];exact hz,_,r1.append r2,lQ _ _⟩
end
end L2
namespace L2
open PySem PySem.Spec PyProof.Rows
def ixN (n:Nat) (i:Int):Option Nat:=if 0<=i then (if i<n then some i.toNat else none) else if -(n:Int)<=i then some (i+n).toNat else none
def atI {α:Type}(xs:List α) (i:Int):Option α:=(ixN xs.length i).bind λj=>xs[j]?
theorem AF {n:Nat}{i:Int}{j:Nat}(h:ixN n i=some j):seqIndex? i n=some j/\j<n/\-(n:Int)<=i/\i<n:=by
 unfold ixN at h
 by_cases h0:0<=i
 ·rw[if_pos h0] at h
  by_cases h1:i<n
  ·rw[if_pos h1] at h
   have e:i.toNat=j:=hW h
   exact⟨by rw[kO h0 h1,e],by lia,by lia,h1⟩
  ·rw[if_neg h1] at h;cases h
 ·rw[if_neg h0] at h
  by_cases h1:-(n:Int)<=i
  ·rw[if_pos h1] at h
   have e:(i+n).toNat=j:=hW h
   exact⟨by rw[j8 ⋯ h1,e],by lia,h1,by lia⟩
  ·rw[if_neg h1] at h;cases h
theorem Bh {α:Type}{xs:List α}{i:Int}{v:α}(h:atI xs i=some v):∃ j,seqIndex? i xs.length=some j/\xs[j]?=some v/\j<xs.length/\-(xs.length:Int)<=i/\i<xs.length:=by
 unfold atI at h
 cases e:ixN xs.length i with
 | none=>rw[e] at h;cases h
 | some j =>
  rw[e] at h
  let(h1,h2,h3,h4):=AF e
  exact⟨j,h1,h,h2,h3,h4⟩
def Bl (b:Expr):Prop:=∀ o i,subscripted b false o i=operate [o,i] (getItem o i)
def Od (X:Cx)(r:R2):Prop :=
 ∀ (value slice:Expr)(Z9:List (m4×Obj))(s:mD)(σ:St)(H:Hp)(x y:V)(v u:mM)(Q:VK),Inv X Z9 σ H s->RelV x v->RelV y u->r x y H Q ->
  subscripted slice false v u=operate [v,u] (getItem v u)->wpAny (model X.prog X.w) X.A (subscriptTail value slice v u) (EP X Z9 σ Q) X.xe s
def MtR (X:Cx)(id:String)(r:V->List V->Hp->VK->Prop):Prop :=
 ∀ (Z9:List (m4×Obj))(s:mD)(σ:St)(H:Hp)(x:V)(xs:List V)(v:mM)(us:List mM)(Q:VK),Inv X Z9 σ H s->RelV x v->Vals xs us->r x xs H Q ->
  wpAny (model X.prog X.w) X.A (call (.builtin id) (v :: us)) (EP X Z9 σ Q) X.xe s
section
variable {X:Cx}{a b:Expr}{ta tb:TE}{pos:Pos}
theorem GV {r:R2}(hr:Od X r)(ha:PE X a ta)(hb:PE X b tb)(hs:Bl b):PE X (.Subscript a b pos) (Hj r ta tb):=by
 intro Z9 s σ H Q I h
 exact lB (JG ha hb I h λv u s2 x y H2 I2 rx ry q=>hr a b Z9 s2 σ H2 x y v u Q I2 rx ry q (hs _ _))
inductive rIxL (K:kj)(x:V)(y:V)(H:Hp)(Q:VK):Prop
 | mk (p:_)(xs:_)(i:_)(v:_)(_:x=.ref p)(_:y=.int i)(_:SqL K H p xs)(_:atI xs i=some v)(_:Q v H):rIxL K x y H Q
inductive rIxT (K:kj)(x:V)(y:V)(H:Hp)(Q:VK):Prop
 | mk (p:_)(xs:_)(i:_)(v:_)(_:x=.ref p)(_:y=.int i)(_:SqT K H p xs)(_:atI xs i=some v)(_:Q v H):rIxT K x y H Q
theorem FN:Od X (rIxL X.K):=by
 intro value slice Z9 s σ H x y v u Q I rx ry h hs
 let(p,xs,i,z,rfl,rfl,hq,he,q):=h
 cases rx
 let(t,rfl):=ry
 let(Z7,r,pl,hz):=I.list hq
 let(j,h1,h2,h3,h4,h5):=Bh he
 let(w,ew,rw'):=r.get h2
 have hl:=r.length
 have hn:=sW
 have fin:EP X Z9 σ Q w s:=⟨z,H,I,rw',q⟩
 by_cases h0:0<=i
 ·have hj:i.toNat=j:=by
   rw[kO h0 h5] at h1
   exact hW h1
  exact item_listR pl.isList h0 ⋯ (by rw[hj];simpa using ew) fin hs
 ·have hj:(i+(Z7.toArray.size:Int)).toNat=j:=by
   rw[j8 ⋯ h4] at h1
   rw[fk,<- hl]
   exact hW h1
  exact bD (x:=w) pl.isList.typeIs eR.lookup
   (wpAny_getItem_list_neg (Q:=λr s'=>r=w/\EP X Z9 σ Q r s') pl.isList ⋯ (by rw[fk]<;>lia) ⋯ (by rw[hj];simpa using ew) ⟨rfl,fin⟩) hs
theorem Iz:Od X (rIxT X.K):=by
 intro value slice Z9 s σ H x y v u Q I rx ry h hs
 let(p,xs,i,z,rfl,rfl,hq,he,q):=h
 cases rx
 let(t,rfl):=ry
 let(Z7,r,pl,hz):=I.tuple hq
 let(j,h1,h2,h3,h4,h5):=Bh he
 let(w,ew,rw'):=r.get h2
 have hl:=r.length
 have hn:=sW
 have fin:EP X Z9 σ Q w s:=⟨z,H,I,rw',q⟩
 exact bD (x:=w) pl.typeIs slot_tuple_getitem.lookup
  (getItem_tuple (j:=j) (Q:=λr s'=>r=w/\EP X Z9 σ Q r s') pl ⋯ ⋯ (by rw[fk,<- hl];exact h1) (by simpa using ew) ⟨rfl,fin⟩) hs
theorem zD (Z7:List mM) (n j:Nat)(u:mM):lH (·.setIfInBounds j u) { cls:=.type "list",data:=.seq Z7.toArray n } = { cls:=.type "list",data:=.seq (Z7.set j u).toArray n }:=by
 simp[lH]
theorem Inv.lst {Z9:List (m4×Obj)}{σ:St}{H:Hp}{s:mD}{p:m4}{xs:List V}(I:Inv X Z9 σ H s)(h:H p=some (.lst xs)) :
  ∃ (Z7:List mM) (n:Nat),Vals xs Z7/\s.heap.get? p=some { cls:=.type "list",data:=.seq Z7.toArray n }/\xs.length<=sizeLine:=by
 let(z,Z7,n,r,e):=I.hok p _ h
 exact⟨Z7,n,r,e,z⟩
theorem Inv.lstUpd {Z9:List (m4×Obj)}{σ:St}{H:Hp}{s:mD}{p:m4}{xs ys:List V}{Z7 its':List mM}{n n':Nat}{f:Obj->Obj}(I:Inv X Z9 σ H s)(h:H p=some (.lst xs))
  (ho:s.heap.get? p=some { cls:=.type "list",data:=.seq Z7.toArray n })(hf:f { cls:=.type "list",data:=.seq Z7.toArray n } = { cls:=.type "list",data:=.seq its'.toArray n' })(r:Vals ys its')(hz:ys.length<=sizeLine) (t:Nat) :
  Inv X Z9 σ (oj H p (.lst ys)) { s with heap:=s.heap.update p f,toks:=t }:=by
 have e:(s.heap.update p f).get? p=some { cls:=.type "list",data:=.seq its'.toArray n' }:=by
  rw[cx f ho (by rw[hf]<;>rfl),hf]
 refine I.write (x:=p) (e:=p) (by rw[h];trivial) (.inl rfl) (λb u hb q=>(bQ _ _ (mq hb)).trans q) ⟨_,e⟩ ?_
 exact⟨hz,its',n',r,e⟩
inductive rSetL (o:V)(i:V)(v:V)(H:Hp)(Q:(Hp->Prop)):Prop
 | mk (p:_)(xs:_)(k:_)(j:_)(_:o=.ref p)(_:i=.int k)(_:H p=some (.lst xs))(_:ixN xs.length k=some j)(_:Q (oj H p (.lst (xs.set j v)))):rSetL o i v H Q
theorem CT:My X rSetL:=by
 intro Z9 s σ H o i v ov iv u Q I ro ri rv h
 let(p,xs,k,j,rfl,rfl,hp,hj,q):=h
 cases ro
 let(t,rfl):=ri
 let(Z7,n,r,ho,hz):=I.lst hp
 let(h1,h2,h3,h4):=AF hj
 have hl:=r.length
 have hn:=sW
 have I':Inv X Z9 σ (oj H p (.lst (xs.set j v))) { s with heap:=s.heap.update p (lH (·.setIfInBounds j u)) } :=
  I.lstUpd hp ho (zD Z7 n j u) (r.set rv j) (by rw[iw];exact hz) s.toks
 by_cases h0:0<=k
 ·have hk:k.toNat=j:=by
   rw[kO h0 h4] at h1
   exact hW h1
  exact PySem.W.ki_setAt ho h0 ⋯ (by rw[fk,<- hl];exact h4) (by rw[hk];exact⟨_,I',q⟩)
 ·have hk:(k+(Z7.toArray.size:Int)).toNat=j:=by
   rw[j8 ⋯ h3] at h1
   rw[fk,<- hl]
   exact hW h1
  exact PySem.W.ki_setBack ho ⋯ (by rw[fk,<- hl];exact h3) ⋯ (by rw[hk];exact⟨_,I',q⟩)
theorem wN (lo hi:Option Int) (n:Nat):(sliceBounds lo hi none n).1=((HT.sIx n 0 lo:Nat):Int)/\(sliceBounds lo hi none n).2.1=((HT.sIx n n hi:Nat):Int)/\(sliceBounds lo hi none n).2.2=1:=by
 refine⟨?_,?_,rfl⟩
 ·cases lo with
  | none=>simp[sliceBounds,HT.sIx]
  | some i =>
   simp only[sliceBounds,HT.sIx,fW,show (1:Int) > 0 by decide,if_true]
   by_cases h:i<0
   ·simp only[h,if_true]<;>lia
   ·simp only[h,if_false]<;>lia
 ·cases hi with
  | none=>simp[sliceBounds,HT.sIx]
  | some i =>
   simp only[sliceBounds,HT.sIx,fW,show (1:Int) > 0 by decide,if_true]
   by_cases h:i<0
   ·simp only[h,if_true]<;>lia
   ·simp only[h,if_false]<;>lia
theorem vt (Z7:List mM)(lo hi:Option Int):slicePick Z7.toArray lo hi none=((Z7.drop (HT.sIx Z7.length 0 lo)).take (HT.sIx Z7.length Z7.length hi-HT.sIx Z7.length 0 lo)).toArray:=by
 let(h1,h2,h3):=wN lo hi Z7.toArray.size
 unfold slicePick
 rw[h1,h2,h3]
 simp only[sliceRange_one,pick_run,fk]<;>rfl
inductive rSlL (K:kj)(x:V)(lo:Option Int)(hi:Option Int)(H:Hp)(Q:VK):Prop
 | mk (a:_)(xs:_)(_:x=.ref a)(_:SqL K H a xs)(_:∀ p,H p=none->Q (.ref p) (oj H p (.lst (yP xs lo hi)))):rSlL K x lo hi H Q
theorem EQ:Kr X (rSlL X.K):=by
 intro Z9 s σ H x v vl vu lo hi sl Q I rx hs pl pu h
 let(a,xs,rfl,hx,q):=h
 cases rx
 let(Z7,r,ht,hz):=I.list hx
 have hlen:=r.length
 refine⟨"list",_,eR.lookup,ht.isList.typeIs,?_⟩
 refine wpAny_getItem_list_slice ht.isList hs pl pu .none (by simp) ?_ (by rw[fk]<;>lia)
 rw[vt,<- hlen]
 refine⟨.ref s.heap.objs.size,_,I.laid (t':=s.toks) (o:=.lst (yP xs lo hi)) (λb ob q=>bR _ q) (kT _) ?_,rfl,q _ (I.hok.fresh (kT _))⟩
 exact⟨kA (tK xs lo hi) hz,_,0,(r.drop (HT.sIx xs.length 0 lo)).take (HT.sIx xs.length xs.length hi-HT.sIx xs.length 0 lo),dj _ rfl⟩
theorem xu:og X (.builtin "len") (λxs H Q=>∃ p ys,xs=[.ref p]/\(SqL X.K H p ys ∨ SqT X.K H p ys)/\Q (.int ys.length) H):=by
 intro Z9 s σ H xs us Q I r h
 let(p,ys,rfl,hq,q):=h
 let(u,rfl,rx):=vals1 r
 cases rx
 have hn:=sW
 rcases hq with hq|hq
 ·let(Z7,r',pl,hz):=I.list hq
  have hlen:=r'.length
  exact Calls.call_len_list pl.isList (by simp only[fk]<;>lia) ⟨.int ys.length,H,I.tok _,⟨s.toks+1,by rw[fk,hlen]⟩,q⟩
 ·let(Z7,r',pl,hz):=I.tuple hq
  have hlen:=r'.length
  exact len_tuple pl (by simp only[fk]<;>lia) ⟨.int ys.length,H,I.tok _,⟨s.toks+1,by rw[fk,hlen]⟩,q⟩
theorem xt:og X (.builtin "len") (λxs H Q=>∃ z,xs=[.str z]/\z.length<=sizeLine/\Q (.int z.length) H):=by
 intro Z9 s σ H xs us Q I r h
 let(z,rfl,hz,q):=h
 let(u,rfl,t,rfl):=vals1 r
 have hn:=sW
 exact len_str ⋯ ⟨.int z.length,H,I.tok _,⟨_,rfl⟩,q⟩
theorem qo:og X (.type "tuple") (λxs H Q=>∃ p ys,xs=[.ref p]/\((SqL X.K H p ys/\∀ l,H l=none->Q (.ref l) (oj H l (.tup ys))) ∨ (SqT X.K H p ys/\Q (.ref p) H))):=by
 intro Z9 s σ H xs us Q I r h
 let(p,ys,rfl,h):=h
 let(u,rfl,rx):=vals1 r
 cases rx
 rcases h with⟨hq,q⟩|⟨hq,q⟩
 ·let(Z7,r',pl,hz):=I.list hq
  have hlen:=r'.length
  refine call_tuple_list pl.isList (λh' kp=>?_) (by simp only[fk]<;>lia)
  have I1:Inv X Z9 σ H { s with heap:=h' }:=I.kept (t':=s.toks) kp
  have I2:Inv X Z9 σ (oj H h'.objs.size (.tup ys)) { s with heap:=h'.push { cls:=.type "tuple",data:=.seq Z7.toArray } } :=
   I1.laid (t':=s.toks) (λb o e=>bR _ e) (kT _) (show ObjOk X.prog X.w _ _ _ (.tup ys) from ⟨hz,Z7,r',lQ _ _⟩)
  exact⟨.ref h'.objs.size,_,I2,rfl,q _ (I1.hok.fresh (kT _))⟩
 ·let(Z7,r',pl,hz):=I.tuple hq
  exact call_tuple_same pl ⟨.ref p,H,I,rfl,q⟩
def Oh (K:kj)(T:String)(x:V)(H:Hp):Prop:=match x with
 | .str _=>T = "str"
 | .int _=>T = "int"
 | .ref p=>(T = "list"/\∃ xs,SqL K H p xs) ∨ (T = "tuple"/\∃ o,K.lookup p=some o/\o.cls=.type "tuple"/\o.dict=none) ∨
   (T = "dict"/\((∃ Z6,H p=some (.dK Z6)) ∨ ∃ Z6,H p=some (.dT Z6))) ∨ (T = "set"/\∃ S n,H p=some (.set S n))
 | _=>False
theorem Cw {Z9:List (m4×Obj)}{σ:St}{H:Hp}{s:mD}{T:String}{x:V}{v:mM}(I:Inv X Z9 σ H s)(r:RelV x v)(ty:Oh X.K T x H) :
  s.TypeIs v T/\∀ a,v=.ref a->∃ ob,s.heap.get? a=some ob/\ob.dict=none:=by
 cases x with
 | str z =>
  let(t,rfl):=r
  cases (show T = "str" from ty)
  exact⟨typeIs_str s z t,λ_ e=>nomatch e⟩
 | int i =>
  let(t,rfl):=r
  cases (show T = "int" from ty)
  exact⟨lq s i t,λ_ e=>nomatch e⟩
 | ref p =>
  cases r
  rcases ty with⟨rfl,xs,hq⟩|⟨rfl,o,hk,hc,hd⟩|⟨rfl,hk⟩|⟨rfl,S,n,hk⟩
  ·let(Z7,_,pl,_):=I.list hq
   refine⟨pl.isList.typeIs,λa e=>?_⟩
   cases e
   let(o,n,e,c,hd,_):=pl
   exact⟨o,e,hd⟩
  ·refine⟨⟨o,I.kIn p o hk,hc⟩,λa e=>?_⟩
   cases e
   exact⟨o,I.kIn _ o hk,hd⟩
  ·have z:∃ o,s.heap.get? p=some o/\o.ExactDict:=by
    rcases hk with⟨Z6,hk⟩|⟨Z6,hk⟩
    ·let(_,_,_,_,o,_,_,e,ex,_):=I.hok p _ hk
     exact⟨o,e,ex⟩
    ·let(_,_,_,_,o,_,_,e,ex,_):=I.hok p _ hk
     exact⟨o,e,ex⟩
   let(o,e,ex):=z
   refine⟨⟨o,e,ex.1⟩,λa e2=>?_⟩
   cases e2
   exact⟨o,e,ex.2.1⟩
  ·let(o,_,_,_,e,ex,_):=I.hok p _ hk
   refine⟨⟨o,e,ex.1⟩,λa e2=>?_⟩
   cases e2
   exact⟨o,e,ex.2.1⟩
 | _=>exact lM ty
def Ow (K:kj)(T:String)(r:V->List V->Hp->VK->Prop)(to:TE):TE:=λσ H Q=>to σ H λx H1=>Oh K T x H1/\r x [] H1 Q
def tBM (K:kj)(T:String)(r:V->List V->Hp->VK->Prop)(to:TE)(t:TA):TE:=λσ H Q=>to σ H λx H1=>Oh K T x H1/\t σ H1 λxs H2=>r x xs H2 Q
variable {o e:Expr}{es:List Expr}{to:TE}{t:TA}{name:Str}{ZZ Z0:Pos}{T id:String}{r:V->List V->Hp->VK->Prop}
theorem Ia (pa:PlainAttrs T)(slot:Slot T name id)(hty:typeOf (.builtin id)=pure (.type "method_descriptor"))(hm:MtR X id r)(ho:PE X o to)
  (hbase:attributeBase o name X.env (eval o X.env)=eval o X.env:=by rfl)(hline:(ZZ.endLine == Z0.line)=true:=by rfl):PE X (.Call (.Attribute o name ZZ) [] [] Z0) (Ow X.K T r to):=by
 intro Z9 s σ H Q I h
 refine wpAny_Call_method0_late hbase hline (nW (ho Z9 s σ H _ I h) λv s1 ⟨x,H1,I1,r1,ty,q1⟩=>?_)
 let(h1,h2):=Cw I1 r1 ty
 exact⟨T,id,pa,slot,hty,h1,h2,bT rfl (PySem.evalArgs_none (hm Z9 s1 σ H1 x [] v [] Q I1 r1 .nil q1))⟩
theorem Ld (pa:PlainAttrs T)(slot:Slot T name id)(hty:typeOf (.builtin id)=pure (.type "method_descriptor"))(hm:MtR X id r)(ho:PE X o to)(ha:PA X (e :: es) t)
  (hbase:attributeBase o name X.env (eval o X.env)=eval o X.env:=by rfl)
  (hfew:((backTo Z0 (starEach (e :: es) X.env)).all (λx=>!x.1) && (backToKw Z0 (keywordEach [] X.env)).all (λx=>x.1.isSome)
   && decide ((e :: es).length+([]:List mv).length+(if ([]:List mv).isEmpty then 0 else 1)<30))=true:=by rfl)
  (hline:(ZZ.endLine == Z0.line)=true:=by rfl)(hs:starEach (e :: es) X.env=(false,eval e X.env) :: starEach es X.env:=by rfl)(hplain:(backTo Z0 (starEach es X.env)).any (·.1)=false:=by rfl) :
  PE X (.Call (.Attribute o name ZZ) (e :: es) [] Z0) (tBM X.K T r to t):=by
 intro Z9 s σ H Q I h
 refine wpAny_Call_method_late hbase hfew hline rfl (nW (ho Z9 s σ H _ I h) λv s1 ⟨x,H1,I1,r1,ty,q1⟩=>?_)
 let(h1,h2):=Cw I1 r1 ty
 refine⟨T,id,pa,slot,hty,h1,h2,?_⟩
 have hA:=ha Z0 Z9 s1 σ H1 _ I1 q1
 rw[hs] at hA ⊢
 refine bT (by show (false || (backTo Z0 (starEach es X.env)).any (·.1))=false;rw[hplain]<;>rfl) (cT ?_)
 refine nW hA λus s2 q2=>?_;let(vs,H2,I2,r2,q2):=q2;exact hm Z9 s2 σ H2 x vs v us Q I2 r1 r2 q2
end
end L2
namespace L2
open PySem PySem.Spec PyProof.Rows
def MtM (X:Cx)(id:String)(r:V->List V->Hp->VK->Prop):Prop :=
 ∀ (Z9:List (m4×Obj))(s:mD)(σ:St)(H:Hp)(x:V)(xs:List V)(v:mM)(us:List mM)(Q:VK),Inv X Z9 σ H s->RelV x v->Vals xs us->r x xs H Q ->
  wpAny (model X.prog X.w) X.A (call (.builtin id) (v :: us)) (EP X Z9 σ Q) X.xe s
theorem Vals.one:∀ {x:V}{us:List mM},Vals [x] us->∃ u,us=[u]/\RelV x u:=λh=>by
 let(u,r,rfl,h1,h2):=h.unc
 exact⟨u,by rw[h2.unn],h1⟩
theorem Vals.zero:∀ {us:List mM},Vals [] us->us=[]:=λh=>h.unn
theorem Vals.reverse {xs:List V}{us:List mM}(h:Vals xs us):Vals xs.reverse us.reverse:=by
 induction h with
 | nil=>exact .nil
 | cons r t ih=>rw[fm,fm];exact Vals.append ih (.cons r .nil)
theorem Vals.rep {xs:List V}{us:List mM}(h:Vals xs us):∀ k:Nat,Vals (jf k xs).flatten (jf k us).flatten
 | 0=>.nil
 | k+1=>by
  rw[da,da,fy,fy]
  exact Vals.append h (Vals.rep h k)
theorem foldl_rep (Z7:List mM):∀ (k:Nat)(Z8:List mM),
  lL (λx1 x2=>x1++x2) Z8.toArray (jf k Z7.toArray)=(Z8++(jf k Z7).flatten).toArray
 | 0,Z8=>by simp
 | k+1,Z8=>by
  have e:Z8.toArray++Z7.toArray=(Z8++Z7).toArray:=by simp
  have e2:(Z8++Z7)++(jf k Z7).flatten=Z8++(jf (k+1) Z7).flatten:=by
   rw[da,fy,fB]
  rw[<- e2,<- foldl_rep Z7 k (Z8++Z7),<- e,da,iB]
section
variable {X:Cx}{Z9:List (m4×Obj)}{σ:St}{H:Hp}{s:mD}{l:m4}{xs ys:List V}
theorem Inv.lset {Z7 its':List mM}{n:Nat}{f:Array mM->Array mM}{t':Nat}(I:Inv X Z9 σ H s)(hH:H l=some (.lst xs))
  (e:s.heap.get? l=some { cls:=.type "list",data:=.seq Z7.toArray n })(hf:f Z7.toArray=its'.toArray)(hv:Vals ys its')(hz:ys.length<=sizeLine) :
  Inv X Z9 σ (oj H l (.lst ys)) { s with heap:=s.heap.update l (lH f),toks:=t' }:=by
 have q:=PySem.IsL.update e f
 rw[hf] at q
 refine I.write (x:=l) (e:=l) (by rw[hH];exact trivial) (.inl rfl) (λb' u hb hu=>(bQ s.heap (lH f) (mq hb)).trans hu) ⟨_,q⟩ ?_
 exact⟨hz,its',_,hv,q⟩
theorem Inv.lnew {Z7:List mM}{t':Nat}(I:Inv X Z9 σ H s)(hv:Vals ys Z7)(hz:ys.length<=sizeLine) :
  Inv X Z9 σ (oj H s.heap.objs.size (.lst ys)) { s with heap:=s.heap.push { cls:=.type "list",data:=.seq Z7.toArray },toks:=t' } :=
 I.laid (λ_ _ q=>bR _ q) (kT _) ⟨hz,Z7,0,hv,dj _ rfl⟩
theorem Inv.fresh (I:Inv X Z9 σ H s):H s.heap.objs.size=none:=I.hok.fresh (kT _)
theorem Inv.lstM (I:Inv X Z9 σ H s)(hH:H l=some (.lst xs)):xs.length<=sizeLine/\∃ (Z7:List mM) (n:Nat),Vals xs Z7/\xs.length=Z7.length/\s.heap.get? l=some { cls:=.type "list",data:=.seq Z7.toArray n }:=by
 let(z,Z7,n,r,e):=I.hok l _ hH
 exact⟨z,Z7,n,r,r.length,e⟩
theorem Dv {n:Nat}(h:n<=sizeLine):bh n=false:=by
 unfold bh
 exact decide_eq_false ⋯
end
section
variable {X:Cx}
inductive rAppend (x:V)(vs:List V)(H:Hp)(Q:VK):Prop
 | mk (l:_)(xs:_)(y:_)(_:x=.ref l)(_:vs=[y])(_:H l=some (.lst xs))(_:xs.length<sizeLine)(_:Q .non (oj H l (.lst (xs++[y])))):rAppend x vs H Q
theorem vO:MtM X "list.append" rAppend:=by
 intro Z9 s σ H x vs v us Q I rx rv h
 let(l,xs,y,rfl,rfl,hH,hz,q):=h
 cases rx
 let(u,rfl,ru):=rv.one
 let(z,Z7,n,r,hl,e):=I.lstM hH
 refine lw F.slot_list_append ⟨_,e,rfl⟩ F.entry_list_append (F.args_list_append_2 _ _) (PySem.list_append l Z7.toArray n u (by rw[fk];lia)) ⟨e,?_⟩
 refine⟨.non,_,I.lset (its':=Z7++[u]) hH e (by simp) (r.append (.cons ru .nil)) ?_,rfl,q⟩
 rw[dY,List.length_singleton]
 lia
inductive rReverse (x:V)(vs:List V)(H:Hp)(Q:VK):Prop
 | mk (l:_)(xs:_)(_:x=.ref l)(_:vs=[])(_:H l=some (.lst xs))(_:Q .non (oj H l (.lst xs.reverse))):rReverse x vs H Q
theorem zA:MtM X "list.reverse" rReverse:=by
 intro Z9 s σ H x vs v us Q I rx rv h
 let(l,xs,rfl,rfl,hH,q):=h
 cases rx
 have hus:=rv.zero
 subst hus
 let(z,Z7,n,r,hl,e):=I.lstM hH
 refine lw F.slot_list_reverse ⟨_,e,rfl⟩ F.entry_list_reverse (F.args_list_reverse_1 _) (AutoSeq1.list_reverse_list_0 l Z7.toArray n (by rw[fk];lia)) ⟨e,?_⟩
 refine⟨.non,_,I.lset (its':=Z7.reverse) hH e (by simp) r.reverse ?_,rfl,q⟩
 rw[dc]
 lia
inductive rCat (x:V)(y:V)(H:Hp)(Q:VK):Prop
 | mk (l:_)(b:_)(xs:_)(zs:_)(_:x=.ref l)(_:y=.ref b)(_:H l=some (.lst xs))(_:H b=some (.lst zs))(_:xs.length+zs.length<=sizeLine)(_:∀ p,H p=none->Q (.ref p) (oj H p (.lst (xs++zs)))):rCat x y H Q
theorem Ik:pO X (binaryOp .Add) rCat:=by
 intro Z9 s σ H x y v u Q I rx ry h
 let(l,b,xs,zs,rfl,rfl,hH,hB,hz,q):=h
 cases rx
 cases ry
 let(z,Z7,n,r,hl,e):=I.lstM hH
 let(z2,its2,n2,r2,hl2,e2):=I.lstM hB
 refine PySem.P.add_list e e2 ?_ (by rw[fk,fk];lia)
 have ea:Z7.toArray++its2.toArray=(Z7++its2).toArray:=by simp
 rw[ea]
 exact⟨.ref _,_,I.lnew (t':=s.toks) (r.append r2) (by rw[dY];lia),rfl,q _ I.fresh⟩
inductive rRep (x:V)(y:V)(H:Hp)(Q:VK):Prop
 | mk (l:_)(k:_)(xs:_)(_:x=.ref l)(_:y=.int k)(_:H l=some (.lst xs))(_:-(2 ^ 63)<=k)(_:k<2 ^ 63)(_:xs.length*k.toNat<=sizeLine)(_:∀ p,H p=none->Q (.ref p) (oj H p (.lst (jf k.toNat xs).flatten))):rRep x y H Q
theorem FJ {α:Type}(xs:List α) (k:Nat):(jf k xs).flatten.length=k*xs.length:=by
 induction k with
 | zero=>simp
 | succ k ih=>rw[da,fy,dY,ih,Nat.succ_mul,Nat.add_comm]
theorem Ic:pO X (binaryOp .Mult) rRep:=by
 intro Z9 s σ H x y v u Q I rx ry h
 let(l,k,xs,rfl,rfl,hH,h1,h2,hz,q):=h
 cases rx
 let(t,rfl):=ry
 let(z,Z7,n,r,hl,e):=I.lstM hH
 have hlen:Z7.toArray.size*k.toNat<=sizeLine:=by rw[fk,<- hl];exact hz
 have hcap:¬ Z7.toArray.size*k.toNat > (2 ^ 63-1) / 8:=by
  have:(sizeLine:Nat)<=(2 ^ 63-1) / 8:=by decide
  lia
 have hfit:¬ (!Builtin.List.listFitsIndex k)=true:=by
  rw[fitsIndex_both h1 h2]
  exact eB
 have hlong:¬ bh (Z7.toArray.size*k.toNat)=true:=by
  rw[Dv hlen]
  exact eB
 have hnew:lL (λx1 x2=>x1++x2) #[] (jf (if Z7.toArray.isEmpty=true then 0 else k.toNat) Z7.toArray)=(jf k.toNat Z7).flatten.toArray:=by
  have f0:∀ m:Nat,lL (λx1 x2=>x1++x2) #[] (jf m Z7.toArray)=(jf m Z7).flatten.toArray:=λm=>by
   have:=foldl_rep Z7 m []
   rw[il] at this
   exact this
  rw[f0]
  cases Z7 with
  | nil=>simp
  | cons a r'=>rw[if_neg (by simp)]
 refine wpAny_binaryOp_repeat_ref (T:="list") (U:="int") (by decide) ⟨_,e,rfl⟩ (λs'=>lq s' k t) noFill_list_mul F.fills_int_mul iJ repeat_list F.slot_int_index.lookup
  (lw iJ (lq s k t) F.entry_int_rmul (F.args_int_rmul_2 _ _) (int___rmul___int_list k t l Z7.toArray n)
   ⟨e,rfl,⟨_,e,rfl⟩,lw F.slot_list_mul ⟨_,e,rfl⟩ F.entry_list_mul (F.args_list_mul_2 _ _) (AutoListH.list___mul___list_int_3 l Z7.toArray n k t hfit hcap hlong) ⟨e,?_⟩⟩)
 rw[hnew]
 exact⟨.ref _,_,I.lnew (t':=s.toks) (r.rep k.toNat) (by rw[FJ,Nat.mul_comm];exact hz),rfl,q _ I.fresh⟩
end
end L2
namespace Att
open PySem PySem.W PySem.Calls PyProof.Rows
theorem tR {P:Params}{h:mY}:∀ (ns:List Int)(vs:List mM),WellAll P h vs (ns.map WData.int)->mw vs ns:=by
 intro ns
 induction ns with
 | nil =>
  intro vs w
  rw[kF] at w
  cases w
  exact .nil
 | cons n ns ih =>
  intro vs w
  rw[jS] at w
  cases w with
  | cons a b =>
   cases a
   exact .cons _ _ (ih _ b)
theorem Bz {l:mn}{n:Nat}(hn:l.most=some n){P:Params}{h:mY}{args:List WData}{vals:List mM}
  (ZW:l.row.toRowW.claim.pre args=true)(hwl:WellAll P h vals args) :
  ∃ a vs ns,vals=[Value.ref a]/\args=[WData.list (ns.map WData.int)]/\h.get? a=some { cls:=.type "list",data:=.seq vs.toArray }/\mw vs ns/\ns.length<=n:=by
 have hsh:WShape.hasAll [] args [.list .int]=true:=(pre_splitW ZW).1
 have hc:l.pre.holds [] { args:=args } = true:=(pre_splitW ZW).2
 let(d,r,rfl,h1,h2):=hasAllW_cons hsh
 obtain rfl:=hasAllW_nil h2
 let(xs,rfl,h3):=hasW_list h1
 let(ns,rfl):=items_int h3
 have hlen:ns.length<=n:=by
  unfold OpenLaw.pre at hc
  have h4:(WTm.not (.lt (.lit (.int (n:Int))) (.len (.arg 0)))).holds [] { args:=[.list (ns.map .int)] } = true:=by
   have h4:=(holds_andW hc).1
   rw[hn] at h4
   exact h4
  have h5:=condW_of h4 (w_not (w_lt w_lit (w_len_list (w_arg rfl))))
  rw[iz] at h5
  refine ga λq=>?_
  have q':(n:Int)<((ns.length:Nat):Int):=by lia
  first
   | (rw[decide_eq_true q'] at h5;exact absurd h5 (by decide))
   | (simp at h5;lia)
 cases hwl with
 | cons w1 w2 =>
  cases w2
  cases w1 with
  | list ho hall=>exact⟨_,_,ns,rfl,rfl,ho,tR ns _ hall,hlen⟩
theorem BF (l:mn)(args:List WData):l.row.toRowW.claim.post args (.bool true) args=true :=
 postW_of (r:=l.row.toRowW) (X:=(true == true))
  (show WShape.has [] (.bool true) .bool=true by first|rfl|decide|simp[WShape.has,WShape.arms,WShape.armsAll])
  (show (WTm.eq .res (.lit (.bool true))).value [] { args:=args,res:=some (.bool true),after:=args } = some (.bool (true == true)) from w_eq_bool (w_res rfl) w_lit) rfl
theorem attach_call {l:mn}{n:Nat}{q:mm}{loose:List Str}{XP:(Str->Option mM)->mY->Prop}{YP:mL->mY->Prop}{d:mJ}
  (hn:l.most=some n)(hdf:d.params.defaults=[])
  (call:∀ (w:mL)(s₀ s₁:mD)(mg mb:Str->Option mM)(fa:m4)(o:Obj)(pm cd doc:mM)(a:m4)(vs:List mM)(ns:List Int),
   Ground q loose [] XP w s₀ mg mb s₁.heap->YP w s₁.heap ->
   s₁.heap.get? fa=some o->o.data=.func (docDef d.name d.params d.body d.scope pm cd doc)->s₁.heap.CodeRec cd d.name->mg d.name=some (.ref fa) ->
   s₁.heap.get? a=some { cls:=.type "list",data:=.seq vs.toArray }->mw vs ns->ns.length<=n->s₁.gens = #[] ->
   codeAny (model l.prog w) callerA (.call (.ref fa) ⟨[.ref a],[]⟩) (λr s'=>r=.ok (.ret (.bool true))/\OldK s₁.heap s'.heap/\s'.os=s₁.os/\mB s'.gens) s₁) :
  WalkO q loose XP YP l.row.toRowW d [] (λf vs=>lE f vs):=by
 intro w s₀ s₁ mg mb G Y fa o pm cd doc dV kV ho hd hcd hD hmg hg args vals as ZW hlay hrd hwl hlo
 obtain rfl:dV=.none:=Dflts.none hD hdf
 obtain rfl:kV=.none:=Dflts.noKw hD
 let(a,vs,ns,rfl,rfl,hobj,hints,hlen):=Bz hn ZW hwl
 refine enter_call (kc (call w s₀ s₁ mg mb fa o pm cd doc a vs ns G Y ho (fd_plain hd) hcd hmg hobj hints hlen hg) λr s' hq=>?_)
 let(rfl,h2,h3,h4):=hq
 exact⟨.inl ⟨.bool true,.bool true,[],rfl,λ_=>rfl,.bool true,BF l _,λ_=>⟨List.Pairwise.nil,λ_ hm=>(nomatch hm)⟩⟩,h2,h3,h4⟩
end Att
namespace L2
open PySem PySem.Spec PyProof.Rows
theorem Br:∀ {vs:List mM}{ns:List Int},mw vs ns->Vals (ns.map V.int) vs:=λh=>by
 induction h with
 | nil=>exact .nil
 | cons n t _ ih=>exact .cons ⟨t,rfl⟩ ih
def GM (H:Hp):Prop:=∀ b,H b=none ∨ ∃ o xs,H b=some (.frz o (.lst xs))
theorem DN {P:mm}{w:mL}{K:kj}{mg mb:Str->Option mM}{CX:GN}{k:Nat}{fa a:m4}{fd:mh}{x:Str}{sp:Sp}{s₁:mD}{vs:List mM}{ns:List Int}
  (KX:K.In s₁.heap)(hns:s₁.heap.Ns mainGlobals mg)(hb:s₁.heap.Ns builtinsNs mb)(hbb:∀ x:Str,x≠"__name__"->mb x=bootBuiltins x)(hlim:s₁.heap.NoLimit)(hg:s₁.gens = #[])
  (ha:s₁.heap.get? a=some { cls:=.type "list",data:=.seq vs.toArray })(hi:mw vs ns)(hl:ns.length<=sizeLine)(hr:Room k callerA)
  (F:∀ base:mY,K.In base->base.Ns mainGlobals mg->FnOk P w K mg base CX k fa fd [x] sp)(hbind:∀ (s:mD)(u:mM),mz s fd ⟨[u],[]⟩ [(x,u)])
  (hsp:∀ H:Hp,GM H->SqL K H a (ns.map V.int)->sp [.ref a] H (λv _=>v=.bl true) λ_ _ _=>False)
  (hCX:∀ H e s',CX [] H s₁ (λ_ _ _=>False) e s'->False) :
  codeAny (model P w) callerA (.call (.ref fa) ⟨[.ref a],[]⟩) (λr s'=>r=.ok (.ret (.bool true))/\OldK s₁.heap s'.heap/\s'.os=s₁.os/\mB s'.gens) s₁:=by
 have rv:=Br hi
 have lenV:=hi.length
 -- from an abstract heap in which nothing but the script may be tracked
 have core:∀ H:Hp,GM H->SqL K H a (ns.map V.int)->HOk P w H s₁.heap->(∀ b,H b≠none->b=a)->(H a≠none->K.lookup a=none) ->
   codeAny (model P w) callerA (.call (.ref fa) ⟨[.ref a],[]⟩) (λr s'=>r=.ok (.ret (.bool true))/\OldK s₁.heap s'.heap/\s'.os=s₁.os/\mB s'.gens) s₁:=by
  intro H hO hS hok hA hK
  have base_of:∀ {b:m4}{o:Obj},s₁.heap.get? b=some o->H b=none->(xf s₁.heap H).get? b=some o:=λe n=>DW e n
  have noA:∀ {b:m4}{o:Obj}{es:Array DictEntry}{ep:Nat},s₁.heap.get? b=some o->o.data=.dict es ep->H b=none:=λ{b o es ep} e d=>by
   cases q:H b with
   | none=>rfl
   | some u =>
    have e':b=a:=hA b (by rw[q];simp)
    subst e'
    rw[ha] at e;cases e
    have d':Data.seq vs.toArray _=Data.dict es ep:=d
    cases d'
  have nsK:∀ {b:m4}{m:Str->Option mM},s₁.heap.Ns b m->(xf s₁.heap H).Ns b m:=λ{b m} q1=>by let(o,es,ep,e,d,r):=q1;exact⟨o,es,ep,base_of e (noA e d),d,r⟩
  have hKb:K.In (xf s₁.heap H):=λb o e=>base_of (KX b o e) (by
   cases q:H b with
   | none=>rfl
   | some u =>
    have e':b=a:=hA b (by rw[q];simp)
    subst e'
    rw[hK (by rw[q];simp)] at e;cases e)
  have hM:Mod K mg (xf s₁.heap H):=⟨hKb,nsK hns,⟨mb,nsK hb,hbb⟩,let ⟨mc,h1,h2⟩:=hlim;⟨mc,nsK h1,h2⟩⟩
  have e0:Env0 P w K mg (xf s₁.heap H) callerA [] s₁ H:=⟨rfl,hM,λb o e=>Fp e,kC (B0 _ _),trivial,λb hb=>absurd (show b∈([]:List m4) from hb) (by simp),hok,.of_eq hg⟩
  refine kc ((F _ hKb (nsK hns)).run callerA [] s₁ H ⟨[.ref a],[]⟩ [.ref a] [.ref a] _ _ hr e0 (hbind s₁ (.ref a)) (.cons rfl .nil) (hsp H hO hS)) λr s' h=>?_
  cases r with
  | error e=>exact (hCX H e s' h).elim
  | ok fl =>
   cases fl with
   | next=>exact lM h
   | brk=>exact lM h
   | cont=>exact lM h
   | ret u =>
    let(v,H',os,bare,un,hok',r',q):=h
    have q':v=.bl true:=q
    subst q'
    obtain rfl:u=Value.bool true:=r'
    refine⟨rfl,OldK.of_keep λb o e=>?_,os,bare⟩
    cases q:H b with
    | none=>exact un.keep b o e q (by intro z;exact absurd (show b∈([]:List m4) from z) (by simp)) (by simp)
    | some u =>
     rcases hO b with z|⟨ob,xs,z⟩
     ·rw[q] at z;cases z
     ·have z2:=un.frzs b ob _ z
      let(e1,_):=hok b _ z
      let(e2,_):=hok' b _ z2
      rw[e] at e1;cases e1
      exact e2
 cases hk:K.lookup a with
 | some o =>
  -- the script is one of the module's own objects
  have e:=KX a o hk
  rw[ha] at e
  cases e
  refine core (λ_=>none) (λ_=>.inl rfl) (.inr ⟨_,vs.toArray,_,hk,rfl,rfl,rfl,by rw[fk,lenV];exact hl,by simpa using rv⟩) (λb u z=>by have z':(none:Option HO)=some u:=z;cases z') (λb z=>absurd rfl z) λz=>absurd rfl z
 | none =>
  refine core (λb=>if b=a then some (.frz { cls:=.type "list",data:=.seq vs.toArray } (.lst (ns.map V.int))) else none) (λb=>?_) (.inl (.inr ⟨{ cls:=.type "list",data:=.seq vs.toArray },if_pos rfl⟩)) (λb u z=>?_) (λb z=>?_) λ_=>hk
  ·by_cases hb:b=a
   ·exact .inr ⟨_,_,if_pos hb⟩
   ·exact .inl (if_neg hb)
  ·by_cases hb:b=a
   ·have z':=(if_pos hb).symm.trans z
    cases z'
    subst hb
    exact⟨ha,by rw[iz];exact hl,vs,_,rv,ha⟩
   ·have z':=(if_neg hb).symm.trans z
    cases z'
  ·by_cases hb:b=a
   ·exact hb
   ·exact absurd (if_neg hb) z
end L2
namespace L2
open PySem PySem.Spec PyProof.Rows
def rE (s:mX):Arguments:=match s with
 | .FunctionDef _ a _ _ _ _ _ _ _ _=>a
 | _=>{ posonlyargs:=[],args:=[],vararg:=none,kwonlyargs:=[],kw_defaults:=[],kwarg:=none,defaults:=[] }
def oT (s:mX):List mX:=match s with
 | .FunctionDef _ _ b _ _ _ _ _ _ _=>b
 | _=>[]
def nV (s:mX):mN:=match s with
 | .FunctionDef _ _ _ _ _ _ sc _ _ _=>sc
 | _=>{ kind:=.function,names:=[],isGenerator:=false,isCoroutine:=false }
abbrev Ew:GN:=λ_ _ _ _ _ _=>False
abbrev E0:XK:=λ_ _ _=>False
theorem Lg {X:Cx}:Ag Ew X E0:=λ_ _ _ _ _ _ _ h=>h.elim
structure Fun (K:kj)(x qual:Str)(st:mX)(f:m4)(fd:mh):Prop where
 ex:∃ (oc:mM)(od:Option m4)(kV doc pm:mM)(an:Option m4)(cdv ct:mM)(osl:Array (Option mM)),
  fd=ki x qual (rE st) (oT st) (nV st) .none kV doc pm an cdv ct/\K.lookup f=some ⟨oc,od,.func fd,osl⟩/\jd K cdv qual=true
 kp:ja K (.ref f)=true
section
variable {P:mm}{w:mL}{K:kj}{mg:Str->Option mM}{base:mY}
theorem Fun.ok {x qual:Str}{st:mX}{f:m4}{fd:mh}{N ps:List Str}{k:Nat}{sp:Sp}(F:Fun K x qual st f fd)(S:FnScope N ps (nV st))(len:∀ vs H Q E,sp vs H Q E->vs.length=ps.length)
  (ZU:∀ (cdv:mM)(A:mK)(outer:List Env)(s:mD)(H:Hp)(vs:List V)(Q:VK)(E:XK),RoomS k (A.deeper (envOfC qual (nV st) s.heap.objs.size f cdv))->sp vs H Q E ->
   ∃ t,PSs (zY Ew P w K mg base N qual (nV st) f cdv A outer s H E).nox (oT st) t/\t { nx:=λ_ H'=>Q .non H',rt:=Q } (start N vs) H):FnOk P w K mg base Ew (k+1) f fd ps sp:=by
 let(oc,od,kV,doc,pm,an,cdv,ct,osl,rfl,lk,hcd):=F.ex
 refine LV lk hcd S len λA outer s H vs Q E hr hsp=>?_
 let(t,h,q):=ZU cdv A outer s H vs Q E hr hsp
 exact⟨t,h.nox,q⟩
theorem Fun.binds {x qual:Str}{st:mX}{f:m4}{fd:mh}{ps:List Str}(F:Fun K x qual st f fd)
  (h:∀ (kV doc pm:mM)(an:Option m4)(cdv ct:mM)(us:List mM),us.length=ps.length->bindArgs (ki x qual (rE st) (oT st) (nV st) .none kV doc pm an cdv ct) ⟨us,[]⟩=pure (ps.zip us)):Binds K fd ps []:=by
 let(oc,od,kV,doc,pm,an,cdv,ct,osl,rfl,lk,hcd):=F.ex
 exact .all (h kV doc pm an cdv ct)
theorem IH {x qual:Str}{st:mX}{f:m4}{oc:mM}{od an:Option m4}{osl:Array (Option mM)}{kV doc pm cdv ct:mM}(l:K.lookup f=some ⟨oc,od,.func (ki x qual (rE st) (oT st) (nV st) .none kV doc pm an cdv ct),osl⟩)
  (c:jd K cdv qual=true)(k:ja K (.ref f)=true):Fun K x qual st f (ki x qual (rE st) (oT st) (nV st) .none kV doc pm an cdv ct):=⟨⟨oc,od,kV,doc,pm,an,cdv,ct,osl,rfl,l,c⟩,k⟩
end
def Same (H H':Hp):Prop:=∀ b o,H b=some o->H' b=some o
theorem Same.refl (H:Hp):Same H H:=λ_ _ h=>h
theorem Same.trans {H H1 H2:Hp}(a:Same H H1)(b:Same H1 H2):Same H H2:=λc o h=>b c o (a c o h)
end L2
namespace L2
open PySem PySem.Spec PyProof.Rows
section
variable {κ:Type}[DecidableEq κ]
def rH (Z6:List (κ×V))(k:κ):Option V:=(Z6.find? λkv=>decide (kv.1=k)).map (·.2)
def qd (Z6:List (κ×V))(k:κ)(v:V):List (κ×V) :=
 if (Z6.any λkv=>decide (kv.1=k))=true then Z6.map (λkv=>if kv.1=k then (kv.1,v) else kv) else Z6++[(k,v)]
theorem qP {p:κ×V}{r:List (κ×V)}{k:κ}(e:p.1=k):rH (p :: r) k=some p.2:=by simp[rH,iC,e]
theorem qQ {p:κ×V}{r:List (κ×V)}{k:κ}(e:¬ p.1=k):rH (p :: r) k=rH r k:=by simp[rH,iC,e]
theorem sr (k:κ):∀ Z6:List (κ×V),(Z6.any λkv=>decide (kv.1=k))=(rH Z6 k).isSome
 | []=>rfl
 | p :: r=>by
  rw[jU]
  by_cases e:p.1=k
  ·simp only[qP e,decide_eq_true e,Bool.true_or,dJ]
  ·rw[qQ e,decide_eq_false e,Bool.false_or];exact sr k r
theorem qk (Z6:List (κ×V))(k:κ)(v:V):(qd Z6 k v).length<=Z6.length+1:=by
 unfold qd
 split
 ·rw[iz];lia
 ·rw[dY,gp,iy];lia
theorem RelO.isSome_eq {o:Option V}{u:Option mM}(r:RelO o u):o.isSome=u.isSome:=by
 cases o with
 | none=>cases u with
  | none=>rfl
  | some _=>exact (show False from r).elim
 | some _=>cases u with
  | none=>exact (show False from r).elim
  | some _=>rfl
theorem RelO.getD {o:Option V}{u:Option mM}{d:V}{d':mM}(r:RelO o u)(rd:RelV d d'):RelV (o.getD d) (u.getD d'):=by
 cases o with
 | none=>cases u with
  | none=>exact rd
  | some _=>exact (show False from r).elim
 | some _=>cases u with
  | none=>exact (show False from r).elim
  | some _=>exact r
theorem KV.val {Z6:List (κ×V)}{vs:List (κ×mM)}(r:KV Z6 vs)(k:κ):RelO (rH Z6 k) (valueAt vs k):=by
 unfold KV at r
 induction r with
 | nil=>exact True.intro
 | @cons p q ps qs h t ih =>
  let(h1,h2):=h
  by_cases e:p.1=k
  ·have e':q.1=k:=h1.symm.trans e
   have b:valueAt (q :: qs) k=some q.2:=by simp[valueAt,iC,e']
   rw[qP e,b];exact h2
  ·have e':¬ q.1=k:=λz=>e (h1.trans z)
   have b:valueAt (q :: qs) k=valueAt qs k:=by simp[valueAt,iC,e']
   rw[qQ e,b];exact ih
theorem KV.any {Z6:List (κ×V)}{vs:List (κ×mM)}(r:KV Z6 vs)(k:κ):(Z6.any λkv=>decide (kv.1=k))=vs.any λkv=>decide (kv.1=k):=by
 unfold KV at r
 induction r with
 | nil=>rfl
 | cons h t ih=>rw[jU,jU,ih,h.1]
theorem KV.repl {Z6:List (κ×V)}{vs:List (κ×mM)}(r:KV Z6 vs)(k:κ){y:V}{u:mM}(ry:RelV y u) :
  KV (Z6.map λkv=>if kv.1=k then (kv.1,y) else kv) (vs.map λkv=>if kv.1=k then (kv.1,u) else kv):=by
 unfold KV at r ⊢
 induction r with
 | nil=>exact .nil
 | @cons p q ps qs h t ih =>
  rw[jS,jS]
  refine .cons ?_ ih
  let(h1,h2):=h
  by_cases e:p.1=k
  ·rw[if_pos e,if_pos (h1.symm.trans e)];exact⟨h1,ry⟩
  ·rw[if_neg e,if_neg (λz=>e (h1.trans z))];exact⟨h1,h2⟩
theorem KV.put {Z6:List (κ×V)}{vs:List (κ×mM)}(r:KV Z6 vs)(k:κ){y:V}{u:mM}(ry:RelV y u):KV (qd Z6 k y) (stored vs k u):=by
 unfold qd stored
 rw[r.any k]
 by_cases e:(vs.any λkv=>decide (kv.1=k))=true
 ·rw[if_pos e,if_pos e];exact r.repl k ry
 ·rw[if_neg e,if_neg e];exact Paired.snoc r ⟨rfl,ry⟩
theorem KV.length {Z6:List (κ×V)}{vs:List (κ×mM)}(r:KV Z6 vs):Z6.length=vs.length:=jI r
end
theorem vY {P:mm}{w:mL}{k:o6}{u:mM}(r:RelV (kV k) u):(n5 P w).is k u=true:=by
 rcases k with i|x|x
 ·let(t,e):=(show ∃ t,u=Value.int i t from r);subst e;exact x4 P w i t
 ·cases (show u=Value.none from r);exact wV P w
 ·let(t,e):=(show ∃ t,u=Value.str x t from r);subst e;exact x0 P w x t
theorem vZ {P:mm}{w:mL}:∀ {ks:List o6}{us:List mM},Vals (ks.map kV) us->ItemsAre (n5 P w) ks us
 | [],_,r=>by rw[kF] at r;cases r;exact .nil
 | k :: ks,_,r=>by
  rw[jS] at r
  cases r with
  | cons h t=>exact .cons (vY h) (vZ t)
abbrev KT (H:Hp):List (List o6×V)->List (List o6×m4×mM)->Prop:=mF λp q=>p.1=q.1/\H q.2.1=some (.tup (p.1.map kV))/\RelV p.2 q.2.2
theorem KT.val {H:Hp}{Z6:List (List o6×V)}{xs:List (List o6×m4×mM)}(r:KT H Z6 xs)(k:List o6):RelO (rH Z6 k) ((atKey xs k).map (·.2)):=by
 induction r with
 | nil=>exact True.intro
 | @cons p q ps qs h t ih =>
  let(h1,_,h2):=h
  by_cases e:p.1=k
  ·have e':q.1=k:=h1.symm.trans e
   have b:atKey (q :: qs) k=some q.2:=by simp[atKey,iC,e']
   rw[qP e,b];exact h2
  ·have e':¬ q.1=k:=λz=>e (h1.trans z)
   have b:atKey (q :: qs) k=atKey qs k:=by simp[atKey,iC,e']
   rw[qQ e,b];exact ih
theorem KT.repl {H:Hp}{Z6:List (List o6×V)}{xs:List (List o6×m4×mM)}(r:KT H Z6 xs)(k:List o6){y:V}{u:mM}(ry:RelV y u) :
  KT H (Z6.map λkv=>if kv.1=k then (kv.1,y) else kv) (xs.map (putAt k u)):=by
 induction r with
 | nil=>exact .nil
 | @cons p q ps qs h t ih =>
  rw[jS,jS]
  refine .cons ?_ ih
  let(h1,h2,h3):=h
  unfold putAt
  by_cases e:p.1=k
  ·rw[if_pos e,if_pos (h1.symm.trans e)];exact⟨h1,h2,ry⟩
  ·rw[if_neg e,if_neg (λz=>e (h1.trans z))];exact⟨h1,h2,h3⟩
theorem KT.put {H:Hp}{Z6:List (List o6×V)}{xs:List (List o6×m4×mM)}(r:KT H Z6 xs)(k:List o6){b:m4}{y:V}{u:mM}(hb:H b=some (.tup (k.map kV)))(ry:RelV y u) :
  KT H (qd Z6 k y) (storedH xs k b u):=by
 have e:(Z6.any λkv=>decide (kv.1=k))=(atKey xs k).isSome:=by
  rw[sr,(r.val k).isSome_eq,fe]
 unfold qd storedH
 rw[e]
 by_cases q:(atKey xs k).isSome=true
 ·rw[if_pos q,if_pos q];exact r.repl k ry
 ·rw[if_neg q,if_neg q];exact Paired.snoc r ⟨rfl,hb,ry⟩
theorem KT.keeps {H H':Hp}{Z6:List (List o6×V)}{xs:List (List o6×m4×mM)}(r:KT H Z6 xs)(ht:∀ b ys,H b=some (.tup ys)->H' b=some (.tup ys)):KT H' Z6 xs :=
 Paired.mapP r λ_ _ z=>⟨z.1,ht _ _ z.2.1,z.2.2⟩
section
variable {P:mm}{w:mL}{H:Hp}{h:mY}{a:m4}
theorem GQ {u:HO}(ok:HOk P w H h)(e:Rd H a u):ObjOk P w H h a u:=e.ok ok
theorem wg {Z6:List (o6×V)}(ok:HOk P w H h)(e:Rd H a (.dK Z6)):Z6.length<=sizeLine/\(a == sysModules)=false/\∃ vs,KV Z6 vs/\h.DictOf (n5 P w) a vs :=
 show ObjOk P w H h a (.dK Z6) from GQ ok e
theorem G9 {Z6:List (o6×V)}(ok:HOk P w H h)(e:H a=some (.dK Z6)):Z6.length<=sizeLine/\(a == sysModules)=false/\∃ vs,KV Z6 vs/\h.DictOf (n5 P w) a vs:=wg ok (.inl e)
theorem sZ {ks:List o6}(ok:HOk P w H h)(e:H a=some (.tup (ks.map kV))):(tupleKind (n5 P w)).is h ks a:=by
 let(_,Z7,r,o,h1,h2,n,h3):=(show ObjOk P w H h a (.tup (ks.map kV)) from ok a _ e)
 exact⟨o,Z7.toArray,n,h1,h2,h3,by simpa using vZ r⟩
theorem we {Z6:List (List o6×V)}(ok:HOk P w H h)(e:Rd H a (.dT Z6)):Z6.length<=sizeLine/\(a == sysModules)=false /\
  ∃ xs,KT H Z6 xs/\h.DictOfH (tupleKind (n5 P w)) a xs:=by
 let(z,y,xs,r,o,es,ep,h1,h2,h3,h4,h5):=(show ObjOk P w H h a (.dT Z6) from GQ ok e)
 refine⟨z,y,xs,r,o,es,ep,h1,h2,h3,h4,λx hx=>?_,h5⟩
 have all:∀ {l:List (List o6×V)}{m:List (List o6×m4×mM)},KT H l m->∀ x∈m,(tupleKind (n5 P w)).is h x.1 x.2.1:=by
  intro l m q
  induction q with
  | nil=>intro x hx;exact nomatch hx
  | @cons p q ps qs hq t ih =>
   intro x hx
   rcases jP.mp hx with e|hx
   ·subst e
    exact sZ ok (by rw[<- hq.1];exact hq.2.1)
   ·exact ih x hx
 exact all r x hx
theorem G8 {Z6:List (List o6×V)}(ok:HOk P w H h)(e:H a=some (.dT Z6)):Z6.length<=sizeLine/\(a == sysModules)=false /\
  ∃ xs,KT H Z6 xs/\h.DictOfH (tupleKind (n5 P w)) a xs:=we ok (.inl e)
end
def DGet (H:Hp)(a:m4)(y:V)(r:Option V):Prop :=
 (∃ Z6 k,Rd H a (.dK Z6)/\y=kV k/\r=rH Z6 k) ∨ ∃ Z6 k b,Rd H a (.dT Z6)/\y=.ref b/\H b=some (.tup (k.map kV))/\r=rH Z6 k
def DPut (H:Hp)(a:m4)(y v:V)(H':Hp):Prop :=
 (∃ Z6 k,H a=some (.dK Z6)/\y=kV k/\Z6.length<sizeLine/\H'=oj H a (.dK (qd Z6 k v))) ∨
 ∃ Z6 k b,H a=some (.dT Z6)/\y=.ref b/\H b=some (.tup (k.map kV))/\Z6.length<sizeLine/\H'=oj H a (.dT (qd Z6 k v))
theorem DGet.k {H:Hp}{a:m4}{Z6:List (o6×V)}{k:o6}(e:H a=some (.dK Z6)):DGet H a (kV k) (rH Z6 k):=.inl ⟨Z6,k,.inl e,rfl,rfl⟩
theorem DGet.t {H:Hp}{a b:m4}{Z6:List (List o6×V)}{k:List o6}(e:H a=some (.dT Z6))(eb:H b=some (.tup (k.map kV))):DGet H a (.ref b) (rH Z6 k):=.inr ⟨Z6,k,b,.inl e,rfl,eb,rfl⟩
theorem DPut.k {H:Hp}{a:m4}{Z6:List (o6×V)}{k:o6}{v:V}(e:H a=some (.dK Z6))(hl:Z6.length<sizeLine):DPut H a (kV k) v (oj H a (.dK (qd Z6 k v))):=.inl ⟨Z6,k,e,rfl,hl,rfl⟩
theorem DPut.t {H:Hp}{a b:m4}{Z6:List (List o6×V)}{k:List o6}{v:V}(e:H a=some (.dT Z6))(eb:H b=some (.tup (k.map kV)))(hl:Z6.length<sizeLine) :
  DPut H a (.ref b) v (oj H a (.dT (qd Z6 k v))):=.inr ⟨Z6,k,b,e,rfl,eb,hl,rfl⟩
section
variable {X:Cx}{Z9:List (m4×Obj)}{σ:St}{H:Hp}{s:mD}{a:m4}{y v:V}{u r:mM}{o:Option V}{A:mK}{E:mM->mD->Prop}
theorem Inv.big (I:Inv X Z9 σ H s):sysModules<s.heap.objs.size:=by
 have h:mainGlobals<s.heap.objs.size:=(I.mod.glob.keeps I.bk).lt
 exact kw (by decide) h
theorem Cb {Q:mM->mD->Prop}(hu:A.units+1<cLine)(I:Inv X Z9 σ H s)(g:DGet H a y (some v))(ry:RelV y u)(h:∀ w' s',Inv X Z9 σ H s'->RelV v w'->Q w' s') :
  wpAny (model X.prog X.w) A (getItem (.ref a) u) Q E s:=by
 rcases g with⟨Z6,k,e,ey,l⟩|⟨Z6,k,b,e,ey,eb,l⟩
 ·subst ey
  let(z,hd,vs,rel,dd):=wg I.hok e
  let(w',hw,rw'):=RelO.some_of (v:=v) (o:=valueAt vs k) (by rw[l];exact rel.val k)
  exact wpAny_getItem_of (vY ry) dd.mapOf hw (h w' _ (I.tok _) rw')
 ·subst ey
  cases (show u=Value.ref b from ry)
  let(z,hd,xs,rel,dd):=we I.hok e
  let(w',hw,rw'):=RelO.some_of (v:=v) (o:=(atKey xs k).map (·.2)) (by rw[l];exact rel.val k)
  let(p,hp,hp2):=bL.mp hw
  refine wpAny_getItem_heap (dD hu) (sZ I.hok eb) dd hp ?_
  rw[hp2]
  exact h w' _ (I.tok _) rw'
theorem Ml {Q:mM->mD->Prop}(hu:A.units+1<cLine)(I:Inv X Z9 σ H s)(g:DGet H a y o)(ry:RelV y u)(h:∀ s',Inv X Z9 σ H s'->Q (.bool o.isSome) s') :
  wpAny (model X.prog X.w) A (compareOp .In u (.ref a)) Q E s:=by
 rcases g with⟨Z6,k,e,ey,l⟩|⟨Z6,k,b,e,ey,eb,l⟩
 ·subst ey
  let(z,hd,vs,rel,dd):=wg I.hok e
  refine wpAny_in_of (vY ry) hd dd.mapOf ?_
  rw[<- (rel.val k).isSome_eq,<- l]
  exact h _ (I.tok _)
 ·subst ey
  cases (show u=Value.ref b from ry)
  let(z,hd,xs,rel,dd):=we I.hok e
  refine wpAny_in_heap (dD hu) (sZ I.hok eb) hd dd ?_
  have q:=(rel.val k).isSome_eq
  rw[fe] at q
  rw[<- q,<- l]
  exact h _ (I.tok _)
theorem t8 {h':mY}{t':Nat}{ob:HO}(I:Inv X Z9 σ H s)(mu:MD (H a))(hs:kI a s.heap h')(he:∃ q,h'.get? a=some q)(new:ObjOk X.prog X.w (oj H a ob) h' a ob) :
  Inv X Z9 σ (oj H a ob) { s with heap:=h',toks:=t' } :=
 I.write (x:=a) (e:=a) mu (.inl rfl) (λb q hb z=>(hs.2 b hb).trans z) he new
theorem Ec {P:mm}{w:mL}{H':Hp}{h':mY}{Z6:List (o6×V)}{vs:List (o6×mM)}(z:Z6.length<=sizeLine)(hd:(a == sysModules)=false)(rel:KV Z6 vs)(dd:h'.DictOf (n5 P w) a vs) :
  ObjOk P w H' h' a (.dK Z6):=⟨z,hd,vs,rel,dd⟩
theorem B9 {H':Hp}{Q:Unit->mD->Prop}(hu:A.units+1<cLine)(I:Inv X Z9 σ H s)(g:DPut H a y v H')(ry:RelV y u)(rv:RelV v r)(h:∀ s',Inv X Z9 σ H' s'->Q () s') :
  wpAny (model X.prog X.w) A (setItem (.ref a) u r) Q E s:=by
 rcases g with⟨Z6,k,e,ey,l,eH⟩|⟨Z6,k,b,e,ey,eb,l,eH⟩
 ·subst ey eH
  let(z,hd,vs,rel,dd):=G9 I.hok e
  have hz:vs.length<=sizeLine:=by rw[<- rel.length];exact z
  have hl:(qd Z6 k v).length<=sizeLine:=by have:=qk Z6 k v;lia
  refine wpAny_setItem_pairs (hsz:=hz) (vY ry) dd λh' dd' hs=>h _ ?_
  have he:∃ q,h'.get? a=some q:=let ⟨q,_,_,hq,_⟩:=dd';⟨q,hq⟩
  exact t8 I (by rw[e];exact True.intro) hs he (Ec hl hd (rel.put k rv) dd')
 ·subst ey eH
  cases (show u=Value.ref b from ry)
  let(z,hd,xs,rel,dd):=G8 I.hok e
  have hz:xs.length<=sizeLine:=by rw[<- jI rel];exact z
  have hl:(qd Z6 k v).length<=sizeLine:=by have:=qk Z6 k v;lia
  refine wpAny_setItem_heap (hsz:=hz) (dD hu) (sZ I.hok eb) dd λh' dd' hs=>h _ ?_
  let(q,es,ep,hq,h2,h3,h4,_,h5):=dd'
  refine t8 I (by rw[e];exact True.intro) hs ⟨q,hq⟩ ⟨hl,hd,_,(rel.put k eb rv).keeps λc ys ec=>?_,q,es,ep,hq,h2,h3,h4,h5⟩
  rw[nv (G0 ec e (λz=>nomatch z))]
  exact ec
end
def MC (i:Expr):Prop:=∀ ov iv,subscripted i false ov iv=operate [ov,iv] (getItem ov iv)
theorem EL {prog:mm}{w:mL}{A:mK}{E:mM->mD->Prop}{s:mD}{env:Env}{value slice:Expr}{pos:Pos}{T id:String}{Q:mM->mD->Prop}
  (hl:typeLookup (.type T) "__getitem__" = pure (some (.builtin id)))(hs:MC slice)
  (h:wpAny (model prog w) A (eval value env) (λo s₁=>wpAny (model prog w) A (eval slice env) (λi s₂=>s₂.TypeIs o T/\wpAny (model prog w) A (getItem o i) Q E s₂) E s₁) E s) :
  wpAny (model prog w) A (eval (.Subscript value slice pos) env) Q E s:=by
 refine lB (lg h (λo s₁ h₁=>lg h₁ (λi s₂ h₂=>?_) λ_ _ x=>x) λ_ _ x=>x)
 let(hT,h₂):=h₂
 unfold subscriptTail
 refine lj ?_
 rw[getitemInPython_of_ne hT.not_modules]
 refine lj (gJ hT hl ?_)
 have fin:wpAny (model prog w) A (subscripted slice false o i) (λr s₃=>wpAny (model prog w) A (letTemporaryGo value o r >>= λ_=>pure r) Q E s₃) E s₂:=by
  rw[hs o i]
  exact wpAny_operating (lg h₂ (λr s₃ h₃=>lj (wpAny_letTemporaryGo (k9 h₃))) λ_ _ x=>x)
 first
  | exact k9 (lj fin)
  | exact lj (k9 (lj fin))
  | exact lj fin
theorem yJ {X:Cx}{Z9:List (m4×Obj)}{σ:St}{H:Hp}{s:mD}{a:m4}{y:V}{o:Option V}(I:Inv X Z9 σ H s)(g:DGet H a y o):s.TypeIs (.ref a) "dict":=by
 rcases g with⟨Z6,k,e,_,_⟩|⟨Z6,k,b,e,_,_,_⟩
 ·let(_,_,vs,_,dd):=wg I.hok e
  exact dd.typeIs
 ·let(_,_,xs,_,dd):=we I.hok e
  exact dd.typeIs
def KG (td ty:TE):TE:=λσ H Q=>td σ H λx H1=>ty σ H1 λy H2=>∃ a v,x=.ref a/\DGet H2 a y (some v)/\Q v H2
def KS (td ty tv:TE):TS:=λD σ H=>tv σ H λv H1=>td σ H1 λx H2=>ty σ H2 λy H3=>∃ a H4,x=.ref a/\DPut H3 a y v H4/\D.nx σ H4
section
variable {X:Cx}{o i value:Expr}{pos pos':Pos}{td ty tv:TE}
theorem At (hu:X.A.units+1<cLine)(ho:PE X o td)(hi:PE X i ty)(hs:MC i):PE X (.Subscript o i pos) (KG td ty):=by
 intro Z9 s σ H Q I h
 refine EL PySem.F.slot_dict_getitem.lookup hs (nW (ho Z9 s σ H _ I h) λu s1 ⟨x,H1,I1,rx,q1⟩=>nW (hi Z9 s1 σ H1 _ I1 q1) λiv s2 ⟨y,H2,I2,ry,a,v,ex,g,q2⟩=>?_)
 subst ex
 obtain rfl:u=Value.ref a:=rx
 exact⟨yJ I2 g,Cb hu I2 g ry λw' s3 I3 rw'=>⟨v,H2,I3,rw',q2⟩⟩
theorem E8 (hu:X.A.units+1<cLine)(ho:PE X o td)(hi:PE X i ty)(hv:PE X value tv)(hs:swapsWith value (some (.Subscript o i pos')) pos.line X.env=pure false) :
  PS X (.Assign [.Subscript o i pos'] value pos) (KS td ty tv):=by
 intro Z9 s σ H D I h
 refine wpAny_Assign_Subscript (nW (hv Z9 s σ H _ I h) λr s1 ⟨v,H1,I1,rv,q1⟩=>nW (ho Z9 s1 σ H1 _ I1 q1) λu s2 ⟨x,H2,I2,rx,q2⟩=>nW (hi Z9 s2 σ H2 _ I2 q2) λiv s3 ⟨y,H3,I3,ry,a,H4,ex,g,q3⟩=>?_) hs
 subst ex
 obtain rfl:u=Value.ref a:=rx
 exact B9 hu I3 g ry rv λs4 I4=>⟨σ,H4,I4,q3⟩
end
theorem Ed {P:mm}{w:mL}{H:Hp}(h:mY)(hb:sysModules<h.objs.size):ObjOk P w H (h.push { cls:=.type "dict",data:=.dict #[] }) h.objs.size (.dK []) :=
 ⟨kR _,beq_eq_false_iff_ne.mpr (mq (kq hb)),[],.nil,Heap.DictOf.new h⟩
theorem yH {P:mm}{w:mL}{H:Hp}(h:mY)(hb:sysModules<h.objs.size):ObjOk P w H (h.push { cls:=.type "dict",data:=.dict #[] }) h.objs.size (.dT []) :=
 ⟨kR _,beq_eq_false_iff_ne.mpr (mq (kq hb)),[],.nil,_,#[],0,dj _ rfl,⟨rfl,rfl,rfl⟩,rfl,rfl,jg⟩
def Hk:TE:=λ_ H Q=>∀ p,H p=none->Q (.ref p) (oj H p (.dT []))
section
variable {X:Cx}{pos:Pos}
theorem Dm:PE X (.Dict [] [] pos) Hk:=λZ9 s σ H Q I h =>
 wpAny_Dict_empty ⟨.ref s.heap.objs.size,_,I.laid (a:=s.heap.objs.size) (o:=.dT []) (t':=s.toks) (λ_ _ q=>bR _ q) (kT _) (yH s.heap I.big),rfl,h _ (I.hok.fresh (kT _))⟩
end
def zc:List (TE×TE)->St->Hp->(List (V×V)->Hp->Prop)->Prop
 | [],_,H,Q=>Q [] H
 | (tk,tv) :: r,σ,H,Q=>tk σ H λx H1=>tv σ H1 λy H2=>zc r σ H2 λps H3=>Q ((x,y) :: ps) H3
abbrev VV:List (V×V)->List (mM×mM)->Prop:=mF λp q=>RelV p.1 q.1/\RelV p.2 q.2
def Ob (X:Cx)(pos:Pos)(keys:List (Option Expr))(values:List Expr)(trs:List (TE×TE)):Prop :=
 ∀ (Z9:List (m4×Obj))(s:mD)(σ:St)(H:Hp)(Q:List (V×V)->Hp->Prop),Inv X Z9 σ H s->zc trs σ H Q ->
  wpAny (model X.prog X.w) X.A (evalPairs (pairTrees keys values X.env pos)) (λvs s'=>∃ ps H',Inv X Z9 σ H' s'/\VV ps vs/\Q ps H') X.xe s
theorem Fa {X:Cx}{pos:Pos}:Ob X pos [] [] []:=λZ9 s σ H Q I h=>pairTrees_nil_walk ⟨[],H,I,.nil,h⟩
theorem Db {X:Cx}{pos:Pos}{k v:Expr}{ks:List (Option Expr)}{vs:List Expr}{tk tv:TE}{trs:List (TE×TE)}(hk:PE X k tk)(hv:PE X v tv)(hr:Ob X pos ks vs trs) :
  Ob X pos (some k :: ks) (v :: vs) ((tk,tv) :: trs):=λZ9 s σ H Q I h =>
 pairTrees_cons_walk (nW (hk Z9 s σ H _ I h) λu s1 ⟨x,H1,I1,rx,q1⟩=>nW (hv Z9 s1 σ H1 _ I1 q1) λw2 s2 ⟨y,H2,I2,ry,q2⟩ =>
  nW (hr Z9 s2 σ H2 _ I2 q2) λws s3 ⟨ps,H3,I3,rel,q3⟩=>⟨(x,y) :: ps,H3,I3,.cons ⟨rx,ry⟩ rel,q3⟩)
def sV (Z6 more:List (o6×V)):List (o6×V):=more.foldl (λZ8 kv=>qd Z8 kv.1 kv.2) Z6
theorem KV.merge:∀ {more:List (o6×V)}{rs:List (o6×mM)}{Z6:List (o6×V)}{vs:List (o6×mM)},KV more rs->KV Z6 vs->KV (sV Z6 more) (merged vs rs):=by
 intro more rs Z6 vs r
 unfold KV at r
 induction r generalizing Z6 vs with
 | nil=>intro q;exact q
 | @cons p q ps qs h t ih =>
  intro r0
  have e:KV (qd Z6 p.1 p.2) (stored vs q.1 q.2):=by
   have:=r0.put p.1 h.2
   rw[<- h.1];exact this
  exact ih e
theorem rR:∀ (more Z6:List (o6×V)),(sV Z6 more).length<=Z6.length+more.length
 | [],Z6=>by show Z6.length<=Z6.length+0;lia
 | p :: r,Z6=>by
  have h1:=rR r (qd Z6 p.1 p.2)
  have h2:=qk Z6 p.1 p.2
  show (sV (qd Z6 p.1 p.2) r).length<=_
  rw[gp];lia
theorem vc {P:mm}{w:mL}:∀ {Z6:List (o6×V)}{ws:List (mM×mM)},VV (Z6.map λkv=>(kV kv.1,kv.2)) ws->∃ rs,Carries (n5 P w) ws rs/\KV Z6 rs
 | [],_,r=>by rw[kF] at r;cases r;exact⟨[],True.intro,.nil⟩
 | p :: Z6,_,r=>by
  rw[jS] at r
  cases r with
  | @cons a b as bs h t =>
   let(rs,c,q):=vc (P:=P) (w:=w) t
   let(b1,b2):=b
   exact⟨(p.1,b2) :: rs,⟨vY h.1,rfl,c⟩,.cons ⟨rfl,h.2⟩ q⟩
def KF (trs:List (TE×TE)):TE:=λσ H Q=>∀ p,H p=none->zc trs σ (oj H p (.dK [])) λps H2=>H2 p=some (.dK [])/\∃ Z6:List (o6×V),ps=Z6.map (λkv=>(kV kv.1,kv.2))/\Z6.length<=15/\Q (.ref p) (oj H2 p (.dK (sV [] Z6)))
theorem Fe {X:Cx}{pos:Pos}{keys:List (Option Expr)}{values:List Expr}{trs:List (TE×TE)}(h:Ob X pos keys values trs)(hall:keys.all (·.isSome)=true)(hl:keys.length=values.length)(h0:keys≠[])
  (h15:keys.length<=15):PE X (.Dict keys values pos) (KF trs):=by
 intro Z9 s σ H Q I q
 have hn:=I.hok.fresh (kT s.heap.objs.size)
 have I1:=I.laid (a:=s.heap.objs.size) (o:=.dK []) (h':=s.heap.push { cls:=.type "dict",data:=.dict #[] }) (t':=s.toks) (λ_ _ q=>bR _ q) (kT _) (Ed s.heap I.big)
 refine wpAny_Dict_walk (knd:=n5 X.prog X.w) hall hl h0 h15 (nW (h Z9 _ σ _ _ I1 (q _ hn)) λws s2 ⟨ps,H2,I2,rel,e,Z6,ep,lk,q2⟩=>?_)
 subst ep
 let(rs,c,rk):=vc (P:=X.prog) (w:=X.w) rel
 let(z,hd,vs0,r0,dd):=G9 I2.hok e
 cases r0
 refine⟨rs,c,dd,λh' dd' hs=>⟨.ref s.heap.objs.size,_,?_,rfl,q2⟩⟩
 have hz:(sV [] Z6).length<=sizeLine:=by
  have h1:=rR Z6 []
  rw[iy] at h1
  rw[kN];lia
 have he:∃ q,h'.get? s.heap.objs.size=some q:=let ⟨q,_,_,hq,_⟩:=dd';⟨q,hq⟩
 exact t8 I2 (by rw[e];exact True.intro) hs he (Ec hz hd (rk.merge .nil) dd')
structure M1 (X:Cx)(o:Expr)(m:Str)(ZZ:Pos)(e:Expr)(Z0:Pos):Prop where
 base:attributeBase o m X.env (eval o X.env)=eval o X.env
 few:((backTo Z0 (starEach [e] X.env)).all (λx=>!x.1) && (backToKw Z0 (keywordEach [] X.env)).all (λx=>x.1.isSome)
  && decide (([e]:List Expr).length+([]:List mv).length+(if ([]:List mv).isEmpty then 0 else 1)<30))=true
 line:(ZZ.endLine == Z0.line)=true
 trees:backTo Z0 (starEach [e] X.env)=[(false,eval e X.env)]
def IsD (H:Hp)(a:m4):Prop:=(∃ Z6,Rd H a (.dK Z6)) ∨ ∃ Z6,Rd H a (.dT Z6)
theorem IA {X:Cx}{Z9:List (m4×Obj)}{σ:St}{H:Hp}{s:mD}{a:m4}(I:Inv X Z9 σ H s)(d:IsD H a) :
  s.TypeIs (.ref a) "dict"/\(∀ b,Value.ref a=.ref b->∃ ob,s.heap.get? b=some ob/\ob.dict=none)/\(a == sysModules)=false:=by
 rcases d with⟨Z6,e⟩|⟨Z6,e⟩
 ·let(_,hd,vs,_,dd):=wg I.hok e
  refine⟨dd.typeIs,λb q=>?_,hd⟩
  cases q
  let(ob,_,_,h1,h2,_):=dd
  exact⟨ob,h1,h2.2.1⟩
 ·let(_,hd,xs,_,dd):=we I.hok e
  refine⟨dd.typeIs,λb q=>?_,hd⟩
  cases q
  let(ob,_,_,h1,h2,_):=dd
  exact⟨ob,h1,h2.2.1⟩
section
variable {X:Cx}{Z9:List (m4×Obj)}{σ:St}{H:Hp}{s:mD}{a:m4}{y:V}{u:mM}{o:Option V}{A:mK}{E:mM->mD->Prop}
theorem Jx {Q:mM->mD->Prop}(hu:A.units+1<cLine)(I:Inv X Z9 σ H s)(g:DGet H a y o)(ry:RelV y u)(h:∀ w' s',Inv X Z9 σ H s'->RelV (o.getD .non) w'->Q w' s') :
  wpAny (model X.prog X.w) A (call (.builtin "dict.get") [.ref a,u]) Q E s:=by
 rcases g with⟨Z6,k,e,ey,l⟩|⟨Z6,k,b,e,ey,eb,l⟩
 ·subst ey
  let(z,hd,vs,rel,dd):=wg I.hok e
  refine call_meetsIn bZ dd.typeIs bJ (br _ _) (meets_dict_get (n5 X.prog X.w) a (vY ry) hd) ⟨_,dd.mapOf,h _ _ (I.tok _) ?_⟩
  rw[l]
  exact (rel.val k).getD rfl
 ·subst ey
  cases (show u=Value.ref b from ry)
  let(z,hd,xs,rel,dd):=we I.hok e
  refine call_meetsIn bZ dd.typeIs bJ (br _ _) (meetsH_dict_get (tupleKind (n5 X.prog X.w)) a b hd) ⟨dD hu,k,xs,sZ I.hok eb,dd,h _ _ (I.tok _) ?_⟩
  rw[l]
  exact (rel.val k).getD rfl
end
def Hl (td ty:TE):TE:=λσ H Q=>td σ H λx H1=>∃ a,x=.ref a/\IsD H1 a/\ty σ H1 λy H2=>∃ o,DGet H2 a y o/\Q (o.getD .non) H2
section
variable {X:Cx}{o e:Expr}{ZZ Z0:Pos}{td ty:TE}
theorem Dn (hu:X.A.units+1<cLine)(ho:PE X o td)(he:PE X e ty)(m:M1 X o "get" ZZ e Z0):PE X (.Call (.Attribute o "get" ZZ) [e] [] Z0) (Hl td ty):=by
 intro Z9 s σ H Q I h
 refine wpAny_Call_method m.base m.few m.line PySem.F.plainAttrs_dict bZ PySem.F.type_dict_get (nW (ho Z9 s σ H _ I h) λu s1 ⟨x,H1,I1,rx,a,ex,d,q1⟩=>?_)
 subst ex
 obtain rfl:u=Value.ref a:=rx
 let(t1,t2,_):=IA I1 d
 refine⟨t1,t2,?_⟩
 rw[m.trees]
 refine bT rfl (cT (et (nW (he Z9 s1 σ H1 _ I1 q1) λiv s2 ⟨y,H2,I2,ry,ov,g,q2⟩=>fI ?_)))
 exact Jx hu I2 g ry λw' s3 I3 rw'=>⟨_,H2,I3,rw',q2⟩
end
end L2
namespace HT
open PySem PyProof.Rows
def lexLe:List Int->List Int->Bool
 | [],[]=>true
 | [],_ :: _=>true
 | _ :: _,[]=>false
 | x :: xs,y :: ys=>if x=y then lexLe xs ys else decide (x<=y)
theorem zF (x y:Int)(xs ys:List Int):lexLe (x :: xs) (y :: ys)=if x=y then lexLe xs ys else decide (x<=y):=rfl
theorem vz:lexLe [] []=true:=rfl
theorem uI (y:Int)(ys:List Int):lexLe [] (y :: ys)=true:=rfl
theorem uJ (x:Int)(xs:List Int):lexLe (x :: xs) []=false:=rfl
theorem B5 (A:mK)(s:mD) (a:Int)(t:Tok) (c:Int)(u:Tok):∃ e,lD A s (.int a t) (.int c u) e/\(e=true↔a=c) :=
 ⟨(a == c),dH a t c u,by simp⟩
theorem C3 (A:mK)(s:mD) (a:Int)(t:Tok) (c:Int)(u:Tok)(prog:mm)(w:mL)(E:mM->mD->Prop)(Q:mM->mD->Prop)(h:Q (.bool (decide (a<=c))) s) :
  wpAny (model prog w) A (richCompare .LtE (.int a t) (.int c u)) Q E s :=
 (PyProof.Rows.le_int h:wpAny (model prog w) A (compareOp .LtE (.int a t) (.int c u)) Q E s)
section
open PySem.SeqAt
open PySem.AutoSeq1 (wpAny_loadPart')
open PySem.MeetsSeq PySem.MeetsSeq2 PySem.MeetsSeq3
theorem vq (l b:m4)(items ZX:Array mM) (n n2:Nat)(dd dd2:Option m4)(sl sl2:Array (Option mM))(ns ms:List Int)(hi:mw items.toList ns)(hj:mw ZX.toList ms) :
  mQ (my.«tuple.__le__» ⟨[.ref l,.ref b],[]⟩)
   (λ_ R s=>s.heap.get? l=some { cls:=.type "tuple",dict:=dd,data:=.seq items n,slots:=sl }/\s.heap.get? b=some { cls:=.type "tuple",dict:=dd2,data:=.seq ZX n2,slots:=sl2 } /\
    R (.ok (.ret (.bool (lexLe ns ms)))) s) :=
 .of_wp λprog w A R s h=>by
  let(hp,g,d,tk,os):=s;let(hl,hb,h):=h
  have f2:=bm
  have z1:items.size=ns.length:=by rw[<- hi.length];simp
  have z2:ZX.size=ms.length:=by rw[<- hj.length];simp
  wp_walk using gL hl,gL hb,fN _ (λrest b s'=>b.1=none/\s'=⟨hp,g,d,tk,os⟩/\∃ (vs ws:List mM)(ns' ms':List Int),rest=vs.zip ws /\
   mw vs ns'/\mw ws ms'/\ns'.length+ZX.size=ms'.length+items.size/\R (.ok (.ret (.bool (lexLe ns' ms')))) ⟨hp,g,d,tk,os⟩) _
  case turn =>
   rintro⟨y,x⟩ rest b s' ⟨hb',rfl,vs,ws,ns',ms',hz,hvi,hwi,hlen,hR⟩
   cases hvi with
   | nil=>rw[fi] at hz;cases hz
   | cons a t hvi' =>
    cases hwi with
    | nil=>rw[dO] at hz;cases hz
    | cons c u hwi' =>
     rw[dP] at hz
     injection hz with hyx hrest
     injection hyx with hy hx
     subst hy hx
     rw[zF] at hR
     simp only[gp] at hlen
     let(e,he,hiff):=B5 A.in1 ⟨hp,g,d,tk,os⟩ a t c u
     refine lj (he prog w _ _ ?_)
     cases e with
     | true =>
      rw[if_pos (hiff.mp rfl)] at hR
      wp_walk
      exact⟨rfl,rfl,_,_,_,_,hrest,hvi',hwi',by lia,hR⟩
     | false =>
      rw[if_neg (λq=>absurd (hiff.mpr q) eB)] at hR
      have hri:=C3 A.in1 ⟨hp,g,d,tk,os⟩ a t c u prog w
      wp_walk using hri
      exact⟨_,rfl,by simpa using hR⟩
  case fin =>
   rintro⟨b1,b2⟩ s' ⟨hb',rfl,vs,ws,ns',ms',hz,hvi,hwi,hlen,hR⟩
   simp only at hb'
   subst hb'
   have hv:lexLe ns' ms'=decide (items.size<=ZX.size):=by
    cases hvi with
    | nil =>
     cases hwi with
     | nil =>
      simp only[iy] at hlen
      rw[vz]
      exact (decide_eq_true ⋯).symm
     | cons c u hw =>
      simp only[iy,gp] at hlen
      rw[uI]
      exact (decide_eq_true ⋯).symm
    | cons a t hv =>
     cases hwi with
     | nil =>
      simp only[iy,gp] at hlen
      rw[uJ]
      exact (decide_eq_false ⋯).symm
     | cons c u hw =>
      rw[dP] at hz
      cases hz
   rw[hv] at hR
   wp_walk
   exact⟨_,rfl,by simpa[ag] using hR⟩
  case h =>
   exact⟨rfl,rfl,items.toList,ZX.toList,ns,ms,rfl,hi,hj,by lia,h⟩
end
section
variable {prog:mm}{w:mL}{A:mK}{E:mM->mD->Prop}{s:mD}
theorem le_tupInts {l b:m4}{items ZX:Array mM}{ns ms:List Int}{Q:mM->mD->Prop}(hl:mT s.heap l items)(hb:mT s.heap b ZX)(hi:mw items.toList ns)(hj:mw ZX.toList ms)
  (hu:A.units<cLine)(h:Q (.bool (lexLe ns ms)) s):wpAny (model prog w) A (compareOp .LtE (.ref l) (.ref b)) Q E s:=by
 let((cls,dd,data,sl),ho,hc,n,hd):=id hl
 let((cls2,dd2,data2,sl2),ho2,hc2,n2,hd2):=id hb
 simp only at hc hd hc2 hd2
 subst hc hd hc2 hd2
 exact bE (op:=.LtE) ⟨_,ho,rfl⟩ ⟨_,ho2,rfl⟩ PySem.F.slot_tuple_le PySem.F.entry_tuple_le (PySem.F.args_tuple_le_2 _ _) (vq l b items ZX n n2 dd dd2 sl sl2 ns ms hi hj)
  ⟨ho,ho2,show Value.bool (lexLe ns ms)≠Value.notImplemented/\Q (.bool (lexLe ns ms)) s from ⟨(λx=>nomatch x),h⟩⟩ hu
end
end HT
namespace L2
open PySem PySem.Spec PyProof.Rows
section
variable {X:Cx}
inductive rLeT (K:kj)(x:V)(y:V)(H:Hp)(Q:VK):Prop
 | mk (a:_)(b:_)(ns:_)(ms:_)(_:x=.ref a)(_:y=.ref b)(_:SqT K H a (ns.map V.int))(_:SqT K H b (ms.map V.int))(_:Q (.bl (HT.lexLe ns ms)) H):rLeT K x y H Q
theorem Ij (hu:X.A.units<cLine):pO X (compareOp .LtE) (rLeT X.K):=by
 intro Z9 s σ H x y v u Q I rx ry h
 let(a,b,ns,ms,rfl,rfl,ha,hb,q):=h
 cases rx
 cases ry
 let(Z7,r1,p1,_):=I.tuple ha
 let(its2,r2,p2,_):=I.tuple hb
 have i1:mw Z7.toArray.toList ns:=intsAre_of r1
 have i2:mw its2.toArray.toList ms:=intsAre_of r2
 exact HT.le_tupInts p1 p2 i1 i2 hu ⟨.bl (HT.lexLe ns ms),H,I,rfl,q⟩
end
end L2
set_option maxHeartbeats 4000000
namespace L2
open PySem PySem.Spec PyProof.Rows
open AutoSeq1 (wpAny_loadPart')
section
variable {X:Cx}
theorem Dr:pO X (binaryOp .Add) (λx y H Q=>∃ a b ys,x=.ref a/\y=.ref b/\SqT X.K H a []/\SqT X.K H b ys/\Q (.ref b) H):=by
 intro Z9 s σ H x y v u Q I rx ry h
 let(a,b,ys,rfl,rfl,ha,hb,q):=h
 cases rx;cases ry
 let(Z7,r1,((oc,od,odt,os),e1,ec,n,ed),_):=I.tuple ha
 let(its2,r2,((oc2,od2,odt2,os2),e2,ec2,n2,ed2),_):=I.tuple hb
 simp only at ec ed ec2 ed2
 subst ec ed ec2 ed2
 cases r1
 exact kb ⟨_,e1,rfl⟩ ⟨_,e2,rfl⟩ fR jy F.slot_tuple_add F.entry_tuple_add (F.args_tuple_add_2 _ _) (tuple_addW0 a b #[] its2.toArray n n2 od od2 os os2 rfl) ⟨e1,e2,.ref b,H,I,rfl,q⟩
theorem CP:Kr X (λx lo hi H Q=>∃ a xs,x=.ref a/\SqT X.K H a xs/\HT.sIx xs.length 0 lo=0/\HT.sIx xs.length xs.length hi=xs.length/\Q (.ref a) H):=by
 intro Z9 s σ H x v vl vu lo hi sl Q I rx hs pl pu h
 let(t,xs,rfl,hx,h1,h2,q):=h
 cases rx
 let(Z7,r,ht,hz):=I.tuple hx
 have hlen:Z7.toArray.size=xs.length:=by rw[fk];exact r.length.symm
 refine⟨"tuple",_,af.lookup,ht.typeIs,?_⟩
 let(os,eo,co,do'):=id hs
 have ty:s.TypeIs (.ref sl) "slice":=⟨os,eo,co⟩
 rw[<- hlen] at h1 h2
 unfold getItem
 try with_reducible refine ju ?_
 first|refine lj (k9 ?_)|skip
 refine lj (eL ht.typeIs (by decide) (lj (bn (name:=ke "__getitem__") ht.typeIs af (fP af ht.typeIs c6 ?_ (dG _ _)))))
 show wpAny _ _ (aG (.ref t) >>= _) _ _ s;refine lj (jx ht (lj (j7 ty ?_)))
 rw[if_pos (by decide)];refine lj (HT.sliceApplied_gen hs pl pu ?_)
 show wpAny _ _ (if (((HT.sIx Z7.toArray.size 0 lo:Nat):Int) == 0 && (1:Int) == 1 && (HT.sIx Z7.toArray.size Z7.toArray.size hi-HT.sIx Z7.toArray.size 0 lo) == Z7.toArray.size)=true then _ else _) _ _ s
 rw[if_pos (by rw[h1,h2];simp)]
 refine lj (m:=aH (.ref t)) ?_
 unfold aH
 refine lj (j7 ht.typeIs (k9 ?_))
 rw[if_pos (by decide)]
 exact lj (k8 (k9 ⟨_,rfl,k9 ⟨.ref t,H,I,rfl,q⟩⟩))
end
def Kept (h0 h:mY) (N:Nat):Prop:=∀ b o,b<N->h0.get? b=some o->h.get? b=some o
def Ev (P:mm)(w:mL)(A:mK)(I:Nat->mM->Prop)(bt:Nat->Nat->Bool)(h0:mY) (N:Nat):Prop :=
 ∀ i j u v (s:mD)(Q:mM->mD->Prop)(E:mM->mD->Prop),Kept h0 s.heap N->I i u->I j v->Q (.bool (bt i j)) s->wpAny (model P w) A (richCompare .Lt u v) Q E s
section
variable {P:mm}{w:mL}{A:mK}{R:mE->mD->Prop}{it S N:m4}{fp wr:List m4}{n:Nat}{V:Nat->mM->Prop}{St:Nat->mY->Prop}{bt:Nat->Nat->Bool}{h0:mY}
theorem zG (W:Walks P w A.in1 it fp wr n V St)(C:Ev P w A.in1 V bt h0 N)(sf:S ∉ fp)(nw:∀ b∈wr,N<=b)(nS:N<=S) :
  ∀ (k j:Nat)(s:mD)(best:mM) (c:Nat),n-(j+1)=k->j+1<=n->St (j+1) s.heap->V (argBest bt j) best->Kept h0 s.heap N->s.heap.get? S=some { cls:=.type "list",dict:=none,data:=.seq #[best,best] c,slots:=#[] } ->
  (∀ v h' tk,V (argBest bt (n-1)) v->(∀ b o,b ∉ wr->b≠S->s.heap.get? b=some o->h'.get? b=some o)->R (.ok (.ret v)) { s with heap:=h',toks:=tk })->codeAny (model P w) A (.builtin "min.loop" ⟨[.ref it,.none,.ref S],[]⟩) R s:=by
 have sw:S ∉ wr:=λh=>sf (W.sub _ h)
 have nm:(toString "min"++toString ".loop":String) = "min.loop":=by decide
 have low:∀ {b:m4},b<N->b ∉ wr/\b≠S:=λ{b} hb=>⟨λz=>absurd (nw b z) (lJ.mpr hb),λz=>absurd nS (by rw[<- z];exact lJ.mpr hb)⟩
 intro k
 induction k with
 | zero =>
  intro j s best c hk hj hst hV kp hS hR
  have en:j+1=n:=by lia
  refine gS gE ?_;rw[cY gC _]
  show wpAny _ A.in1 (seqItems? (.ref S) >>= _) _ _ s;refine lj (iP hS rfl ?_)
  show wpAny _ A.in1 (tryCatch (pyNext (.ref it)) _ >>= _) _ _ s;refine lj (iN (W.done s _ _ (en ▸ hst) λg tk kk=>?_))
  have S1:=kk S _ sw hS
  show wpAny _ A.in1 (updateSeq S (λ_=>#[]) >>= _) _ _ _;refine lj (gI S1 rfl (lj (kL (k9 ?_))))
  exact hR best _ tk (by rw[<- en];exact hV) λb o c1 c2 e=>(bQ _ _ (mq c2)).trans (kk b o c1 e)
 | succ k ih =>
  intro j s best c hk hj hst hV kp hS hR
  have lt:j+1<n:=by lia
  refine gS gE ?_;rw[cY gC _]
  show wpAny _ A.in1 (seqItems? (.ref S) >>= _) _ _ s;refine lj (iP hS rfl ?_)
  show wpAny _ A.in1 (tryCatch (pyNext (.ref it)) _ >>= _) _ _ s;refine lj (iN (W.item (j+1) s _ _ lt hst λv g tk vP st1 kk=>?_))
  have S1:=kk S _ sw hS
  have kp1:Kept h0 g N:=λb o hb e=>kk b o (low hb).1 (kp b o hb e)
  show wpAny _ A.in1 (tryCatch (holding [v,v] (richCompare .Lt v best >>= _)) _ >>= _) _ _ _
  refine lj (iN (ju (lj (C (j+1) (argBest bt j) v best _ _ _ kp1 vP hV (lj (ju (eI (lj (kL (k9 ?_))))))))))
  cases hb:bt (j+1) (argBest bt j) with
  | true =>
   simp only[if_true];refine lj (gI S1 rfl (lj (kL ?_)));rw[nm]
   refine k9 ⟨jA gC _,ih (j+1) _ v _ ⋯ lt (W.frame _ _ _ st1 λb bf o e=>(bQ _ _ (λh:S=b=>sf (by rw[h];exact bf))).trans e) (by simp only[argBest,hb,if_true];exact vP)
    (λb o l e=>(bQ _ _ (mq (low l).2)).trans (kp1 b o l e)) (cx _ S1 rfl) λv' g' tk' p' k'=>?_⟩
   exact hR v' g' tk' p' λb o c1 c2 e=>k' b o c1 c2 ((bQ _ _ (mq c2)).trans (kk b o c1 e))
  | false =>
   simp only[eD,if_false];refine lj (kL ?_);rw[nm]
   refine k9 ⟨jA gC _,ih (j+1) _ best c ⋯ lt st1 (by simp only[argBest,hb,eD,if_false];exact hV) kp1 S1 λv' g' tk' p' k'=>?_⟩
   exact hR v' g' tk' p' λb o c1 c2 e=>k' b o c1 c2 (kk b o c1 e)
theorem yn (W:Walks P w A.in1 it fp wr n V St)(C:Ev P w A.in1 V bt h0 N)(sf:S ∉ fp)(nw:∀ b∈wr,N<=b)(nS:N<=S)(hn:0<n){s:mD}{c:Nat}(hst:St 0 s.heap)(kp:Kept h0 s.heap N)
  (hS:s.heap.get? S=some { cls:=.type "list",dict:=none,data:=.seq #[] c,slots:=#[] })
  (hR:∀ v h' tk,V (argBest bt (n-1)) v->(∀ b o,b ∉ wr->b≠S->s.heap.get? b=some o->h'.get? b=some o)->R (.ok (.ret v)) { s with heap:=h',toks:=tk }):codeAny (model P w) A (.builtin "min.loop" ⟨[.ref it,.none,.ref S],[]⟩) R s:=by
 have sw:S ∉ wr:=λh=>sf (W.sub _ h)
 have nm:(toString "min"++toString ".loop":String) = "min.loop":=by decide
 have low:∀ {b:m4},b<N->b ∉ wr/\b≠S:=λ{b} hb=>⟨λz=>absurd (nw b z) (lJ.mpr hb),λz=>absurd nS (by rw[<- z];exact lJ.mpr hb)⟩
 refine gS gE ?_;rw[cY gC _]
 show wpAny _ A.in1 (seqItems? (.ref S) >>= _) _ _ s;refine lj (iP hS rfl ?_)
 show wpAny _ A.in1 (tryCatch (pyNext (.ref it)) _ >>= _) _ _ s;refine lj (iN (W.item 0 s _ _ hn hst λv g tk vP st1 kk=>?_))
 have S1:=kk S _ sw hS
 show wpAny _ A.in1 (updateSeq S (λ_=>#[v,v]) >>= _) _ _ _;refine lj (gI S1 rfl ?_);rw[nm]
 refine k9 ⟨jA gC _,zG W C sf nw nS _ 0 _ v _ rfl hn (W.frame _ _ _ st1 λb bf o e=>(bQ _ _ (λh:S=b=>sf (by rw[h];exact bf))).trans e) vP
  (λb o l e=>(bQ _ _ (mq (low l).2)).trans (kk b o (low l).1 (kp b o l e))) (cx _ S1 rfl) λv' g' tk' p' k'=>?_⟩
 exact hR v' g' tk' p' λb o c1 c2 e=>k' b o c1 c2 ((bQ _ _ (mq c2)).trans (kk b o c1 e))
end
section
variable {P:mm}{w:mL}{A:mK}{E:mM->mD->Prop}{s:mD}
theorem vh {l:m4}{xs:Array mM}{bt:Nat->Nat->Bool}{Q:mM->mD->Prop}(hh:A.in1.handled=none)(hl:s.heap.IsList l xs)(hn:0<xs.size)(C:Ev P w A.in1 (λi v=>xs[i]?=some v) bt s.heap s.heap.objs.size)
  (K:∀ v h' tk,xs[argBest bt (xs.size-1)]?=some v->(∀ b o,s.heap.get? b=some o->h'.get? b=some o)->Q v { s with heap:=h',toks:=tk }):wpAny (model P w) A (call (.builtin "min") [.ref l]) Q E s:=by
 have nm:(toString "min"++toString ".loop":String) = "min.loop":=by decide
 have ll:l<s.heap.objs.size:=by let(_,e,_):=hl;exact kH e
 refine call_function_tree F.kind_min F.plain_min F.entry_min (F.args_min1 _) ?_
 show wpAny _ A.in1 (au "min" ["key","default"] 0 ⟨[],[]⟩ >>= _) _ _ s
 refine lj (kK (show au "min" ["key","default"] 0 ⟨[],[]⟩=pure [none,none] from rfl) (lj (k9 (lj (eN hl ?_)))))
 have W:=lA (prog:=P) (w:=w) hh s.heap.objs.size l (kq ll) xs
 refine lj (eP ?_)
 rw[nm]
 have z1:(s.heap.push { cls:=.type "list_iterator",data:=.fields #[.ref l,.int 0 0] }).objs.size=s.heap.objs.size+1:=jn ..
 refine k9 ⟨jA gC _,yn (S:=(s.heap.push { cls:=.type "list_iterator",data:=.fields #[.ref l,.int 0 0] }).objs.size) W C ?_ ?_ ?_ hn ⟨⟨_,bR _ (dj _ rfl),rfl,rfl⟩,(hl.push _).push _⟩
  (λb o hb e=>bR _ (bR _ e)) (dj _ rfl) λv h' tk hv hk=>?_⟩
 ·rw[z1];intro z;simp only[jP,gh,or_false] at z;rcases z with z|z
  ·exact absurd z (ku (f8 _))
  ·exact absurd z (ku (fg ll))
 ·intro b hb;simp at hb;rw[hb];exact kT _
 ·rw[z1];exact kS _
 ·refine K v h' tk hv λb o e=>hk b o (by simp;exact kq (kH e)) ?_ (bR _ (bR _ e))
  rw[z1];exact kq (fg (kH e))
end
end L2
namespace L2
open PySem PySem.Spec PyProof.Rows
def qN (cells:List (Str×m4)):List (Str×me)->List (Str×m4)->List (Str×m4)
 | [],Z8=>Z8
 | (n,k) :: r,Z8=>if (k == NameKind.free)=true then qN cells r ((n,(cells.lookup n).getD 0) :: Z8) else qN cells r Z8
theorem yS {env:Env}:∀ (names:List (Str×me))(Z8:List (Str×m4)),(∀ p∈names,p.2=.free->∃ c,env.cells.lookup p.1=some c) ->
  (forIn names Z8 λ(x:Str×me)(cs:List (Str×m4))=>if (x.2 == NameKind.free)=true then cellOf env x.1 >>= λc=>pure (ForInStep.yield ((x.1,c) :: cs)) else pure (ForInStep.yield cs):Sem (List (Str×m4)))=pure (qN env.cells names Z8)
 | [],Z8,_=>rfl
 | (n,k) :: r,Z8,h=>by
  have ih:=yS (env:=env) r
  rw[iA]
  unfold qN
  by_cases hk:(k == NameKind.free)=true
  ·let(c,hc):=h (n,k) dX (by simpa using hk)
   have hcell:cellOf env n=pure c:=by
    have hc':env.cells.lookup n=some c:=hc
    unfold cellOf;rw[hc']
   have hc':env.cells.lookup n=some c:=hc
   simp only[hk,if_true,hcell,hc',fV,pure_bind]
   exact ih _ λp hp=>h p (cM _ hp)
  ·simp only[hk,if_false,pure_bind,eD]
   exact ih _ λp hp=>h p (cM _ hp)
theorem sg {scope:mN}{env:Env}(h:∀ p∈scope.names,p.2=.free->∃ c,env.cells.lookup p.1=some c):closureFor scope env=pure (qN env.cells scope.names []):=by
 have q:=yS (env:=env) scope.names [] h
 unfold closureFor
 first
  | exact (by rw[q];rfl)
  | (simp only[bind_pure];exact q)
theorem rn {cells:List (Str×m4)}{x:Str}{c:m4}:∀ (names:List (Str×me))(Z8:List (Str×m4)),(∀ p∈names,p.2=.free->∃ c,cells.lookup p.1=some c)->(∀ y d,Z8.lookup y=some d->cells.lookup y=some d) ->
  (qN cells names Z8).lookup x=some c->cells.lookup x=some c
 | [],Z8,_,ha,h=>ha x c h
 | (n,k) :: r,Z8,hn,ha,h=>by
  unfold qN at h
  split at h
  ·rename_i hk
   refine rn r _ (λp hp=>hn p (cM _ hp)) (λy d hy=>?_) h
   rw[gj] at hy
   let(c',hc'):=hn (n,k) dX (by simpa using hk)
   have hc'':cells.lookup n=some c':=hc'
   split at hy
   ·rename_i hyn
    have e:y=n:=by simpa using hyn
    subst e
    rw[hc''] at hy ⊢
    exact hy
   ·exact ha y d hy
  ·exact rn r _ (λp hp=>hn p (cM _ hp)) ha h
theorem u9 {cells:List (Str×m4)}{x:Str}:∀ (names:List (Str×me))(Z8:List (Str×m4)),((x,NameKind.free)∈names ∨ ∃ c,Z8.lookup x=some c)->∃ c,(qN cells names Z8).lookup x=some c
 | [],Z8,h=>by
  rcases h with h|h
  ·simp at h
  ·exact h
 | (n,k) :: r,Z8,h=>by
  unfold qN
  split
  ·refine u9 r _ ?_
   by_cases hx:x=n
   ·subst hx
    exact .inr ⟨(cells.lookup x).getD 0,by rw[gj];simp⟩
   ·rcases h with h|⟨c,h⟩
    ·rcases jP.mp h with h|h
     ·cases h;exact absurd rfl hx
     ·exact .inl h
    ·refine .inr ⟨c,?_⟩
     rw[gj]
     have:(x == n)=false:=by simpa using hx
     rw[this]
     exact h
  ·rename_i hk
   refine u9 r _ ?_
   rcases h with h|h
   ·rcases jP.mp h with h|h
    ·cases h;simp at hk
    ·exact .inl h
   ·exact .inr h
theorem qB {env : Env} {x : Str} : ∀ {names : List (Str × me)},
    ((names.map λ(n,k)=>if (k == NameKind.free && env.scope.kind == .function && env.kindOf n == some .cell) then (n,NameKind.cell) else (n,k)).lookup x=some .cell ∨
     (names.map λ(n,k)=>if (k == NameKind.free && env.scope.kind == .function && env.kindOf n == some .cell) then (n,NameKind.cell) else (n,k)).lookup x=some .free)->names.lookup x=some .cell ∨ names.lookup x=some .free
  | [],h=>by rcases h with h|h<;>simp at h
  | (n,k) :: r,h=>by
    have ih:=@qB env x r
    rw[jS] at h
    rw[gj]
    by_cases hk:(k == NameKind.free && env.scope.kind == .function && env.kindOf n == some .cell)=true
    · simp only[hk,if_true] at h
      cases hx:x == n with
      | true =>
        have : k = .free := by simp only [gG] at hk; simpa using hk.1.1
        exact .inr (by rw [this])
      | false =>
        simp only [gj, hx] at h
        exact ih h
    · simp only[hk,if_false,eD] at h
      cases hx:x == n with
      | true=>simpa only[gj,hx] using h
      | false =>
        simp only [gj, hx] at h
        exact ih h
theorem oB:∀ (names:List (Str×me)) (b:Nat)(Z8:List (Str×m4)),cellsFrom b names Z8=cellsFrom b names []++Z8
 | [],_,_=>rfl
 | (n,k) :: r,b,Z8=>by
  unfold cellsFrom
  split
  ·rw[oB r _ ((n,b) :: Z8),oB r _ [(n,b)],fB];rfl
  ·exact oB r b Z8
theorem qG:∀ (names:List (Str×me)) (b:Nat){x:Str}{c:m4},(x,c)∈cellsFrom b names []->(x,NameKind.cell)∈names
 | [],_,_,_,h=>by simp[cellsFrom] at h
 | (n,k) :: r,b,x,c,h=>by
  unfold cellsFrom at h
  split at h
  ·rename_i hk
   rw[oB] at h
   rcases iq.mp h with h|h
   ·exact cM _ (qG r _ h)
   ·simp at h
    have:k=.cell:=by simpa using hk
    rw[h.1,this];exact dX
  ·exact cM _ (qG r _ h)
theorem uF {x:Str}{c:m4}:∀ {l l':List (Str×m4)},(l++l').lookup x=some c->l.lookup x=some c ∨ (l.lookup x=none/\l'.lookup x=some c)
 | [],_,h=>.inr ⟨rfl,h⟩
 | (n,d) :: r,l',h=>by
  rw[gz,gj] at h
  rw[gj]
  cases hx:x == n with
  | true=>rw[hx] at h;exact .inl h
  | false=>rw[hx] at h;exact uF h
theorem AB {x:Str}:∀ {l l':List (Str×m4)},((∃ c,l.lookup x=some c) ∨ ∃ c,l'.lookup x=some c)->∃ c,(l++l').lookup x=some c
 | [],_,h=>by
  rcases h with⟨c,h⟩|h
  ·cases h
  ·exact h
 | (n,d) :: r,l',h=>by
  rw[gz,gj]
  cases hx:x == n with
  | true=>exact⟨d,rfl⟩
  | false =>
   refine AB ?_
   rcases h with⟨c,h⟩|h
   ·rw[gj,hx] at h;exact .inl ⟨c,h⟩
   ·exact .inr h
theorem sE {M:mP}{A:mK}{E:mM->mD->Prop}{s:mD}{scope:mN}{globals:m4}{cl:List (Str×m4)}{qual:Str}{env:Env}{Q:Env->mD->Prop}
  (hQ:∀ h4:mY,h4.Ns s.heap.objs.size (λ_=>none)->(∀ b o,s.heap.get? b=some o->h4.get? b=some o)->CellsOk h4 (s.heap.objs.size+1) (cellsFrom (s.heap.objs.size+1) scope.names []) ->
   Q (newEnv scope s.heap.objs.size globals (cellsFrom (s.heap.objs.size+1) scope.names cl) qual none .none (some env) builtinsNs) { s with heap:=h4,toks:=s.toks+([]:List (Str×mM)).length }) :
  wpAny M A (newFunctionEnv scope globals cl [] qual none .none (some env)) Q E s:=by
 simp only[newFunctionEnv,dJ,if_true]
 refine lj (wpAny_alloc ?_)
 refine lj (wpAny_layCells _ (λname kind cells=>by cases hkc:kind == NameKind.cell<;>simp[hkc]) _ _ _ _ ?_)
 have ok:=cellsFrom_ok scope.names (s.heap.push { cls:=.type "dict",data:=.dict #[] }) (s.heap.objs.size+1) [] ⟨λ_ _ hm=>(nomatch hm),List.Pairwise.nil⟩ (by rw[jn];exact kT _)
 rw[jn] at ok
 rw[show ({ s with heap:=s.heap.push { cls:=.type "dict",data:=.dict #[] } }:mD).heap.objs.size=s.heap.objs.size+1 from jn ..]
 simp only[ji]
 exact lj (k9 (k9 (hQ _ ((Heap.Ns.new s.heap (.type "dict")).keeps (gP _ _)) (λb o e=>gP _ _ b o (bR _ e)) ok)))
def F2 (x:Str):Str:=ke "#"++x
def sF (own:List Str)(x:Str):Str:=if own.contains x then F2 x else x
def pH (X:Cx)(scope:mN)(own:List Str)(fp:List m4)(C:m4)(s:mD)(H:Hp):Cx :=
 { X with N:=X.N.map (sF own)++own,s₀:=s,H₀:=H,env:=compEnvC scope (cellsFrom (C+1) scope.names (qN X.env.cells scope.names [])) C X.env,outer:=X.stack,stack:=X.stack,ex:=fp,fn:=λx=>scope.names.lookup x == some .cell,pn:=[],xe:=λ_ _=>False }
structure CScope (X:Cx)(scope:mN)(own:List Str):Prop where
 kind:scope.kind=.function
 nocell:∀ p∈scope.names,p.2=.cell->scope.names.lookup p.1=some .cell
 names:∀ p∈scope.names,p.2=.local->scope.names.lookup p.1=some .local
 free:∀ p∈scope.names,p.2=.free->X.env.kindOf p.1=some .cell ∨ X.env.kindOf p.1=some .free
 apart:∀ x∈X.N,own.contains x=false->scope.names.lookup x≠some .local/\scope.names.lookup x≠some .cell
 hid:∀ x∈X.N,own.contains x=true->scope.names.lookup (F2 x)=none
section
variable {X:Cx}
theorem uD {names:List (Str×me)}{x:Str}{k:me}(h:names.lookup x=some k):(x,k)∈names:=c7 h
theorem rO {env:Env}{x:Str}:∀ {names:List (Str×me)},
  (names.map λ(n,k)=>if (k == NameKind.free && env.scope.kind == .function && env.kindOf n == some .cell) then (n,NameKind.cell) else (n,k)).lookup x=some .local->names.lookup x=some .local
 | [],h=>by simp at h
 | (n,k) :: r,h=>by
  have ih:=@rO env x r
  rw[jS] at h
  rw[gj]
  by_cases hk:(k == NameKind.free && env.scope.kind == .function && env.kindOf n == some .cell)=true
  ·simp only[hk,if_true] at h
   cases hx:x == n with
   | true=>simp[gj,hx] at h
   | false =>
    simp only[gj,hx] at h
    exact ih h
  ·simp only[hk,if_false,eD] at h
   cases hx:x == n with
   | true=>simpa[gj,hx] using h
   | false =>
    simp only[gj,hx] at h
    exact ih h
theorem wP {env:Env}{scope:mN}{x:Str}(h:scope.names.lookup x=none):(relabel scope env).names.lookup x=none:=by
 unfold relabel
 simp only
 generalize scope.names=l at h
 induction l with
 | nil=>rfl
 | cons p r ih =>
  let(n,k):=p
  rw[gj] at h
  cases e:(x == n) with
  | true=>rw[e] at h;cases h
  | false =>
   rw[e] at h
   rw[jS]
   split
   ·rw[gj,e];exact ih h
   ·rw[gj,e];exact ih h
theorem yq {scope:mN}{own:List Str}{fp:List m4}{Z9:List (m4×Obj)}{σ:St}{H:Hp}{s:mD}{h4:mY}{t4:Nat}(I:Inv X Z9 σ H s)(SC:CScope X scope own)(hc:X.calm=true)
  (hf:∀ b∈fp,rM X Z9 H b)(hfo:∀ b∈fp,∃ o,s.heap.get? b=some o)
  (hns:h4.Ns s.heap.objs.size (λ_=>none))(hk:∀ b o,s.heap.get? b=some o->h4.get? b=some o)(ok:CellsOk h4 (s.heap.objs.size+1) (cellsFrom (s.heap.objs.size+1) scope.names [])) :
  Inv (pH X scope own fp s.heap.objs.size s H) [] (σ++jf own.length none) H { s with heap:=h4,toks:=t4 }:=by
 have fr:∀ p∈scope.names,p.2=.free->∃ c,X.env.cells.lookup p.1=some c:=λp hp hq=>I.ok.has p.1 (SC.free p hp hq)
 have cl0:∀ {x:Str}{c:m4},(qN X.env.cells scope.names []).lookup x=some c->X.env.cells.lookup x=some c:=λh=>rn scope.names [] fr (λy d hy=>by simp at hy) h
 have cl:∀ {x:Str}{c:m4},(cellsFrom (s.heap.objs.size+1) scope.names (qN X.env.cells scope.names [])).lookup x=some c->((x,c)∈cellsFrom (s.heap.objs.size+1) scope.names []/\s.heap.objs.size+1<=c) ∨ X.env.cells.lookup x=some c:=λh=>by
  rw[oB] at h
  rcases uF h with z|z
  ·exact .inl ⟨c7 z,(ok.empty _ _ (c7 z)).2⟩
  ·exact .inr (cl0 z.2)
 have hasC:∀ {x:Str},(scope.names.lookup x=some .cell ∨ scope.names.lookup x=some .free)->∃ c,(cellsFrom (s.heap.objs.size+1) scope.names (qN X.env.cells scope.names [])).lookup x=some c:=λ{x} h=>by
  rw[oB]
  refine AB ?_
  rcases h with h|h
  ·exact .inl (aX.mp (bG _ _ _ (.inl h)))
  ·exact .inr (u9 scope.names [] (.inl (uD h)))
 have clt:∀ {x:Str}{c:m4},X.env.cells.lookup x=some c->c<s.heap.objs.size:=λh=>by let(v,q):=I.cell _ _ h;exact q.lt
 refine⟨⟨I.ok.mod,SC.kind,I.ok.glob,I.ok.blt,kT _,λx y c h1 h2=>?_,λx hx=>?_,λx c hf' h=>?_,λ_=>I.ok.hd hc,I.ok.frames,.inl rfl,λb hb=>?_,
   λb o e=>I.bs b o e,kA I.ok.bsz I.sz,λb o e hb=>?_,λb hb hz=>?_,I.stack,I.stkFree⟩,
  rfl,I.bare,Un.kept hk,⟨_,hns,λi x v e1 e2 e3=>?_⟩,λx c h=>?_,I.fresh,λx c h=>(cl h).elim (λz=>I.hok.fresh ⋯) (I.freeC x c),λp hp=>absurd (show p∈([]:List (m4×Obj)) from hp) (by simp),I.hok.kept hk,?_⟩
 ·rcases cl h1 with z1|z1<;>rcases cl h2 with z2|z2
  ·exact name_of_addr ok.apart z1.1 z2.1
  ·exact absurd (clt z2) (lI.mpr (fh z1.2))
  ·exact absurd (clt z1) (lI.mpr (fh z2.2))
  ·exact I.ok.inj x y c z1 z2
 ·have hx:(relabel scope X.env).names.lookup x=some .cell ∨ (relabel scope X.env).names.lookup x=some .free:=hx
  exact hasC (qB hx)
 ·have hf':(scope.names.lookup x == some .cell)=true:=hf'
  have h:(cellsFrom (s.heap.objs.size+1) scope.names (qN X.env.cells scope.names [])).lookup x=some c:=h
  let(c',hc'):=aX.mp (bG scope.names (s.heap.objs.size+1) [] (.inl (by simpa using hf')))
  rw[oB] at h
  rcases uF h with z|z
  ·have:=(ok.empty _ _ (c7 z)).2
   show s.heap.objs.size<=c
   lia
  ·rw[hc'] at z;cases z.1
 ·have hb:b∈fp:=hb
  let(o,ho):=hfo b hb
  exact⟨kq (kH ho),λx c h=>(cl h).elim (λz e=>absurd (e ▸ kH ho:c<s.heap.objs.size) (lI.mpr (fh z.2))) ((hf b hb).2.2.2.2.1 x c)⟩
 ·have hb:b∈fp:=hb
  have e:X.base.get? b=some o:=e
  rcases (hf b hb).2.2.2.1 with z|z
  ·exact I.ok.noex b o e z
  ·exact absurd (dN (kH e) (kA I.ok.bsz z)) (jK _)
 ·have hb:b∈fp:=hb
  have hz:b∈xG X.stack:=hz
  rcases jP.mp (I.stkSub b hz) with z|z
  ·exact (hf b hb).2.1 z
  ·exact (hf b hb).2.2.1 z
 ·have e1:(X.N.map (sF own)++own)[i]?=some x:=e1
  have e3:Kp (relabel scope X.env) x:=e3
  have hi:i<σ.length:=by
   by_cases hi:i<σ.length
   ·exact hi
   ·rw[aB ⋯,bu] at e2
    split at e2<;>cases e2
  rw[aP hi] at e2
  rw[aP (by rw[iz,<- I.len];exact hi),fx] at e1
  let(y,e1,ey):=bL.mp e1
  have hny:own.contains y=false:=by
   cases hy:own.contains y with
   | false=>rfl
   | true =>
    exfalso
    have hh:=SC.hid y (cK e1) hy
    have ex:x=F2 y:=by rw[<- ey];unfold sF;rw[if_pos hy]
    rw[<- ex] at hh
    have e4:(relabel scope X.env).names.lookup x=none:=wP hh
    rcases e3 with z|z|z<;>(rw[e4] at z;cases z)
  have ex:x=y:=by rw[<- ey];unfold sF;rw[if_neg (by rw[hny];exact eB)]
  rw[<- ex] at e1 hny
  have hnl:(relabel scope X.env).names.lookup x≠some .local:=λz=>(SC.apart x (cK e1) hny).1 (rO z)
  have hv:(relabel scope X.env).names.lookup x=some .cell ∨ (relabel scope X.env).names.lookup x=some .free:=by
   rcases e3 with z|z|z
   ·exact absurd z hnl
   ·exact .inl z
   ·exact .inr z
  have hfr:scope.names.lookup x=some .free:=(qB hv).resolve_left (SC.apart x (cK e1) hny).2
  have hm:=uD hfr
  have hkx:=SC.free (x,.free) hm rfl
  let(m,hn,hl):=I.loc
  have hkx':X.env.scope.names.lookup x=some .cell ∨ X.env.scope.names.lookup x=some .free:=hkx
  let(u,r,l):=hl i x v e1 e2 (hkx'.elim (λz=>.inr (.inl z)) λz=>.inr (.inr z))
  refine⟨u,r,.inr ⟨hv,?_⟩⟩
  let(c,hcl):=hasC (.inr hfr)
  refine⟨c,hcl,?_⟩
  rcases l with⟨z,_⟩|⟨z,c',hc',q⟩
  ·rcases hkx with y|y<;>(rw[z] at y;cases y)
  ·rcases cl hcl with y|y
   ·have:=SC.nocell _ (qG _ _ y.1) rfl
    rw[hfr] at this;cases this
   ·rw[hc'] at y;cases y
    let(o,ho,hd):=q
    exact⟨o,hk _ _ ho,hd⟩
 ·rcases cl h with z|z
  ·exact⟨_,(ok.empty _ _ z.1).1⟩
  let(v,o,ho,hd):=I.cell x c z
  exact⟨v,o,hk _ _ ho,hd⟩
 ·show (σ++jf own.length none).length=(X.N.map (sF own)++own).length
  rw[dY,dY,iz,cm,I.len]
end
def wI (Z4:List Expr)(env:Env):Sem Bool :=
 forIn Z4 true λc r=>if r=true then do let ok <- isTrue c env (eval c env);pure (ForInStep.yield ok) else pure (ForInStep.yield r)
def PTs (X:Cx)(Z4:List Expr)(t:TT):Prop :=
 ∀ (Z9:List (m4×Obj))(s:mD)(σ:St)(H:Hp)(Q:Bool->Hp->Prop),Inv X Z9 σ H s->t σ H Q->wpAny (model X.prog X.w) X.A (wI Z4 X.env) (TP X Z9 σ Q) X.xe s
theorem tD {M:mP}{A:mK}{E:mM->mD->Prop}{env:Env}{Q:Bool->mD->Prop}{s:mD}(h:Q false s):∀ Z4:List Expr,
  wpAny M A (forIn Z4 false λc r=>if r=true then do let ok <- isTrue c env (eval c env);pure (ForInStep.yield ok) else pure (ForInStep.yield r)) Q E s
 | []=>k9 h
 | c :: r=>by
  rw[iA]
  simp only[eD,if_false]
  exact lj (k9 (tD h r))
section
variable {X:Cx}
def Ky:TT:=λ_ H Q=>Q true H
theorem Ao:PTs X [] Ky:=λ_ _ _ H _ I h=>k9 ⟨H,I,h⟩
theorem C5 {c:Expr}{r:List Expr}{t u:TT}(h1:PT X c t)(h2:PTs X r u):PTs X (c :: r) (λσ H Q=>t σ H λb H1=>if b=true then u σ H1 Q else Q false H1):=by
 intro Z9 s σ H Q I h
 unfold wI
 rw[iA]
 simp only[if_true]
 refine lj (lj (nW (h1 Z9 s σ H _ I h) λb s1 ⟨H1,I1,q1⟩=>k9 ?_))
 cases b with
 | true =>
  rw[if_pos rfl] at q1
  exact h2 Z9 s1 σ H1 Q I1 q1
 | false =>
  rw[if_neg eB] at q1
  exact tD ⟨H1,I1,q1⟩ r
end
section
variable {prog:mm}{w:mL}{A:mK}{R:mE->mD->Prop}{s:mD}
def uf (Z1 Z5:Expr)(Z4:List Expr)(it:mM)(env:Env)(fin:Sem Fin)(c:m3):Sem Fin:=do
 standAt Z5.pos
 match <- pyNext it with
 | none=>pure (.done .next)
 | some v =>
  letOwnedTupleGo Z1 it v
  assign Z1 env v
  let mut ok:=true
  for c in Z4 do
   if ok then ok <- isTrue c env (eval c env)
  if ok then fin else again c
def zS (Z3:Expr)(Z8:mM)(env:Env)(c:m3):Sem Fin:=do
 (do let _ <- call (.builtin "list.append") [Z8,<- eval Z3 env])
 again c
theorem tm {ce:Expr}{dp:Nat}{Z1 Z5:Expr}{Z4:List Expr}{it Z8:mM}{env:Env}{fin:Sem Fin}(ht:compTurn ce dp it Z8 env=uf Z1 Z5 Z4 it env fin (.compLoop ce dp it Z8 env))(I:Nat->mD->Prop)
  (turn:∀ n s,I n s->wpAny (model prog w) A (pyNext it) (λr s1=>match r with
   | none=>R (.ok .next) s1
   | some v=>wpAny (model prog w) A (letOwnedTupleGo Z1 it v) (λ_ s2=>wpAny (model prog w) A (assign Z1 env v) (λ_ s3=>wpAny (model prog w) A (wI Z4 env) (λok s4 =>
     if ok=true then wpAny (model prog w) A fin (λf s6=>f=.again (.compLoop ce dp it Z8 env)/\∃ m,m<n/\I m s6) (λ_ _=>False) s4
     else ∃ m,m<n/\I m s4) (λ_ _=>False) s3) (λ_ _=>False) s2) (λ_ _=>False) s1) (λ_ _=>False) s)
  (n:Nat)(h:I n s)(hA:A.under (.compLoop ce dp it Z8 env)=A:=by rfl)(hd:(model prog w).den (.compLoop ce dp it Z8 env)=(compTurn ce dp it Z8 env).onRaise (λx=>do noteFrame x env;theTreesLotGoes x):=by rfl):codeAny (model prog w) A (.compLoop ce dp it Z8 env) R s:=by
 refine codeAny_loop rfl I (λn s hI=>?_) n h
 rw[hA,hd]
 refine wpAny_noted ?_
 rw[ht]
 unfold uf
 have no:∀ (e:mM)(s':mD),(λ(_:mM)(_:mD)=>False) e s'->notedBy (model prog w) A env (λe s'=>R (.error e) s') e s':=λ_ _ z=>z.elim
 refine lj (jq (lj (lg (turn n s hI) (λr s1 h1=>?_) no)))
 cases r with
 | none=>exact k9 h1
 | some v =>
  refine lj (lg h1 (λ_ s2 h2=>lj (lg h2 (λ_ s3 h3=>lj (lg h3 (λok s4 h4=>?_) no)) no)) no)
  cases ok with
  | true =>
   rw[if_pos rfl] at h4
   simp only[if_true]
   exact lg h4 (λf s6 q1=>by let(e6,h6):=q1;rw[e6];exact⟨rfl,h6⟩) no
  | false =>
   rw[if_neg eB] at h4
   simp only[eD,if_false]
   first
    | exact k9 ⟨rfl,h4⟩
    | exact lj (k9 (k9 ⟨rfl,h4⟩))
end
def Wk (σ σ2:St):Prop:=σ2.length=σ.length/\∀ (j:Nat)(v:V),σ[j]?=some (some v)->σ2[j]?=some (some v)
structure CKind (X:Cx)(ce tg Z5:Expr)(Z4:List Expr)(scope:mN)(mk:Sem mM)(ob:Obj)(o0:m4->HO)(fin:mM->Env->m3->Sem Fin):Prop where
 tn:∀ it Z8 env,compTurn ce 0 it (.ref Z8) env=uf tg Z5 Z4 it env (fin (.ref Z8) env (.compLoop ce 0 it (.ref Z8) env)) (.compLoop ce 0 it (.ref Z8) env)
 un:∀ (A:mK) it Z8 env,A.under (.compLoop ce 0 it (.ref Z8) env)=A
 dn:∀ it Z8 env,(model X.prog X.w).den (.compLoop ce 0 it (.ref Z8) env)=(compTurn ce 0 it (.ref Z8) env).onRaise (λx=>do noteFrame x env;theTreesLotGoes x)
 us:∀ env use,evalThenUse ce env use=(do let _ <- comprehension ce scope env Z5.pos mk false (eval Z5 env) (some use))
 st:∀ {A R s it Z8 env},codeAny (model X.prog X.w) A (.compLoop ce 0 it Z8 env) R s->wpAny (model X.prog X.w) A (pyIter it) (λit' s'=>codeAny (model X.prog X.w) A (.compLoop ce 0 it' Z8 env) R s') (notedBy (model X.prog X.w) A env λx s'=>R (.error x) s') s->codeAny (model X.prog X.w) A (.compStart ce 0 it Z8 env) R s
 nw:∀ {A s}{Q E:mM->mD->Prop},Q (.ref s.heap.objs.size) { s with heap:=s.heap.push ob }->wpAny (model X.prog X.w) A mk Q E s
 ok:∀ {Z9 σ H s},Inv X Z9 σ H s->Inv X Z9 σ (oj H s.heap.objs.size (o0 s.heap.objs.size)) { s with heap:=s.heap.push ob,toks:=s.toks }
 ev:∀ env,eval ce env=comprehension ce scope env Z5.pos mk false (eval Z5 env)
 cl:clausesOf ce=[⟨tg,Z5,Z4,0⟩]
def MB (Y:Cx)(fin:mM->Env->m3->Sem Fin)(em:m4->St->Hp->(Hp->Prop)->Prop):Prop:=∀ Z9 s σ H Z8 c K,Inv Y Z9 σ H s->em Z8 σ H K->wpAny (model Y.prog Y.w) Y.A (fin (.ref Z8) Y.env c) (λf s'=>f=.again c/\∃ H',Inv Y Z9 σ H' s'/\K H') Y.xe s
def wJ (wi:TI)(g:TG)(tt:TT)(em:m4->St->Hp->(Hp->Prop)->Prop)(o0:m4->HO) (own:Nat):TE:=λσ H Q=>wi σ H λJ H1=>∀ Z8,H1 Z8=none->∃ W:Nat->Nat->Hp->Prop,(∃ m,W 0 m (oj H1 Z8 (o0 Z8)))/\∀ i m H,W i m H ->
 (J.stop i H/\Q (.ref Z8) H) ∨ (J.go i H/\∀ x H',J.yld i H x H'->g x (σ++jf own none) H' λσ2 H2=>Wk (σ++jf own none) σ2/\tt σ2 H2 λb H3 =>
  if b=true then em Z8 σ2 H3 λH4=>∃ m',m'<m/\W (i+1) m' H4 else ∃ m',m'<m/\W (i+1) m' H3)
section
variable {X:Cx}{ce Z3 tg Z5:Expr}{Z4:List Expr}{scope:mN}{own:List Str}{pos:Pos}{wi:TI}{g:TG}{tt:TT}{te:TE}{mk:Sem mM}{ob:Obj}{o0:m4->HO}{fin:mM->Env->m3->Sem Fin}{em:m4->St->Hp->(Hp->Prop)->Prop}
theorem wm {Z9:List (m4×Obj)}{σ:St}{H2:Hp}{s2:mD}{Q:VK}{it:m4}{fp:List m4}{tn:Nat->mY->Prop}{J:It}{RR:mM->m4->mE->mD->Prop}
  (hc:X.calm=true)(SC:CScope X scope own)(CK:CKind X ce tg Z5 Z4 scope mk ob o0 fin)
  (Z2:∀ C s H,PG (pH X scope own fp C s H) tg g/\PTs (pH X scope own fp C s H) Z4 tt/\MB (pH X scope own fp C s H) fin em)
  (I2:Inv X Z9 σ H2 s2)(T:Turn X.prog X.w X.K tg J fp it tn)(st2:tn 0 s2.heap)(f2:∀ b∈fp,rM X Z9 H2 b)
  (h:∀ Z8,H2 Z8=none->∃ W:Nat->Nat->Hp->Prop,(∃ m,W 0 m (oj H2 Z8 (o0 Z8)))/\∀ i m H,W i m H ->
   (J.stop i H/\Q (.ref Z8) H) ∨ (J.go i H/\∀ x H',J.yld i H x H'->g x (σ++jf own.length none) H' λσ2 H2=>Wk (σ++jf own.length none) σ2/\tt σ2 H2 λb H3 =>
    if b=true then em Z8 σ2 H3 λH4=>∃ m',m'<m/\W (i+1) m' H4 else ∃ m',m'<m/\W (i+1) m' H3))
  (hRR:∀ Z8 C H' m s',Inv X Z9 σ H' s'->s'.heap.Ns C m->C≠X.env.locals->(∀ x c,X.env.cells.lookup x=some c->c≠C)->s2.heap.objs.size<=C->H' C=none->Q (.ref Z8) H'->RR (.ref Z8) C (.ok .next) s'){E:mM->mD->Prop} :
  wpAny (model X.prog X.w) X.A mk (λZ8 s3=>wpAny (model X.prog X.w) X.A (newFunctionEnv scope X.env.globals (qN X.env.cells scope.names []) [] X.env.qual none .none (some X.env)) (λcenv s4 =>
   codeAny (model X.prog X.w) X.A (.compStart ce 0 (.ref it) Z8 { cenv with scope:=relabel scope X.env }) (RR Z8 cenv.locals) s4) E s3) E s2:=by
 have hacc:=I2.fresh
 have I3:Inv X Z9 σ (oj H2 s2.heap.objs.size (o0 s2.heap.objs.size)) { s2 with heap:=s2.heap.push ob,toks:=s2.toks }:=CK.ok I2
 refine CK.nw ?_
 let(W,(m0,w0),turn):=h _ hacc
 generalize hs3:({ s2 with heap:=s2.heap.push ob,toks:=s2.toks }:mD)=s3 at I3
 have keep23:∀ b o,s2.heap.get? b=some o->s3.heap.get? b=some o:=λb o e=>by rw[<- hs3];exact bR _ e
 have hf3:∀ b∈fp,rM X Z9 (oj H2 s2.heap.objs.size (o0 s2.heap.objs.size)) b:=λb hb=>by
  let(o,ho,_):=T.obj _ _ st2 b hb
  exact⟨by rw[nv (kq (kH ho))];exact (f2 b hb).1,(f2 b hb).2⟩
 have st3:tn 0 s3.heap:=T.keep _ _ _ st2 λb hb o e=>keep23 b o e
 refine sE λh4 hns' keep34 ok34=>?_
 have I4:=yq (t4:=s3.toks+([]:List (Str×mM)).length) I3 SC hc hf3 (λb hb=>by let(o,ho,_):=T.obj _ _ st3 b hb;exact⟨o,ho⟩) hns' keep34 ok34
 have st4:tn 0 h4:=T.keep _ _ _ st3 λb hb o e=>keep34 b o e
 let(hg,ht,he):=Z2 s3.heap.objs.size s3 (oj H2 s2.heap.objs.size (o0 s2.heap.objs.size))
 have e5:(pH X scope own fp s3.heap.objs.size s3 (oj H2 s2.heap.objs.size (o0 s2.heap.objs.size))).env=compEnvC scope (cellsFrom (s3.heap.objs.size+1) scope.names (qN X.env.cells scope.names [])) s3.heap.objs.size X.env:=rfl
 generalize hY:pH X scope own fp s3.heap.objs.size s3 (oj H2 s2.heap.objs.size (o0 s2.heap.objs.size))=Y at hg ht he I4 e5
 have fpY:∀ {H':Hp},(∀ b∈fp,H' b=none)->∀ b∈fp,rM Y [] H' b:=λhn b hb=>by
  let(o,ho,_):=T.obj _ _ st3 b hb
  refine⟨hn b hb,?_,?_,?_,?_,?_⟩
  ·rw[<- hY];exact kq (kH ho)
  ·have:=I4.ok.exfs b (by rw[<- hY];exact hb)
   exact this
  ·exact .inl (by rw[<- hY];exact hb)
  ·exact λx c h=>(I4.ok.exf b (by rw[<- hY];exact hb)).2 x c h
  ·intro p hp;rw[<- hY] at hp;exact absurd (show p∈([]:List (m4×Obj)) from hp) (by simp)
 have hYp:Y.prog=X.prog/\Y.w=X.w/\Y.K=X.K/\Y.calm=true/\Y.A=X.A/\Y.xe=(λ_ _=>False)/\Y.s₀=s3/\Y.H₀=oj H2 s2.heap.objs.size (o0 s2.heap.objs.size)/\Y.outer=X.stack/\Y.ex=fp:=by rw[<- hY];exact⟨rfl,rfl,rfl,hc,rfl,rfl,rfl,rfl,rfl,rfl⟩
 let(y1,y2,y3,y4,y5,y6,y7,y8,y9,y10):=hYp
 have loop:∀ s5:mD,s5 = { s3 with heap:=h4,toks:=s3.toks+([]:List (Str×mM)).length } ->
   codeAny (model X.prog X.w) X.A (.compLoop ce 0 (.ref it) (.ref s2.heap.objs.size) Y.env) (RR (.ref s2.heap.objs.size) s3.heap.objs.size) s5:=by
  rintro s5 rfl
  refine tm (hA:=CK.un ..) (hd:=CK.dn ..) (CK.tn _ _ _) (λn s'=>∃ i H',Inv Y [] (σ++jf own.length none) H' s'/\tn i s'.heap/\(∀ b∈fp,H' b=none)/\W i n H') ?_ m0 ⟨0,_,I4,st4,λb hb=>(hf3 b hb).1,w0⟩
  rintro n s6 ⟨i,H6,I6,st6,fr6,w6⟩
  rcases turn i n H6 w6 with⟨stop,q⟩|⟨go,step⟩
  ·have d:=T.done Y y1 y2 y3 y4 i [] s6 _ H6 (λ_ _=>False) I6 (fpY fr6) st6 stop
   rw[y5] at d
   refine nW d λr s7 q1=>?_;let(hr,I7):=q1
   subst hr
   let(m,hn,_):=I7.loc
   have hL:Y.env.locals=s3.heap.objs.size:=by rw[e5];rfl
   rw[hL] at hn
   have b7:=I7.base
   rw[y7,y8,y10] at b7
   have b7':Un (xG X.stack) fp (oj H2 s2.heap.objs.size (o0 s2.heap.objs.size)) H6 s3.heap s7.heap:=by
    have z:Y.fs=xG X.stack:=by show xG Y.outer=_;rw[y9]
    rw[z] at b7
    exact b7
   have hok7:=I7.hok
   rw[y1,y2] at hok7
   have os7:=I7.os
   rw[y7] at os7
   have I8:Inv X Z9 σ H6 s7:=I3.call' os7 b7' hok7 I7.bare λb hb=>⟨(hf3 b hb).2.2.2.1,(hf3 b hb).2.1,(hf3 b hb).2.2.2.2.1,(hf3 b hb).2.2.2.2.2⟩
   have hfree:=I7.free
   rw[hL] at hfree
   refine hRR _ _ H6 m s7 I8 hn (ku I3.lt) (λx c h z=>?_) ?_ hfree q
   ·let(v,y):=I3.cell x c h
    exact absurd y.lt (by rw[z];exact jK _)
   ·rw[<- hs3,jn];exact kS _
  ·have d:=T.item Y y1 y2 y3 y4 i [] s6 _ H6 (λ_ _=>False) I6 (fpY fr6) st6 go
   rw[y5] at d
   refine nW d λr s7 q2=>?_;let(u,hr,h7):=q2
   subst hr
   refine nW h7 λ_ s8 q3=>?_;let(x,H8,I8,r8,y8',st8,fr8):=q3
   have I8':=I8.pinned (fpY fr8) (T.obj _ _ st8)
   have pinK:∀ {σ':St}{H':Hp}{s':mD},Inv Y ([]++rX fp s8.heap) σ' H' s'->tn (i+1) s'.heap/\∀ b∈fp,H' b=none:=λ{σ' H' s'} I' =>
    ⟨T.keep _ _ _ st8 λb hb o e=>(I'.pin (b,o) (ck _ (ck _ (oP hb e)))).1,λb hb=>by
     let(o,e,_):=T.obj _ _ st8 b hb
     exact (I'.pin (b,o) (ck _ (ck _ (oP hb e)))).2.1⟩
   have dg:=hg _ s8 _ H8 x u _ I8' r8 (step x H8 y8')
   rw[y1,y2,y5,y6] at dg
   refine nW dg λ_ s9 q4=>?_;let(σ9,H9,I9,wk,q9):=q4
   have dt:=ht _ s9 σ9 H9 _ I9 q9
   rw[y1,y2,y5,y6] at dt
   refine nW dt λok s10 q5=>?_;let(H10,I10,q10):=q5
   cases ok with
   | true =>
    rw[if_pos rfl] at q10 ⊢
    have de:=he _ s10 σ9 H10 s2.heap.objs.size (.compLoop ce 0 (.ref it) (.ref s2.heap.objs.size) Y.env) _ I10 q10
    rw[y1,y2,y5,y6] at de
    refine nW de λf s12 ⟨e12,H12,I12,m',hm,w12⟩=>⟨e12,?_⟩
    let(t12,f12):=pinK I12
    exact⟨m',hm,i+1,_,(I12.unpinned).weak wk.1.symm wk.2,t12,f12,w12⟩
   | false =>
    rw[if_neg eB] at q10 ⊢
    let(m',hm,w10):=q10
    let(t10,f10):=pinK I10
    exact⟨m',hm,i+1,_,(I10.unpinned).weak wk.1.symm wk.2,t10,f10,w10⟩
 rw[e5] at loop
 exact CK.st (loop _ rfl) (T.self _ 0 _ _ _ st4 (loop _ rfl))
theorem xW (hc:X.calm=true)(SC:CScope X scope own)(CK:CKind X.nox ce tg Z5 Z4 scope mk ob o0 fin)(hi:PI X.nox tg Z5 wi)
  (Z2:∀ fp C s H,PG (pH X scope own fp C s H) tg g/\PTs (pH X scope own fp C s H) Z4 tt/\MB (pH X scope own fp C s H) fin em)
  (hs:∀ x,foldedSetIterable Z5 X.env x=pure x:=by intro _;rfl) :
  PE X.nox ce (wJ wi g tt em o0 own.length):=by
 intro Z9 s σ H Q I h
 have fr:∀ p∈scope.names,p.2=.free->∃ c,X.env.cells.lookup p.1=some c:=λp hp hq=>I.ok.has p.1 (SC.free p hp hq)
 rw[CK.ev]
 refine aU (use:=none) CK.cl hs (sg fr) SC.kind SC.names (nW (hi Z9 s σ H _ I h) λv s1 h1=>nW h1 λitv s2 h2=>?_)
 let(it,fp,tn,J,H2,e,I2,T,st2,f2,h2):=h2
 subst e
 refine wm (X:=X.nox) (own:=own) (RR:=λZ8 C=>compPost (model X.prog X.w) X.A (λ_ _=>False) none (EP X.nox Z9 σ Q) Z8 C) hc ⟨SC.kind,SC.nocell,SC.names,SC.free,SC.apart,SC.hid⟩ CK (λC s H=>Z2 fp C s H) I2 T st2 f2 h2 ?_
 intro Z8 C H' m s' I' hn hL hcl hC hH q
 let(f0,f1,f2',f3,f4,f5):=I2.fpOk hC hH
 refine⟨m,hn,λh' hsb=>⟨.ref Z8,H',?_,rfl,q⟩⟩
 exact I'.turned (t':=s'.toks) (λb o hb e=>(hsb.2 b hb).trans e) f0 f1 f3 f4 f5
theorem xS {i:Nat}{x:Str}{px:Pos}{spos:Pos}(hc:X.calm=true)(SC:CScope X scope own)(CK:CKind X.nox ce tg Z5 Z4 scope mk ob o0 fin)(hN:X.N.Nodup)(hx:X.N[i]?=some x)(hl:X.env.scope.names.lookup x=some .local)(hi:PI X.nox tg Z5 wi)
  (Z2:∀ fp C s H,PG (pH X scope own fp C s H) tg g/\PTs (pH X scope own fp C s H) Z4 tt/\MB (pH X scope own fp C s H) fin em)
  (hsw:swapsWith ce (some (.Name x px)) spos.line X.env=pure true)
  (hs:∀ x,foldedSetIterable Z5 X.env x=pure x:=by intro _;rfl) :
  PS X.nox (.Assign [.Name x px] ce spos) (wK (wJ wi g tt em o0 own.length) (qJ i)):=by
 intro Z9 s σ H D I h
 have fr:∀ p∈scope.names,p.2=.free->∃ c,X.env.cells.lookup p.1=some c:=λp hp hq=>I.ok.has p.1 (SC.free p hp hq)
 show wpAny (model X.prog X.w) X.A (exec _ X.env) _ _ s
 rw[exec_Assign_Name_used _ _ _ _ hsw]
 refine lj (jq (lj ?_))
 rw[CK.us]
 refine lj (lg (aU (use:=some (assign (.Name x px) X.env)) (Q:=λ_ s'=>SP X.nox Z9 D .next s') CK.cl hs (sg fr) SC.kind SC.names
  (nW (hi Z9 s σ H _ I h) λv s1 h1=>nW h1 λitv s2 h2=>?_)) (λ_ s' hq=>k9 (k9 hq)) λ_ _ e=>e)
 let(it,fp,tn,J,H2,e,I2,T,st2,f2,h2):=h2
 subst e
 refine wm (X:=X.nox) (own:=own) (Q:=λv H1=>qJ i v σ H1 D.nx) (RR:=λZ8 C=>compPost (model X.prog X.w) X.A (λ_ _=>False) (some (assign (.Name x px) X.env)) (λ_ s'=>SP X.nox Z9 D .next s') Z8 C) hc ⟨SC.kind,SC.nocell,SC.names,SC.free,SC.apart,SC.hid⟩ CK (λC s H=>Z2 fp C s H) I2 T st2 f2 h2 ?_
 intro Z8 C H' m s' I' hn hL hcl hC hH q
 let(f0,f1,f2',f3,f4,f5):=I2.fpOk hC hH
 show wpAny (model X.prog X.w) X.A (assign (.Name x px) X.env (.ref Z8)) _ _ s'
 refine eQ (vH (X:=X.nox) I' hN hx (.inl hl) (v:=.ref Z8) rfl (λs'' I'' hch=>?_) (.inr hl))
 let(a,hsa,ha):=hch
 have hCa:C≠a:=by
  rcases ha with z|z
  ·rw[z];exact hL
  ·exact λy=>hcl x a z y.symm
 refine⟨m,hn.sameBut hsa hCa,λh' hsb=>?_⟩
 exact⟨_,H',I''.turned (t':=s''.toks) (λb o hb e=>(hsb.2 b hb).trans e) f0 f1 f3 f4 f5,q⟩
def P7 (te:TE):m4->St->Hp->(Hp->Prop)->Prop:=λZ8 σ H K=>te σ H λv H4=>∃ ys,H4 Z8=some (.lst ys)/\ys.length<sizeLine/\K (oj H4 Z8 (.lst (ys++[v])))
def CH (wi:TI)(g:TG)(tt:TT)(te:TE) (own:Nat):TE:=wJ wi g tt (P7 te) (λ_=>.lst []) own
theorem Be:CKind X (.ListComp Z3 [⟨tg,Z5,Z4,0⟩] scope pos) tg Z5 Z4 scope (newList []) { cls:=.type "list",data:=.seq ([]:List mM).toArray } (λ_=>.lst []) (zS Z3) :=
 ⟨λ_ _ _=>rfl,λ_ _ _ _=>rfl,λ_ _ _=>rfl,λ_ _=>rfl,codeAny_compStart_list,λq=>eP q,λI=>I.lnew .nil (kR _),λ_=>by rw[eval_ListComp];rfl,rfl⟩
theorem xU {Y:Cx}(he:PE Y Z3 te):MB Y (zS Z3) (P7 te):=by
 intro Z9 s σ H Z8 c K I q
 unfold zS
 refine lj (lj (nW (he _ s σ H _ I q) λy s11 ⟨v11,H11,I11,r11,ys,hys,hz,k⟩=>lj ?_))
 refine nW (vO (X:=Y) _ s11 σ H11 (.ref Z8) [v11] (.ref Z8) [y] (λ_ H'=>H'=oj H11 Z8 (.lst (ys++[v11]))) I11 rfl (.cons r11 .nil) ⟨_,ys,v11,rfl,rfl,hys,hz,rfl⟩) λ_ s12 q2=>?_;let(v12,H12,I12,r12,e12):=q2
 subst e12
 exact k9 (k9 ⟨rfl,_,I12,k⟩)
theorem Au (hc:X.calm=true)(SC:CScope X scope own)(hi:PI X.nox tg Z5 wi)
  (Z2:∀ fp C s H,PG (pH X scope own fp C s H) tg g/\PTs (pH X scope own fp C s H) Z4 tt/\PE (pH X scope own fp C s H) Z3 te)
  (hs:∀ x,foldedSetIterable Z5 X.env x=pure x:=by intro _;rfl) :
  PE X.nox (.ListComp Z3 [⟨tg,Z5,Z4,0⟩] scope pos) (CH wi g tt te own.length) :=
 xW hc SC Be hi (λfp C s H=>let ⟨a,b,c⟩:=Z2 fp C s H;⟨a,b,xU c⟩) hs
theorem zn {i:Nat}{x:Str}{px:Pos}{spos:Pos}(hc:X.calm=true)(SC:CScope X scope own)(hN:X.N.Nodup)(hx:X.N[i]?=some x)(hl:X.env.scope.names.lookup x=some .local)(hi:PI X.nox tg Z5 wi)
  (Z2:∀ fp C s H,PG (pH X scope own fp C s H) tg g/\PTs (pH X scope own fp C s H) Z4 tt/\PE (pH X scope own fp C s H) Z3 te)
  (hsw:swapsWith (.ListComp Z3 [⟨tg,Z5,Z4,0⟩] scope pos) (some (.Name x px)) spos.line X.env=pure true)
  (hs:∀ x,foldedSetIterable Z5 X.env x=pure x:=by intro _;rfl) :
  PS X.nox (.Assign [.Name x px] (.ListComp Z3 [⟨tg,Z5,Z4,0⟩] scope pos) spos) (wK (CH wi g tt te own.length) (qJ i)) :=
 xS hc SC Be hN hx hl hi (λfp C s H=>let ⟨a,b,c⟩:=Z2 fp C s H;⟨a,b,xU c⟩) hsw hs
end
end L2
namespace L2
open PySem PySem.Spec PyProof.Rows
section
variable {X:Cx}{Z9:List (m4×Obj)}{σ:St}{H:Hp}{s:mD}{h':mY}
theorem Inv.turnedNew {t':Nat}{ch:List m4}{p:m4}{o:HO}(I:Inv X Z9 σ H s)(hp:s.heap.objs.size<=p)(k:∀ b ob,b ∉ ch->s.heap.get? b=some ob->h'.get? b=some ob)(hf:∀ b∈ch,rM X Z9 H b)
  (new:ObjOk X.prog X.w (oj H p o) h' p o):Inv X Z9 σ (oj H p o) { s with heap:=h',toks:=t' }:=by
 have hn:H p=none:=I.hok.fresh hp
 have nit:∀ b u,H b=some u->b ∉ ch:=λb u e z=>by rw[(hf b z).1] at e;cases e
 have nep:∀ {b ob},s.heap.get? b=some ob->b≠p:=λe=>kq (dN (kH e) hp)
 refine I.step (g':=s.gens) (d':=s.drawn) (ch:=ch) (λb hb=>⟨(hf b hb).2.2.2.1,(hf b hb).2.1,(hf b hb).2.2.2.2.1,(hf b hb).2.2.2.2.2⟩) (λb ob _ _ hc e _=>k b ob hc e) (λb ob _ _ hc e _=>⟨ob.slots,k b ob hc e⟩)
  (λb ob hc e n=>by rw[nv (nep e)];exact n) (λb ob hc e=>⟨ob,k b ob hc e⟩) (λb xs e=>by rw[nv (oo e hn)];exact e) (λb u xs e=>by rw[nv (oo e hn)];exact e)
  (λb ps e=>⟨#[],by rw[nv (oo e hn),e];simp⟩) (λm hm=>?_) (λb u e=>?_) I.bare
 ·let(ob,es,ep,ho,r):=hm
  exact⟨ob,es,ep,k _ ob (λz=>(hf _ z).2.1 rfl) ho,r⟩
 ·by_cases hb:b=p
  ·subst hb;rw[nD] at e;cases e;exact new
  ·rw[nv hb] at e
   refine (I.hok b u e).stay (λc v hc q=>k c v ?_ q) (λc q=>by rw[nv (oo q hn)];exact q) λc xs q=>by rw[nv (oo q hn)];exact q
   rcases hc with z|z
   ·rw[z];exact nit b u e
   ·exact nit c _ z
theorem Inv.turnedL {t':Nat}{ch:List m4}(I:Inv X Z9 σ H s)(k:∀ b ob,b ∉ ch->s.heap.get? b=some ob->h'.get? b=some ob)(hf:∀ b∈ch,rM X Z9 H b):Inv X Z9 σ H { s with heap:=h',toks:=t' }:=by
 have nit:∀ b u,H b=some u->b ∉ ch:=λb u e z=>by rw[(hf b z).1] at e;cases e
 refine I.step (g':=s.gens) (d':=s.drawn) (ch:=ch) (λb hb=>⟨(hf b hb).2.2.2.1,(hf b hb).2.1,(hf b hb).2.2.2.2.1,(hf b hb).2.2.2.2.2⟩) (λb ob _ _ hc e _=>k b ob hc e) (λb ob _ _ hc e _=>⟨ob.slots,k b ob hc e⟩)
  (λ_ _ _ _ n=>n) (λb ob hc e=>⟨ob,k b ob hc e⟩) (λ_ _ e=>e) (λ_ _ _ e=>e) (λb ps e=>⟨#[],by rw[e];simp⟩) (λm hm=>?_) (λb u e=>?_) I.bare
 ·let(ob,es,ep,ho,r):=hm
  exact⟨ob,es,ep,k _ ob (λz=>(hf _ z).2.1 rfl) ho,r⟩
 ·refine (I.hok b u e).stay (λc v hc q=>k c v ?_ q) (λ_ q=>q) λ_ _ q=>q
  rcases hc with z|z
  ·rw[z];exact nit b u e
  ·exact nit c _ z
end
end L2
namespace L2
open PySem PySem.Spec PyProof.Rows
def SeqB (b:Bool)(h:mY)(l:m4)(xs:Array mM):Prop:=match b with|true=>h.IsList l xs|false=>h.IsTuple l xs
def IterB (b:Bool)(h:mY)(it l:m4) (i:Nat):Prop:=match b with|true=>h.IsListIter it l i|false=>h.IsTupleIter it l i
def tZ (b:Bool):String:=match b with|true=>"list_iterator" | false=>"tuple_iterator"
section
variable {b:Bool}{h h':mY}{it l c:m4}{i:Nat}{xs:Array mM}
theorem SeqB.move (x:SeqB b h l xs)(e:k6 c h h')(n:l≠c):SeqB b h' l xs:=by
 cases b
 ·exact Heap.IsTuple.extBut x e n
 ·exact Heap.IsList.extBut x e n
theorem SeqB.push {o:Obj}(x:SeqB b h l xs):SeqB b (h.push o) l xs:=by
 cases b
 ·exact Heap.IsTuple.push x o
 ·exact Heap.IsList.push x o
theorem SeqB.lt (x:SeqB b h l xs):l<h.objs.size:=by
 cases b<;>(let(_,e,_):=x;exact kH e)
theorem IterB.move (x:IterB b h it l i)(e:k6 c h h')(n:it≠c):IterB b h' it l i:=by
 cases b
 ·exact Heap.IsTupleIter.extBut x e n
 ·exact Heap.IsListIter.extBut x e n
theorem IterB.to (x:IterB b h it l i)(k:∀ o,h.get? it=some o->h'.get? it=some o):IterB b h' it l i:=by
 cases b<;>(let(o,e,r):=x;exact⟨o,k o e,r⟩)
theorem IterB.obj (x:IterB b h it l i):∃ o,h.get? it=some o/\∀ v,o.data≠.cell v:=by
 cases b<;>(let(o,e,_,d):=x;exact⟨o,e,λv z=>by rw[d] at z;cases z⟩)
theorem IterB.lt (x:IterB b h it l i):it<h.objs.size:=let ⟨_,e,_⟩:=x.obj;kH e
end
section
variable {P:mm}{w:mL}{A:mK}{E:mM->mD->Prop}{s:mD}{b:Bool}{it l:m4}{i:Nat}{xs:Array mM}{Q:mM->mD->Prop}
theorem AG (x:SeqB b s.heap l xs)(q:Q (.ref s.heap.objs.size) { s with heap:=s.heap.push { cls:=.type (tZ b),data:=.fields #[.ref l,.int 0 0] } }):wpAny (model P w) A (pyIter (.ref l)) Q E s:=by
 cases b
 ·exact dA x q
 ·exact eN x q
theorem nextT {x:mM}(hi:s.heap.IsTupleIter it l i)(hl:s.heap.IsTuple l xs)(hx:xs[i]?=some x)(q:∀ h',h'.IsTupleIter it l (i+1)->kI it s.heap h'->Q x { s with heap:=h' }):wpAny (model P w) A (aQ (.ref it)) Q E s:=by
 let(oi,ei,ci,di):=id hi
 let(os,es,_,ns,ds):=hl
 unfold aQ
 refine lj (bn (name:=ke "__next__") hi.typeIs aD (fP aD hi.typeIs al ?_ (aj _)))
 show wpAny _ _ (field (.ref it) 0 >>= _) _ _ s;refine lj (kM ei di (x:=.ref l) rfl ?_)
 show wpAny _ _ (if (Value.ref l == Value.none)=true then _ else _) _ _ s;rw[if_neg (show ¬ ((Value.ref l == Value.none)=true) from eB)]
 show wpAny _ _ (field (.ref it) 1 >>= _) _ _ s;refine lj (kM ei di (x:=.int i 0) rfl ?_)
 show wpAny _ _ (seqItems? (.ref l) >>= _) _ _ s;refine lj (iP es ds ?_)
 simp only[fC,hx]
 refine lj (iO ei di (by simp) (k9 ⟨x,rfl,k9 (q _ ⟨_,cx _ ei (b9 (dL di _)),(ff ..).trans ci,?_⟩ (dm ..))⟩))
 rw[dL di];simp[rawInt]
theorem KN (hh:A.handled=none)(hi:s.heap.IsTupleIter it l i)(hl:s.heap.IsTuple l xs)(hx:xs[i]?=none)
  (q:∀ h' e,k6 it s.heap h'->(∃ o,h'.get? e=some o/\o.cls=.type "StopIteration")->E (.ref e) { s with heap:=h' }):wpAny (model P w) A (aQ (.ref it)) Q E s:=by
 let(oi,ei,ci,di):=id hi
 let(os,es,_,ns,ds):=hl
 unfold aQ
 refine lj (bn (name:=ke "__next__") hi.typeIs aD (fP aD hi.typeIs al ?_ (aj _)))
 show wpAny _ _ (field (.ref it) 0 >>= _) _ _ s;refine lj (kM ei di (x:=.ref l) rfl ?_)
 show wpAny _ _ (if (Value.ref l == Value.none)=true then _ else _) _ _ s;rw[if_neg (show ¬ ((Value.ref l == Value.none)=true) from eB)]
 show wpAny _ _ (field (.ref it) 1 >>= _) _ _ s;refine lj (kM ei di (x:=.int i 0) rfl ?_)
 show wpAny _ _ (seqItems? (.ref l) >>= _) _ _ s;refine lj (iP es ds ?_)
 simp only[fC,hx]
 refine lj (k8 (lj (iO ei di (by simp) ?_)));show wpAny _ _ (newExc (.type "StopIteration") [] >>= _) _ _ _
 refine lj ?_;simp only[newExc,newTuple]
 refine lj (eP ?_ (by size_fits));refine lj (m:=firstArgMember _ _) (kK (a:=Value.none) (by first|rfl|(simp only[firstArgMember];rfl)) ?_)
 refine eP ?_ (by size_fits);simp -iota only[raiseNew];refine lj (jv ?_)
 first|rw[show A.in1.handled=none from hh]|rw[hh]
 exact lj (k9 (wpAny_throw (q _ _ (((dm ..).extBut.push _).push _) ⟨_,dj _ rfl,rfl⟩)))
theorem Ax {x:mM}(hi:IterB b s.heap it l i)(hl:SeqB b s.heap l xs)(hx:xs[i]?=some x)(q:∀ h',IterB b h' it l (i+1)->kI it s.heap h'->Q x { s with heap:=h' }):wpAny (model P w) A (aQ (.ref it)) Q E s:=by
 cases b
 ·exact nextT hi hl hx q
 ·exact wpAny_nextOf_list_item hi hl hx q
theorem CJ (hh:A.handled=none)(hi:IterB b s.heap it l i)(hl:SeqB b s.heap l xs)(hx:xs[i]?=none)
  (q:∀ h' e,k6 it s.heap h'->(∃ o,h'.get? e=some o/\o.cls=.type "StopIteration")->E (.ref e) { s with heap:=h' }):wpAny (model P w) A (aQ (.ref it)) Q E s:=by
 cases b
 ·exact KN hh hi hl hx q
 ·exact wpAny_nextOf_list_end hh hi hl hx q
end
section
variable {P:mm}{w:mL}{A:mK}{E:mM->mD->Prop}{s:mD}{p q:Bool}{z TI TO i1 i2 l1 l2:m4}{k1 k2:Nat}{xs ys:Array mM}{x y a b:mM}
theorem Bo {Q:mM->mD->Prop}(D:lX z TI TO i1 i2 l1 l2)(zz:mS s.heap z TI TO .none)(zi:mH s.heap TI (.ref i1) (.ref i2))(zo:mH s.heap TO a b)
  (t1:IterB p s.heap i1 l1 k1)(t2:IterB q s.heap i2 l2 k2)(m1:SeqB p s.heap l1 xs)(m2:SeqB q s.heap l2 ys)(ex:xs[k1]?=some x)(ey:ys[k2]?=some y)
  (K:∀ h',mS h' z TI TO (rawInt s.heap.objs.size)->mH h' TO x y->IterB p h' i1 l1 (k1+1)->IterB q h' i2 l2 (k2+1)->mH h' s.heap.objs.size x y ->
   (∀ c o,c≠z->c≠TO->c≠i1->c≠i2->s.heap.get? c=some o->h'.get? c=some o)->Q (.ref s.heap.objs.size) { s with heap:=h' }) :
  wpAny (model P w) A (my.«zip.__next__» ⟨[.ref z],[]⟩) (λfin s'=>∃ v,fin=.done (.ret v)/\Q v s') E s:=by
 show wpAny _ _ (field (.ref z) 2 >>= _) _ _ _;refine lj (kM zz rfl (x:=.bool false) rfl ?_)
 show wpAny _ _ (field (.ref z) 3 >>= _) _ _ _;refine lj (kM zz rfl (x:=.ref TI) rfl (lj (iP zi rfl ?_)))
 show wpAny _ _ (ac (.ref z) >>= _) _ _ _;refine lj ?_;unfold ac
 refine lj (kM zz rfl (x:=.none) rfl (k9 ?_));simp -iota only[if_true]
 refine lj (k8 (lj (kM zz rfl (x:=.ref TO) rfl (lj (dz zz (by simp) λg1 z1 b1=>?_)))))
 replace z1:mS g1 z TI TO .ellipsis:=z1
 refine lj ?_;simp -iota only[gc,ie,iA,ji]
 refine lj (lj (jr ?_));show wpAny _ _ (aQ (.ref i1) >>= _) _ _ _
 refine lj (Ax (t1.move b1.extBut D.i1z) (m1.move b1.extBut D.l1z) ex λg2 t12 b2=>k9 ?_)
 have o2:mH g2 TO a b:=b2.extBut _ _ D.TOi1 (b1.extBut _ _ D.TOz zo)
 refine lj (iP o2 rfl (lj (cC o2 λg3 o3 b3=>?_)))
 replace o3:mH g3 TO x b:=o3
 refine lj (kL (k9 (lj (lj (jr ?_)))));show wpAny _ _ (aQ (.ref i2) >>= _) _ _ _
 refine lj (Ax (((t2.move b1.extBut D.i2z).move b2.extBut D.i12.symm).move b3.extBut D.TOi2.symm) (((m2.move b1.extBut D.l2z).move b2.extBut D.l2i1).move b3.extBut D.l2TO) ey λg4 t24 b4=>k9 ?_)
 have o4:mH g4 TO x b:=b4.extBut _ _ D.TOi2 o3
 refine lj (iP o4 rfl (lj (cC o4 λg5 o5 b5=>?_)))
 replace o5:mH g5 TO x y:=o5
 refine lj (kL (k9 (k9 (lj (iP o5 rfl (lj (iR ?_)))))))
 have sz:g5.objs.size=s.heap.objs.size:=by rw[b5.1,b4.1,b3.1,b2.1,b1.1]
 have z5:mS g5 z TI TO .ellipsis:=b5.extBut _ _ D.TOz.symm (b4.extBut _ _ D.i2z.symm (b3.extBut _ _ D.TOz.symm (b2.extBut _ _ D.i1z.symm z1)))
 have kk:∀ c o,c≠z->c≠TO->c≠i1->c≠i2->s.heap.get? c=some o->g5.get? c=some o:=λc o c1 c2 c3 c4 e=>b5.extBut _ _ c2 (b4.extBut _ _ c4 (b3.extBut _ _ c2 (b2.extBut _ _ c3 (b1.extBut _ _ c1 e))))
 have t15:IterB p g5 i1 l1 (k1+1):=((t12.move b3.extBut D.TOi1.symm).move b4.extBut D.i12).move b5.extBut D.TOi1.symm
 have t25:IterB q g5 i2 l2 (k2+1):=t24.move b5.extBut D.TOi2.symm
 have zlt:z<g5.objs.size:=kH z5
 show wpAny _ _ (ab (.ref z) (.ref g5.objs.size) >>= _) _ _ _;refine lj ?_;unfold ab
 have z6:mS (g5.push { cls:=.type "tuple",data:=.seq #[x,y] }) z TI TO .ellipsis:=bR _ z5
 refine lj (dz z6 (by simp) λg7 z7 b7=>?_);replace z7:mS g7 z TI TO (rawInt g5.objs.size):=z7
 refine dz z7 (by simp) λg8 z8 b8=>?_;replace z8:mS g8 z TI TO (rawInt g5.objs.size):=z8
 have up:∀ c o,c≠z->g5.get? c=some o->g8.get? c=some o:=λc o c1 e=>b8.extBut _ _ c1 (b7.extBut _ _ c1 (bR _ e))
 have tt:mH g8 g5.objs.size x y:=b8.extBut _ _ (ku zlt) (b7.extBut _ _ (ku zlt) (dj _ rfl))
 rw[sz] at z8 tt
 refine k9 ⟨_,rfl,?_⟩;show Q (.ref g5.objs.size) _;rw[sz]
 exact K g8 z8 (up _ _ D.TOz o5) (t15.to λo e=>up _ o D.i1z e) (t25.to λo e=>up _ o D.i2z e) tt λc o c1 c2 c3 c4 e=>up c o c1 (kk c o c1 c2 c3 c4 e)
theorem Cs {Q:Fin->mD->Prop}(hh:A.handled=none)(D:lX z TI TO i1 i2 l1 l2)(zz:mS s.heap z TI TO .none)(zi:mH s.heap TI (.ref i1) (.ref i2))(zo:mH s.heap TO a b)
  (t1:IterB p s.heap i1 l1 k1)(t2:IterB q s.heap i2 l2 k2)(m1:SeqB p s.heap l1 xs)(m2:SeqB q s.heap l2 ys)(en:xs[k1]?=none ∨ ys[k2]?=none)
  (K:∀ h' e,(∀ c o,c≠z->c≠TO->c≠i1->c≠i2->s.heap.get? c=some o->h'.get? c=some o)->(∃ o,h'.get? e=some o/\o.cls=.type "StopIteration")->E (.ref e) { s with heap:=h' }) :
  wpAny (model P w) A (my.«zip.__next__» ⟨[.ref z],[]⟩) Q E s:=by
 show wpAny _ _ (field (.ref z) 2 >>= _) _ _ _;refine lj (kM zz rfl (x:=.bool false) rfl ?_)
 show wpAny _ _ (field (.ref z) 3 >>= _) _ _ _;refine lj (kM zz rfl (x:=.ref TI) rfl (lj (iP zi rfl ?_)))
 show wpAny _ _ (ac (.ref z) >>= _) _ _ _;refine lj ?_;unfold ac
 refine lj (kM zz rfl (x:=.none) rfl (k9 ?_));simp -iota only[if_true]
 refine lj (k8 (lj (kM zz rfl (x:=.ref TO) rfl (lj (dz zz (by simp) λg1 z1 b1=>?_)))))
 replace z1:mS g1 z TI TO .ellipsis:=z1
 refine lj ?_;simp -iota only[gc,ie,iA,ji]
 refine lj (lj (jr ?_));show wpAny _ _ (aQ (.ref i1) >>= _) _ _ _
 have fin:∀ {g:mY}{e:m4}{o:Obj},mS g z TI TO .ellipsis->g.get? e=some o->o.cls=.type "StopIteration"->e≠z:=λh1 h2 h3 x=>by subst x;rw[h1] at h2;cases h2;simp at h3
 cases hx:xs[k1]? with
 | none =>
  refine lj (CJ hh (t1.move b1.extBut D.i1z) (m1.move b1.extBut D.l1z) hx λg2 e b2 he=>?_)
  let(oe,e1,e2):=he
  have z2:mS g2 z TI TO .ellipsis:=b2 _ _ D.i1z.symm z1
  exact dz z2 (by simp) λg3 _ b3=>K g3 e (λc o c1 _ c3 _ x=>b3.extBut _ _ c1 (b2 _ _ c3 (b1.extBut _ _ c1 x))) ⟨oe,b3.extBut _ _ (fin z2 e1 e2) e1,e2⟩
 | some x =>
  have hy:ys[k2]?=none:=by rcases en with h|h;rw[hx] at h;cases h;exact h
  refine lj (Ax (t1.move b1.extBut D.i1z) (m1.move b1.extBut D.l1z) hx λg2 t12 b2=>k9 ?_)
  have o2:mH g2 TO a b:=b2.extBut _ _ D.TOi1 (b1.extBut _ _ D.TOz zo)
  refine lj (iP o2 rfl (lj (cC o2 λg3 o3 b3=>lj (kL (k9 (lj (lj (jr ?_))))))))
  show wpAny _ _ (aQ (.ref i2) >>= _) _ _ _
  refine lj (CJ hh (((t2.move b1.extBut D.i2z).move b2.extBut D.i12.symm).move b3.extBut D.TOi2.symm) (((m2.move b1.extBut D.l2z).move b2.extBut D.l2i1).move b3.extBut D.l2TO) hy λg4 e b4 he=>?_)
  let(oe,e1,e2):=he
  have z4:mS g4 z TI TO .ellipsis:=b4 _ _ D.i2z.symm (b3.extBut _ _ D.TOz.symm (b2.extBut _ _ D.i1z.symm z1))
  exact dz z4 (by simp) λg5 _ b5=>K g5 e (λc o c1 c2 c3 c4 x=>b5.extBut _ _ c1 (b4 _ _ c4 (b3.extBut _ _ c2 (b2.extBut _ _ c3 (b1.extBut _ _ c1 x))))) ⟨oe,b5.extBut _ _ (fin z4 e1 e2) e1,e2⟩
theorem Bn {Q:Option mM->mD->Prop}(D:lX z TI TO i1 i2 l1 l2)(zz:mS s.heap z TI TO .none)(zi:mH s.heap TI (.ref i1) (.ref i2))(zo:mH s.heap TO a b)
  (t1:IterB p s.heap i1 l1 k1)(t2:IterB q s.heap i2 l2 k2)(m1:SeqB p s.heap l1 xs)(m2:SeqB q s.heap l2 ys)(ex:xs[k1]?=some x)(ey:ys[k2]?=some y)
  (K:∀ h',mS h' z TI TO (rawInt s.heap.objs.size)->mH h' TO x y->IterB p h' i1 l1 (k1+1)->IterB q h' i2 l2 (k2+1)->mH h' s.heap.objs.size x y ->
   (∀ c o,c≠z->c≠TO->c≠i1->c≠i2->s.heap.get? c=some o->h'.get? c=some o)->Q (some (.ref s.heap.objs.size)) { s with heap:=h' }):wpAny (model P w) A (pyNext (.ref z)) Q E s:=by
 have ty:s.TypeIs (.ref z) "zip":=⟨_,zz,rfl⟩
 unfold pyNext
 exact lj (jw (bn (name:=ke "__next__") ty iH (fP iH ty gD (Bo D zz zi zo t1 t2 m1 m2 ex ey λh' a1 a2 a3 a4 a5 a6=>k9 (K h' a1 a2 a3 a4 a5 a6)) (fH _))))
theorem Bm {Q:Option mM->mD->Prop}(hh:A.handled=none)(D:lX z TI TO i1 i2 l1 l2)(zz:mS s.heap z TI TO .none)(zi:mH s.heap TI (.ref i1) (.ref i2))(zo:mH s.heap TO a b)
  (t1:IterB p s.heap i1 l1 k1)(t2:IterB q s.heap i2 l2 k2)(m1:SeqB p s.heap l1 xs)(m2:SeqB q s.heap l2 ys)(en:xs[k1]?=none ∨ ys[k2]?=none)
  (K:∀ h',(∀ c o,c≠z->c≠TO->c≠i1->c≠i2->s.heap.get? c=some o->h'.get? c=some o)->Q none { s with heap:=h' }):wpAny (model P w) A (pyNext (.ref z)) Q E s:=by
 have ty:s.TypeIs (.ref z) "zip":=⟨_,zz,rfl⟩
 unfold pyNext
 refine lj (jw (bn (name:=ke "__next__") ty iH (fP iH ty gD (Cs hh D zz zi zo t1 t2 m1 m2 en λh' e hk he=>?_) (fH _))))
 let(o,e1,e2):=he
 exact lj (fM (T:="StopIteration") (b:=true) ⟨o,e1,e2⟩ iY (k9 (K _ hk)))
end
abbrev EB (p:Bool)(h:mY)(l1:m4):mY:=h.push { cls:=.type (tZ p),data:=.fields #[.ref l1,.int 0 0] }
abbrev MN (p q:Bool)(h:mY)(l1 l2:m4):mY:=(EB p h l1).push { cls:=.type (tZ q),data:=.fields #[.ref l2,.int 0 0] }
abbrev MM (p q:Bool)(h:mY)(l1 l2:m4):mY:=(MN p q h l1 l2).push { cls:=.type "tuple",data:=.seq #[.ref h.objs.size,.ref (EB p h l1).objs.size] }
abbrev ML (p q:Bool)(h:mY)(l1 l2:m4):mY:=(MM p q h l1 l2).push { cls:=.type "tuple",data:=.seq #[.none,.none] }
abbrev Kc (p q:Bool)(h:mY)(l1 l2:m4):mY:=(ML p q h l1 l2).push { cls:=.type "zip",data:=.fields #[.none,.bool false,.bool false,.ref (MN p q h l1 l2).objs.size,.ref (MM p q h l1 l2).objs.size] }
theorem zC (p q:Bool)(l1 l2:m4)(xs ys:Array mM) :
  mQ (my.«zip.__new__» ⟨[.type "zip",.ref l1,.ref l2],[]⟩) (λ_ R s=>SeqB p s.heap l1 xs/\SeqB q s.heap l2 ys/\R (.ok (.ret (.ref (ML p q s.heap l1 l2).objs.size))) { s with heap:=Kc p q s.heap l1 l2 }) :=
 .of_wp λprog w A R s h=>by
  let(hp,g,d,tk,os):=s;let(m1,m2,h):=h
  have hsub:=sub_zip
  have M1:SeqB p (kQ ⟨hp,g,d,tk,os⟩) l1 xs:=m1
  have M2:SeqB q (kQ ⟨hp.push { cls:=.type (tZ p),data:=.fields #[.ref l1,.int 0 0] },g,d,tk,os⟩) l2 ys:=SeqB.push m2
  wp_walk using AG M1,AG M2
  exact⟨_,rfl,h⟩
section
variable {P:mm}{w:mL}{A:mK}{E:mM->mD->Prop}{s:mD}
theorem Ce {p q:Bool}{l1 l2:m4}{xs ys:Array mM}{Q:mM->mD->Prop}(m1:SeqB p s.heap l1 xs)(m2:SeqB q s.heap l2 ys)
  (K:∀ h',mS h' (s.heap.objs.size+4) (s.heap.objs.size+2) (s.heap.objs.size+3) .none->mH h' (s.heap.objs.size+2) (.ref s.heap.objs.size) (.ref (s.heap.objs.size+1)) ->
   mH h' (s.heap.objs.size+3) .none .none->IterB p h' s.heap.objs.size l1 0->IterB q h' (s.heap.objs.size+1) l2 0->(∀ c o,s.heap.get? c=some o->h'.get? c=some o)->Q (.ref (s.heap.objs.size+4)) { s with heap:=h' }) :
  wpAny (model P w) A (call (.type "zip") [.ref l1,.ref l2]) Q E s:=by
 refine callType_new F.called_zip (by decide) (F.typeCall_zip_2 _ _) (F.newCall_zip_2 _ _) (λobj=>F.args_object_init_3 obj _ _) F.entry_zip_new (zC p q l1 l2 xs ys) ⟨m1,m2,?_⟩
 have z1:(EB p s.heap l1).objs.size=s.heap.objs.size+1:=jn ..
 have z2:(MN p q s.heap l1 l2).objs.size=s.heap.objs.size+2:=by rw[jn,z1]
 have z3:(MM p q s.heap l1 l2).objs.size=s.heap.objs.size+3:=by rw[jn,z2]
 have z4:(ML p q s.heap l1 l2).objs.size=s.heap.objs.size+4:=by rw[jn,z3]
 have f5:(Kc p q s.heap l1 l2).get? (ML p q s.heap l1 l2).objs.size=some _:=dj _ rfl
 have f4:(Kc p q s.heap l1 l2).get? (MM p q s.heap l1 l2).objs.size=some _:=bR _ (dj _ rfl)
 have f3:(Kc p q s.heap l1 l2).get? (MN p q s.heap l1 l2).objs.size=some _:=bR _ (bR _ (dj _ rfl))
 have f2:(Kc p q s.heap l1 l2).get? (EB p s.heap l1).objs.size=some _:=bR _ (bR _ (bR _ (dj _ rfl)))
 have f1:(Kc p q s.heap l1 l2).get? s.heap.objs.size=some _:=bR _ (bR _ (bR _ (bR _ (dj _ rfl))))
 show _/\_
 rw[z2,z3,z4] at f5;rw[z1,z2] at f3;rw[z3] at f4;rw[z1] at f2;rw[z4]
 refine⟨⟨_,f5,rfl⟩,K _ f5 f3 f4 ?_ ?_ λc o x=>bR _ (bR _ (bR _ (bR _ (bR _ x))))⟩
 ·cases p<;>exact⟨_,f1,rfl,rfl⟩
 ·cases q<;>exact⟨_,f2,rfl,rfl⟩
end
end L2
namespace L2
open PySem PySem.Spec PyProof.Rows
open AutoSeq1 (wpAny_loadPart')
section
variable {P:mm}{w:mL}{A:mK}{E:mM->mD->Prop}{s:mD}{p:Bool}{e it l:m4}{i:Nat}{xs:Array mM}{x old:mM}
theorem zP {Q:mM->mD->Prop}(ee:mI s.heap e it i old)(t1:IterB p s.heap it l i)(m1:SeqB p s.heap l xs)(ex:xs[i]?=some x)(ne:e≠it)
  (K:∀ h',lR h' e it ((i:Int)+1) x s.heap.objs.size->IterB p h' it l (i+1)->h'.get? s.heap.objs.size=some { cls:=.type "tuple",data:=.seq #[.int i s.toks,x] } ->
   (∀ b o,b≠e->b≠it->s.heap.get? b=some o->h'.get? b=some o)->Q (.ref s.heap.objs.size) { s with heap:=h',toks:=s.toks+1 }) :
  wpAny (model P w) A (my.«enumerate.__next__» ⟨[.ref e],[]⟩) (λfin s'=>∃ v,fin=.done (.ret v)/\Q v s') E s:=by
 let(hp,g,d,tk,os):=s
 show wpAny _ _ (field (.ref e) 2 >>= _) _ _ _;refine lj (kM ee rfl (x:=.ref it) rfl (lj (Ax t1 m1 ex λg1 t11 b1=>?_)))
 replace b1:kI it hp g1:=b1
 have e1:mI g1 e it i old:=(b1.2 e ne).trans ee
 show wpAny _ _ (field (.ref e) 3 >>= _) _ _ ⟨g1,g,d,tk,os⟩;refine lj (kM e1 rfl (x:=rawInt i) rfl ?_)
 show wpAny _ _ (field (.ref e) 4 >>= _) _ _ ⟨g1,g,d,tk,os⟩;refine lj (kM e1 rfl (x:=.none) rfl ?_)
 show wpAny _ _ (mkInt i >>= _) _ _ ⟨g1,g,d,tk,os⟩;refine lj (wpAny_mkInt ?_)
 show wpAny _ _ (setField (.ref e) 3 (rawInt ((i:Int)+1)) >>= _) _ _ ⟨g1,g,d,tk+1,os⟩;refine lj (dz e1 (by simp) λg2 e2 b2=>?_)
 replace b2:kI e g1 g2:=b2
 replace e2:mI g2 e it ((i:Int)+1) old:=e2
 show wpAny _ _ (setField (.ref e) 4 .none >>= _) _ _ ⟨g2,g,d,tk+1,os⟩;refine lj (dz e2 (by simp) λg3 e3 b3=>?_)
 replace b3:kI e g2 g3:=b3
 replace e3:mI g3 e it ((i:Int)+1) old:=e3
 show wpAny _ _ (newTuple [.int i tk,x] >>= _) _ _ ⟨g3,g,d,tk+1,os⟩;refine lj (iR ?_)
 have e4:mI (g3.push { cls:=.type "tuple",data:=.seq #[.int i tk,x] }) e it ((i:Int)+1) old:=bR _ e3
 generalize hg4:g3.push { cls:=.type "tuple",data:=.seq #[.int i tk,x] } = g4 at e4
 have sz:g3.objs.size=hp.objs.size:=by rw[b3.1,b2.1,b1.1]
 have el:e<hp.objs.size:=kH ee
 have t4:g4.get? hp.objs.size=some { cls:=.type "tuple",data:=.seq #[.int i tk,x] }:=by rw[<- hg4,<- sz];exact dj _ rfl
 have k4:∀ b o,b≠e->b≠it->hp.get? b=some o->g4.get? b=some o:=λb o c1 c2 h=>by rw[<- hg4];exact bR _ (b3.extBut b o c1 (b2.extBut b o c1 (b1.extBut b o c2 h)))
 have i4:IterB p g4 it l (i+1):=by
  rw[<- hg4];exact ((t11.move b2.extBut (mq ne)).move b3.extBut (mq ne)).to λo h=>bR _ h
 show wpAny _ _ (ac (.ref e) >>= _) _ _ ⟨g4,g,d,tk+1,os⟩
 rw[sz]
 clear hg4 e3 b3 e2 b2 e1 b1 t11 sz g3 g2 g1
 refine lj ?_;unfold ac
 refine lj (kM e4 rfl (x:=.none) rfl (k9 ?_));simp only[if_true]
 refine lj (k8 (lj (kM e4 rfl (x:=old) rfl (lj (dz e4 (by simp) λg5 e5 b5=>?_)))))
 replace b5:kI e g4 g5:=b5
 replace e5:mI g5 e it ((i:Int)+1) x:=e5
 show wpAny _ _ (ab (.ref e) (.ref hp.objs.size) >>= _) _ _ ⟨g5,g,d,tk+1,os⟩;refine lj ?_;unfold ab
 refine lj (dz e5 (by simp) λg6 e6 b6=>?_)
 replace b6:kI e g5 g6:=b6
 replace e6:lR g6 e it ((i:Int)+1) x hp.objs.size:=e6
 refine dz e6 (by simp) λg7 e7 b7=>?_
 replace b7:kI e g6 g7:=b7
 replace e7:lR g7 e it ((i:Int)+1) x hp.objs.size:=e7
 refine lj (kL (k9 ⟨_,rfl,K g7 e7 (((i4.move b5.extBut (mq ne)).move b6.extBut (mq ne)).move b7.extBut (mq ne)) ?_ λb o c1 c2 h=>b7.extBut b o c1 (b6.extBut b o c1 (b5.extBut b o c1 (k4 b o c1 c2 h)))⟩))
 exact b7.extBut _ _ (ku el) (b6.extBut _ _ (ku el) (b5.extBut _ _ (ku el) t4))
theorem zO {Q:Option mM->mD->Prop}(ee:mI s.heap e it i old)(t1:IterB p s.heap it l i)(m1:SeqB p s.heap l xs)(ex:xs[i]?=some x)(ne:e≠it)
  (K:∀ h',lR h' e it ((i:Int)+1) x s.heap.objs.size->IterB p h' it l (i+1)->h'.get? s.heap.objs.size=some { cls:=.type "tuple",data:=.seq #[.int i s.toks,x] } ->
   (∀ b o,b≠e->b≠it->s.heap.get? b=some o->h'.get? b=some o)->Q (some (.ref s.heap.objs.size)) { s with heap:=h',toks:=s.toks+1 }):wpAny (model P w) A (pyNext (.ref e)) Q E s:=by
 have ty:s.TypeIs (.ref e) "enumerate":=⟨_,ee,rfl⟩
 unfold pyNext
 exact lj (jw (bn (name:=ke "__next__") ty cz (fP cz ty bS (zP ee t1 m1 ex ne λh' a b c d=>k9 (K h' a b c d)) (bw _))))
theorem zN {Q:Option mM->mD->Prop}(hh:A.handled=none)(ee:mI s.heap e it i old)(t1:IterB p s.heap it l i)(m1:SeqB p s.heap l xs)(ex:xs[i]?=none)(K:∀ h',k6 it s.heap h'->Q none { s with heap:=h' }):wpAny (model P w) A (pyNext (.ref e)) Q E s:=by
 have ty:s.TypeIs (.ref e) "enumerate":=⟨_,ee,rfl⟩
 unfold pyNext
 refine lj (jw (bn (name:=ke "__next__") ty cz (fP cz ty bS ?_ (bw _))))
 show wpAny _ _ (field (.ref e) 2 >>= _) _ _ _;refine lj (kM ee rfl (x:=.ref it) rfl (lj (CJ hh t1 m1 ex λh' v k hv=>?_)))
 let(o,e1,e2):=hv
 exact lj (fM (T:="StopIteration") (b:=true) ⟨o,e1,e2⟩ iY (k9 (K _ k)))
end
theorem EC {P:mm}{w:mL}{A:mK}{E:mM->mD->Prop}{s:mD}{Q:Bool->mD->Prop}(h:∀ c,Q c s)(c:Bool):wpAny (model P w) A (pure c) Q E s:=k9 (h c)
theorem x9 (p:Bool)(l:m4)(xs:Array mM) :
  mQ (my.«enumerate.__new__» ⟨[.type "enumerate",.ref l],[]⟩) (λ_ R s=>SeqB p s.heap l xs /\
   R (.ok (.ret (.ref (EB p s.heap l).objs.size))) { s with heap:=(EB p s.heap l).push { cls:=.type "enumerate",data:=.fields #[.none,.bool false,.ref s.heap.objs.size,rawInt 0,.none,.none] } }) :=
 .of_wp λprog w A R s h=>by
  let(hp,g,d,tk,os):=s;let(m1,h):=h
  have hsub:=sub_enumerate
  have M1:SeqB p (kQ ⟨hp,g,d,tk,os⟩) l xs:=m1
  have hob:∃ o,hp.get? l=some o:=by cases p<;>(let(o,e,_):=m1;exact⟨o,e⟩)
  let(ob,hl):=hob
  wp_walk using gL hl
  refine wpAny_stack_any λst=>EC (λc=>?_) _
  cases c
  ·wp_walk using gL hl,AG M1
   exact⟨_,rfl,h⟩
  ·wp_walk using gL hl,AG M1
   exact⟨_,rfl,h⟩
section
variable {P:mm}{w:mL}{A:mK}{E:mM->mD->Prop}{s:mD}
theorem Ab {p:Bool}{l:m4}{xs:Array mM}{Q:mM->mD->Prop}(m1:SeqB p s.heap l xs)
  (K:∀ h',mI h' (s.heap.objs.size+1) s.heap.objs.size 0 .none->IterB p h' s.heap.objs.size l 0->(∀ b o,s.heap.get? b=some o->h'.get? b=some o)->Q (.ref (s.heap.objs.size+1)) { s with heap:=h' }) :
  wpAny (model P w) A (call (.type "enumerate") [.ref l]) Q E s:=by
 refine callType_new F.called_enumerate (by decide) (F.typeCall_enumerate_1 _) (F.newCall_enumerate_1 _) (λobj=>cS obj _) F.entry_enumerate_new (x9 p l xs) ⟨m1,?_⟩
 have z1:(EB p s.heap l).objs.size=s.heap.objs.size+1:=jn ..
 show _/\_
 rw[z1]
 have f2:mI ((EB p s.heap l).push { cls:=.type "enumerate",data:=.fields #[.none,.bool false,.ref s.heap.objs.size,rawInt 0,.none,.none] }) (s.heap.objs.size+1) s.heap.objs.size 0 .none:=by
  have:=dj (EB p s.heap l) (o:={ cls:=.type "enumerate",data:=.fields #[.none,.bool false,.ref s.heap.objs.size,rawInt 0,.none,.none] }) rfl
  rw[z1] at this;exact this
 refine⟨⟨_,f2,rfl⟩,K _ f2 ?_ λb o x=>bR _ (bR _ x)⟩
 cases p<;>exact⟨_,bR _ (dj _ rfl),rfl,rfl⟩
end
def vm (b:Bool)(K:kj)(H:Hp)(a:m4)(xs:List V):Prop:=match b with|true=>SqL K H a xs|false=>SqT K H a xs
section
variable {X:Cx}{Z9:List (m4×Obj)}{σ:St}{H:Hp}{s:mD}{a:m4}{xs ys:List V}{b:Bool}
theorem Inv.seqB (I:Inv X Z9 σ H s)(h:vm b X.K H a xs):∃ Z7:List mM,Vals xs Z7/\SeqB b s.heap a Z7.toArray/\xs.length=Z7.length:=by
 cases b
 ·let(Z7,r,q,_):=I.tuple h
  exact⟨Z7,r,q,r.length⟩
 ·let(Z7,r,q,_):=I.list h
  exact⟨Z7,r,q.isList,r.length⟩
theorem Inv.seqB_inj (I:Inv X Z9 σ H s)(h:vm b X.K H a xs)(h':vm b X.K H a ys):xs=ys:=by
 cases b
 ·exact I.tuple_inj h h'
 ·exact I.list_inj h h'
end
def Oc (K:kj) (p q:Bool) (a b:m4):It :=
  ⟨λi H=>∃ xs ys x y,vm p K H a xs/\vm q K H b ys/\xs[i]?=some x/\ys[i]?=some y,
   λi H v H'=>∃ c,H c=none/\v=.ref c/\∀ xs ys x y,vm p K H a xs->vm q K H b ys->xs[i]?=some x->ys[i]?=some y->H'=oj H c (.tup [x,y]),
   λi H=>∃ xs ys,vm p K H a xs/\vm q K H b ys/\(xs.length<=i ∨ ys.length<=i)⟩
def Oe (K:kj) (p:Bool) (a:m4):It :=
  ⟨λi H=>∃ xs x,vm p K H a xs/\xs[i]?=some x,
   λi H v H'=>∃ c,H c=none/\v=.ref c/\∀ xs x,vm p K H a xs->xs[i]?=some x->H'=oj H c (.tup [.int i,x]),
   λi H=>∃ xs,vm p K H a xs/\xs.length<=i⟩
theorem EE {P:mm}{w:mL}{K:kj}{p q:Bool}{elts:List Expr}{k:Nat}{pos:Pos}{a b z TI TO i1 i2:m4}(D:lX z TI TO i1 i2 a b) :
  Turn P w K (.Tuple elts k pos) (Oc K p q a b) [z,TO,i1,i2,TI] z (λi h=>mS h z TI TO .none/\mH h TI (.ref i1) (.ref i2)/\(∃ c d,mH h TO c d)/\IterB p h i1 a i/\IterB q h i2 b i) where
 mem:=by simp
 obj:=λi h st c hc=>by
  let(zz,zi,(x,y,zo),t1,t2):=st
  simp only[jP,gh,or_false] at hc
  rcases hc with rfl|rfl|rfl|rfl|rfl
  ·exact⟨_,zz,λv z=>by cases z⟩
  ·exact⟨_,zo,λv z=>by cases z⟩
  ·exact t1.obj
  ·exact t2.obj
  ·exact⟨_,zi,λv z=>by cases z⟩
 keep:=λi h h' st kk=>by
  let(zz,zi,(x,y,zo),t1,t2):=st
  exact⟨kk z (by simp) _ zz,kk TI (by simp) _ zi,⟨x,y,kk TO (by simp) _ zo⟩,t1.to λo e=>kk i1 (by simp) o e,t2.to λo e=>kk i2 (by simp) o e⟩
 item:=by
  intro X hP hw hK hc i Z9 s σ H E I hf st hg
  subst hP hw hK
  let(xs,ys,x,y,q1,q2,hx,hy):=hg
  let(zz,zi,(u0,v0,zo),t1,t2):=st
  let(Z7,rv,m1,_):=I.seqB q1
  let(jts,rw',m2,_):=I.seqB q2
  let(u,hu,ru):=rv.get hx
  let(u',hu',ru'):=rw'.get hy
  refine Bn D zz zi zo t1 t2 m1 m2 (x:=u) (y:=u') (by simpa using hu) (by simpa using hu') λh' a1 a2 a3 a4 a5 hk=>?_
  refine⟨_,rfl,wpAny_letOwnedTupleGo_zip a1 λh'' z'' hs''=>?_⟩
  have szn:z≠s.heap.objs.size:=kq (kH zz)
  have T'':mH h'' s.heap.objs.size u u':=hs''.extBut _ _ (mq szn) a5
  have I1:Inv X Z9 σ (oj H s.heap.objs.size (.tup [x,y])) { s with heap:=h'' }:=I.turnedNew (t':=s.toks) (ch:=[z,TO,i1,i2]) (kT _)
   (λc ob hc e=>by simp only[jP,gh,or_false,not_or] at hc;exact hs''.extBut _ _ hc.1 (hk c ob hc.1 hc.2.1 hc.2.2.1 hc.2.2.2 e))
   (λc hc=>hf c (by simp only[jP,gh,or_false] at hc ⊢;rcases hc with z|z|z|z<;>simp[z])) ⟨by show 2<=sizeLine;decide,[u,u'],.cons ru (.cons ru' .nil),⟨_,T'',rfl,_,rfl⟩⟩
  refine⟨.ref s.heap.objs.size,_,I1,rfl,⟨_,I.fresh,rfl,λxs' ys' x' y' r1 r2 hx' hy'=>?_⟩,⟨z'',hs''.extBut _ _ D.TIz (hk _ _ D.TIz D.TITO D.TIi1 D.TIi2 zi),⟨_,_,hs''.extBut _ _ D.TOz a2⟩,a3.move hs''.extBut D.i1z,a4.move hs''.extBut D.i2z⟩,λc hc=>?_⟩
  ·have e1:=I.seqB_inj r1 q1
   have e2:=I.seqB_inj r2 q2
   subst e1 e2
   rw[hx] at hx';rw[hy] at hy';cases hx';cases hy';rfl
  ·have:c≠s.heap.objs.size:=by
    have hlt:c<s.heap.objs.size:=by
     simp only[jP,gh,or_false] at hc
     rcases hc with rfl|rfl|rfl|rfl|rfl
     ·exact kH zz
     ·exact kH zo
     ·exact t1.lt
     ·exact t2.lt
     ·exact kH zi
    exact kq hlt
   rw[nv this];exact (hf c hc).1
 done:=by
  intro X hP hw hK hc i Z9 s σ H E I hf st hg
  subst hP hw hK
  let(xs,ys,q1,q2,hx):=hg
  let(zz,zi,(u0,v0,zo),t1,t2):=st
  let(Z7,rv,m1,l1):=I.seqB q1
  let(jts,rw',m2,l2):=I.seqB q2
  refine Bm (I.ok.hd hc) D zz zi zo t1 t2 m1 m2 (hx.elim (λz=>.inl (by simp;lia)) λz=>.inr (by simp;lia)) λh' hk=>⟨rfl,?_⟩
  exact I.turnedL (t':=s.toks) (ch:=[z,TO,i1,i2]) (λc ob hc e=>by simp only[jP,gh,or_false,not_or] at hc;exact hk c ob hc.1 hc.2.1 hc.2.2.1 hc.2.2.2 e)
   (λc hc=>hf c (by simp only[jP,gh,or_false] at hc ⊢;rcases hc with z|z|z|z<;>simp[z]))
 self:=λ_ _ _ _ _ st h=>fL st.1 h
theorem EF {P:mm}{w:mL}{K:kj}{p:Bool}{elts:List Expr}{k:Nat}{pos:Pos}{a e it:m4}(ne:e≠it) :
  Turn P w K (.Tuple elts k pos) (Oe K p a) [e,it] e (λi h=>(∃ old,mI h e it i old)/\IterB p h it a i) where
 mem:=by simp
 obj:=λi h st c hc=>by
  let((old,ee),t1):=st
  simp only[jP,gh,or_false] at hc
  rcases hc with rfl|rfl
  ·exact⟨_,ee,λv z=>by cases z⟩
  ·exact t1.obj
 keep:=λi h h' st kk=>by
  let((old,ee),t1):=st
  exact⟨⟨old,kk e (by simp) _ ee⟩,t1.to λo q=>kk it (by simp) o q⟩
 item:=by
  intro X hP hw hK hc i Z9 s σ H E I hf st hg
  subst hP hw hK
  let(xs,x,q1,hx):=hg
  let((old,ee),t1):=st
  let(Z7,rv,m1,_):=I.seqB q1
  let(u,hu,ru):=rv.get hx
  refine zO ee t1 m1 (x:=u) (by simpa using hu) ne λh' a1 a2 a3 hk=>?_
  refine⟨_,rfl,wpAny_letOwnedTupleGo_enum a1 λh'' z'' hs''=>?_⟩
  have szn:e≠s.heap.objs.size:=kq (kH ee)
  have T'':=hs''.extBut _ _ (mq szn) a3
  have I1:Inv X Z9 σ (oj H s.heap.objs.size (.tup [.int i,x])) { s with heap:=h'',toks:=s.toks+1 }:=I.turnedNew (t':=s.toks+1) (ch:=[e,it]) (kT _)
   (λc ob hc q=>by simp only[jP,gh,or_false,not_or] at hc;exact hs''.extBut _ _ hc.1 (hk c ob hc.1 hc.2 q))
   (λc hc=>hf c hc) ⟨by show 2<=sizeLine;decide,[.int i s.toks,u],.cons ⟨_,rfl⟩ (.cons ru .nil),⟨_,T'',rfl,_,rfl⟩⟩
  refine⟨.ref s.heap.objs.size,_,I1,rfl,⟨_,I.fresh,rfl,λxs' x' r1 hx'=>?_⟩,⟨⟨_,z''⟩,a2.move hs''.extBut (mq ne)⟩,λc hc=>?_⟩
  ·have e1:=I.seqB_inj r1 q1
   subst e1
   rw[hx] at hx';cases hx';rfl
  ·have:c≠s.heap.objs.size:=by
    have hlt:c<s.heap.objs.size:=by
     simp only[jP,gh,or_false] at hc
     rcases hc with rfl|rfl
     ·exact kH ee
     ·exact t1.lt
    exact kq hlt
   rw[nv this];exact (hf c hc).1
 done:=by
  intro X hP hw hK hc i Z9 s σ H E I hf st hg
  subst hP hw hK
  let(xs,q1,hx):=hg
  let((old,ee),t1):=st
  let(Z7,rv,m1,l1):=I.seqB q1
  refine zN (I.ok.hd hc) ee t1 m1 (by simp;lia) λh' hk=>⟨rfl,?_⟩
  exact I.turnedL (t':=s.toks) (ch:=[it]) (λc ob hc q=>hk c ob (by simpa using hc) q) (λc hc=>hf c (by simp at hc;simp[hc]))
 self:=λ_ _ _ _ _ st h=>eO st.1.choose_spec h
section
variable {X:Cx}
def iZ2 (K:kj)(ta:TA):TI:=λσ H R=>ta σ H λvs H1=>∃ p q a b,vs=[.ref a,.ref b]/\(∃ xs,vm p K H1 a xs)/\(∃ ys,vm q K H1 b ys)/\R (Oc K p q a b) H1
theorem GU {elts:List Expr}{k:Nat}{tp:Pos}{e1 e2:Expr}{ta:TA}{p pos:Pos}(hg:Gl X "zip")(hm:X.mg "zip" = none)(ha:PA X [e1,e2] ta)
  (hs:starEach [e1,e2] X.env=[(false,eval e1 X.env),(false,eval e2 X.env)])(hs2:starEach [e2] X.env=[(false,eval e2 X.env)]):PI X (.Tuple elts k tp) (.Call (.Name "zip" p) [e1,e2] [] pos) (iZ2 X.K ta):=by
 intro Z9 s σ H R I h
 refine dC (pL I hg hm PyProof.Rows.boot_zip ?_ (by decide) (by decide))
 refine ak (nW (ha pos Z9 s σ H _ I h) λus s1 ⟨vs,H1,I1,r1,q1⟩=>?_) (by rw[hs,hs2]) (by rw[hs2];rfl)
 let(p,q,a,b,e,(xs,hq1),(ys,hq2),kk):=q1
 subst e
 let(u1,u2,rfl,ra,rb):=vals2 r1
 cases ra;cases rb
 let(Z7,rv,m1,_):=I1.seqB hq1
 let(jts,rw',m2,_):=I1.seqB hq2
 refine Ce m1 m2 λh' zz zi zo t1 t2 hk=>fL (f0:=.none) zz ?_
 have I2:Inv X Z9 σ H1 { s1 with heap:=h' }:=I1.kept (t':=s1.toks) λc o e=>hk c o e
 refine⟨_,_,_,Oc X.K p q a b,H1,rfl,I2,EE (zipApart_new m1.lt m2.lt),⟨zz,zi,⟨_,_,zo⟩,t1,t2⟩,λc hc=>?_,kk⟩
 have hge:s1.heap.objs.size<=c:=by
  simp only[jP,gh,or_false] at hc
  rcases hc with rfl|rfl|rfl|rfl|rfl<;>first|exact kT _|exact gb _ _
 exact I1.fpOk hge (I1.hok.fresh hge)
def iEn (K:kj)(ta:TA):TI:=λσ H R=>ta σ H λvs H1=>∃ p a,vs=[.ref a]/\(∃ xs,vm p K H1 a xs)/\R (Oe K p a) H1
theorem Lb {elts:List Expr}{k:Nat}{tp:Pos}{e1:Expr}{ta:TA}{p pos:Pos}(hg:Gl X "enumerate")(hm:X.mg "enumerate" = none)(ha:PA X [e1] ta)(hs:starEach [e1] X.env=[(false,eval e1 X.env)]) :
  PI X (.Tuple elts k tp) (.Call (.Name "enumerate" p) [e1] [] pos) (iEn X.K ta):=by
 intro Z9 s σ H R I h
 refine dC (pL I hg hm PyProof.Rows.boot_enumerate ?_ (by decide) (by decide))
 refine ak (nW (ha pos Z9 s σ H _ I h) λus s1 ⟨vs,H1,I1,r1,q1⟩=>?_) (by rw[hs];rfl) rfl
 let(p,a,e,(xs,hq1),kk):=q1
 subst e
 let(u1,rfl,ra):=vals1 r1
 cases ra
 let(Z7,rv,m1,_):=I1.seqB hq1
 refine Ab m1 λh' ee t1 hk=>eO ee ?_
 have I2:Inv X Z9 σ H1 { s1 with heap:=h' }:=I1.kept (t':=s1.toks) λc o e=>hk c o e
 refine⟨_,_,_,Oe X.K p a,H1,rfl,I2,EF (ku (f8 _)),⟨⟨_,ee⟩,t1⟩,λc hc=>?_,kk⟩
 have hge:s1.heap.objs.size<=c:=by
  simp only[jP,gh,or_false] at hc
  rcases hc with rfl|rfl<;>first|exact kT _|exact gb _ _
 exact I1.fpOk hge (I1.hok.fresh hge)
end
end L2
namespace L2
open PySem PySem.Spec PyProof.Rows
def xn (kx vx:Expr):mM->Env->m3->Sem Fin
 | .ref D,env,c=>do
  (do let kv <- eval kx env;let vv <- holding [kv] (eval vx env);standAt { kx.pos with endLine:=vx.pos.endLine,endCol:=vx.pos.endCol };holding [kv,vv] (dictSet D kv vv))
  again c
 | _,_,c=>again c
def P8 (tk tv:TE):m4->St->Hp->(Hp->Prop)->Prop:=λZ8 σ H K=>tk σ H λy H4=>tv σ H4 λv H5=>∃ Z6 k b,H5 Z8=some (.dT Z6)/\y=.ref b/\H5 b=some (.tup (k.map kV))/\Z6.length<sizeLine/\K (oj H5 Z8 (.dT (qd Z6 k v)))
def Hm (wi:TI)(g:TG)(tt:TT)(tk tv:TE) (own:Nat):TE:=wJ wi g tt (P8 tk tv) (λ_=>.dT []) own
section
variable {X:Cx}{kx vx tg Z5:Expr}{Z4:List Expr}{scope:mN}{own:List Str}{pos:Pos}{wi:TI}{g:TG}{tt:TT}{tk tv:TE}
theorem Gx:CKind X (.DictComp kx vx [⟨tg,Z5,Z4,0⟩] scope pos) tg Z5 Z4 scope newDict { cls:=.type "dict",data:=.dict #[] } (λ_=>.dT []) (xn kx vx) :=
 ⟨λ_ _ _=>rfl,λ_ _ _ _=>rfl,λ_ _ _=>rfl,λ_ _=>rfl,codeAny_compStart_dict,λq=>eP q,λ{_ _ _ s} I=>I.laid (a:=s.heap.objs.size) (o:=.dT []) (t':=s.toks) (λ_ _ q=>bR _ q) (kT _) (yH s.heap I.big),λ_=>by rw[arm_eval_DictComp];rfl,rfl⟩
theorem Dh {Y:Cx}(hu:Y.A.units+1<cLine)(hk:PE Y kx tk)(hv:PE Y vx tv):MB Y (xn kx vx) (P8 tk tv):=by
 intro Z9 s σ H Z8 c K I q
 unfold xn
 refine lj (lj (nW (hk _ s σ H _ I q) λky s11 ⟨v11,H11,I11,r11,q11⟩=>lj (ju (nW (hv _ s11 σ H11 _ I11 q11) λy s12 ⟨v12,H12,I12,r12,Z6,k,b,hys,hyb,hkb,hz,kk⟩=>lj (jq (ju ?_))))))
 subst hyb
 cases (show ky=Value.ref b from r11)
 let(z,hd,xs,rel,dd):=G8 I12.hok hys
 have hz':xs.length<=sizeLine:=by rw[<- jI rel];exact z
 have hl:(qd Z6 k v12).length<=sizeLine:=by have:=qk Z6 k v12;lia
 have ko:=sZ I12.hok hkb
 refine wpAny_dictSet_heap (knd:=tupleKind (n5 Y.prog Y.w)) (hsz:=hz') (show Y.A.units<cLine by lia) ko dd λh' dd' hs=>?_
 let(q,es,ep,hq,h2',h3',h4',h5',h6'):=dd'
 refine k9 ⟨rfl,_,?_,kk⟩
 refine t8 I12 (by rw[hys];exact True.intro) hs ⟨q,hq⟩ ⟨hl,hd,_,(rel.put k hkb r12).keeps λc ys ec=>?_,q,es,ep,hq,h2',h3',h4',h6'⟩
 rw[nv (G0 ec hys (λz=>nomatch z))]
 exact ec
theorem Do (hu:X.A.units+1<cLine)(hc:X.calm=true)(SC:CScope X scope own)(hi:PI X.nox tg Z5 wi)
  (Z2:∀ fp C s H,PG (pH X scope own fp C s H) tg g/\PTs (pH X scope own fp C s H) Z4 tt/\PE (pH X scope own fp C s H) kx tk/\PE (pH X scope own fp C s H) vx tv)
  (hs:∀ x,foldedSetIterable Z5 X.env x=pure x:=by intro _;rfl) :
  PE X.nox (.DictComp kx vx [⟨tg,Z5,Z4,0⟩] scope pos) (Hm wi g tt tk tv own.length) :=
 xW hc SC Gx hi (λfp C s H=>let ⟨a,b,c,d⟩:=Z2 fp C s H;⟨a,b,Dh hu c d⟩) hs
end
end L2
namespace L2
open PySem PySem.Spec PyProof.Rows
def xm (e iter2:Expr)(Z8:mM)(env:Env)(c:m3):Sem Fin:=do
 let x <- eval iter2 env
 standAt iter2.pos
 let x <- foldedSetIterable iter2 env x
 let _ <- runOwn (.compStart e 1 (<- holding [x] (pyIter x)) Z8 env) env
 again c
end L2
namespace Kq
open PySem PySem.Spec PyProof.Rows L2
inductive D where
 | non|bl (b:Bool)|int (i:Int)|str (x:String)|tup (xs:List D)|lst (xs:List D)
mutual
noncomputable def D.eqv:D->D->Bool
 | .non,y=>match y with|.non=>true|_=>false
 | .bl a,y=>match y with|.bl b=>a == b|.int j=>(if a then 1 else 0) == j|_=>false
 | .int i,y=>match y with|.bl b=>i == (if b then 1 else 0)|.int b=>i == b|_=>false
 | .str a,y=>match y with|.str b=>a == b|_=>false
 | .tup a,y=>match y with|.tup b=>D.eqvs a b|_=>false
 | .lst a,y=>match y with|.lst b=>D.eqvs a b|_=>false
noncomputable def D.eqvs:List D->List D->Bool
 | [],y=>match y with|[]=>true|_ :: _=>false
 | a :: r,y=>match y with|b :: q=>D.eqv a b && D.eqvs r q|[]=>false
end
mutual
noncomputable def D.wt:D->Nat
 | .non=>0|.bl _=>0
 | .int i=>if -(2 ^ 40)<i/\i<2 ^ 40 then 41 else 151
 | .str x=>x.length
 | .tup xs=>D.wts xs
 | .lst xs=>D.wts xs
noncomputable def D.wts:List D->Nat
 | []=>0
 | a :: r=>D.wt a+1+D.wts r
end
mutual
noncomputable def D.fit:D->Bool
 | .int i=>decide (-(2 ^ 150)<i/\i<2 ^ 150)
 | .tup xs=>D.fits xs
 | .lst xs=>D.fits xs
 | _=>true
noncomputable def D.fits:List D->Bool
 | []=>true
 | a :: r=>D.fit a && D.fits r
end
set_option genInjectivity true in
inductive FV where
 | non|bl (b:Bool)|int (i:Int)|str (x:String)|tup (xs:List FV)|lst (xs:List FV)
 | scr (ns:List Int)
 | shn (d:D)
 | dct (ks:List (List Int))(vs:List FV)
 | dci (ks:List Int)(vs:List FV)
 | dcz (o:Obj)(ks:List (List Int))(vs:List FV)
 | dcn (z:Option Obj)(ks:List (List (Option Int)))(vs:List FV)
 | obj (C dx:m4)(fs:List (Str×V))(gs:List (m4×List V))
def big:Nat:=100000
inductive Mo where|imm|own|frz|ob|gst (i:Nat)(x:Str)
 deriving DecidableEq
def Mo.w:Mo->Bool|.imm=>false|.frz=>false|_=>true
def Mo.g:Mo->Bool|.gst _ _=>true|_=>false
theorem Mo.w_imm {m:Mo}(h:m.w=true):m≠.imm:=λz=>by rw[z] at h;cases h
theorem Mo.w_frz {m:Mo}(h:m.w=true):m≠.frz:=λz=>by rw[z] at h;cases h
theorem Mo.w_own {m:Mo}(h:m=.own):m.w=true:=by rw[h];rfl
abbrev Md:=List Mo
abbrev m7:=List (Option FV)
def nq:Md->Nat->Mo
 | [],_=>.imm
 | m :: _,0=>m
 | _ :: ms,n+1=>nq ms n
def lk:m7->Nat->Option FV
 | [],_=>none
 | x :: _,0=>x
 | _ :: L,n+1=>lk L n
theorem OH {α:Sort _}{a b:α}(h:a=b):a=b:=h
theorem o8:∀ (L:m7) (i:Nat)(v:FV),lk L i=some v↔L[i]?=some (some v)
 | [],i,v=>by show (none:Option FV)=some v↔(none:Option (Option FV))=some (some v);simp
 | x :: L,0,v=>by show x=some v↔some x=some (some v);simp
 | x :: L,i+1,v=>by rw[List.getElem?_cons_succ];exact o8 L i v
def wp {α:Type}(r:Option α)(Q:α->Prop):Prop:=match r with
 | some x=>Q x
 | none=>False
inductive Wpx {α:Type}(r:Option α)(Q:α->Prop):Prop
 | mk (x:α)(_:r=some x)(_:Q x):Wpx r Q
theorem oE {α:Type}{r:Option α}{Q:α->Prop}(h:wp r Q):Wpx r Q:=by
 cases r with
 | none=>exact h.elim
 | some x=>exact⟨x,rfl,h⟩
mutual
noncomputable def qc:D->PyData
 | .non=>.none
 | .bl b=>.bool b
 | .int i=>.int i
 | .str x=>.str (ke x)
 | .tup xs=>.tuple (dPys xs)
 | .lst xs=>.list (dPys xs)
noncomputable def dPys:List D->List PyData
 | []=>[]
 | a :: r=>qc a :: dPys r
end
def oH (ks:List (List Int)):List (List (Int ⊕ Option Str)):=ks.map λk=>k.map Sum.inl
def pQ (ks:List Int):List (Int ⊕ Option Str):=ks.map Sum.inl
def oK:Option Int->Int ⊕ Option Str
 | some i=>.inl i
 | none=>.inr none
def G1 (ks:List (List (Option Int))):List (List (Int ⊕ Option Str)):=ks.map λk=>k.map oK
def Ng (u:HO):Option Obj->HO
 | none=>u
 | some o=>.frz o u
def ScrAt (K:kj)(S:Hp)(a:m4)(ns:List Int):Prop:=(∃ o,S a=some (.frz o (.lst (ns.map V.int)))) ∨ SqL K (λ_=>none) a (ns.map V.int)
mutual
noncomputable def RV (K:kj)(S:Hp):FV->V->Prop
 | .non,v=>v=.non
 | .bl b,v=>v=.bl b
 | .int i,v=>v=.int i
 | .str x,v=>v=.str (ke x)
 | .tup ps,v=>∃ a xs,v=.ref a/\S a=some (.tup xs)/\RVs K S ps xs
 | .lst ps,v=>∃ a xs,v=.ref a/\S a=some (.lst xs)/\RVs K S ps xs
 | .scr ns,v=>∃ a,v=.ref a/\ScrAt K S a ns
 | .shn d,v=>v=.str (qc d).shown
 | .dct ks vs,v=>∃ a xs,v=.ref a/\ks.length=vs.length/\S a=some (.dT ((oH ks).zip xs))/\RVs K S vs xs
 | .dci ks vs,v=>∃ a xs,v=.ref a/\ks.length=vs.length/\S a=some (.dK ((pQ ks).zip xs))/\RVs K S vs xs
 | .dcz o ks vs,v=>∃ a xs,v=.ref a/\ks.length=vs.length/\S a=some (.frz o (.dT ((oH ks).zip xs)))/\RVs K S vs xs
 | .dcn z ks vs,v=>∃ a xs,v=.ref a/\ks.length=vs.length/\S a=some (Ng (.dT ((G1 ks).zip xs)) z)/\RVs K S vs xs
 | .obj C dx fs gs,v=>∃ a,v=.ref a/\S a=some (.big C dx fs gs)
noncomputable def RVs (K:kj)(S:Hp):List FV->List V->Prop
 | [],vs=>vs=[]
 | p :: ps,vs=>∃ v r,vs=v :: r/\RV K S p v/\RVs K S ps r
end
mutual
theorem RV.mono {K:kj}{S S':Hp}(x:Same S S'):∀ {p:FV}{v:V},RV K S p v->RV K S' p v
 | .non,v,h=>h
 | .bl b,v,h=>h
 | .int i,v,h=>h
 | .str _,v,h=>h
 | .shn _,v,h=>h
 | .tup ps,v,q1=>by let(a,xs,e,h1,h2):=q1;exact⟨a,xs,e,x _ _ h1,RVs.mono x h2⟩
 | .lst ps,v,q2=>by let(a,xs,e,h1,h2):=q2;exact⟨a,xs,e,x _ _ h1,RVs.mono x h2⟩
 | .dct ks vs,v,q3=>by let(a,xs,e,h0,h1,h2):=q3;exact⟨a,xs,e,h0,x _ _ h1,RVs.mono x h2⟩
 | .dci ks vs,v,q4=>by let(a,xs,e,h0,h1,h2):=q4;exact⟨a,xs,e,h0,x _ _ h1,RVs.mono x h2⟩
 | .dcz o ks vs,v,q5=>by let(a,xs,e,h0,h1,h2):=q5;exact⟨a,xs,e,h0,x _ _ h1,RVs.mono x h2⟩
 | .dcn z ks vs,v,q6=>by let(a,xs,e,h0,h1,h2):=q6;exact⟨a,xs,e,h0,x _ _ h1,RVs.mono x h2⟩
 | .obj _ _ _ _,v,q7=>by let(a,e,h):=q7;exact⟨a,e,x _ _ h⟩
 | .scr ns,v,q8=>by let(a,e,h):=q8;exact⟨a,e,h.elim (λq9=>by let(o,h):=q9;exact .inl ⟨o,x _ _ h⟩) .inr⟩
theorem RVs.mono {K:kj}{S S':Hp}(x:Same S S'):∀ {ps:List FV}{vs:List V},RVs K S ps vs->RVs K S' ps vs
 | [],vs,h=>h
 | p :: ps,vs,q1=>by let(v,r,e,h1,h2):=q1;exact⟨v,r,e,RV.mono x h1,RVs.mono x h2⟩
end
section
variable {K:kj}{S H:Hp}
theorem RVs.length:∀ {ps:List FV}{vs:List V},RVs K S ps vs->ps.length=vs.length
 | [],vs,h=>by cases (show vs=[] from h);rfl
 | p :: ps,vs,h=>by
  let(v,r,e,_,h2):=h
  subst e
  rw[gp,gp,RVs.length h2]
theorem RVs.get:∀ {ps:List FV}{vs:List V}{i:Nat}{p:FV},RVs K S ps vs->ps[i]?=some p->∃ v,vs[i]?=some v/\RV K S p v
 | [],vs,i,p,_,e=>by simp at e
 | q :: ps,vs,0,p,q1,e=>by
  let(v,r,e',h1,_):=q1
  subst e'
  simp at e;subst e
  exact⟨v,rfl,h1⟩
 | q :: ps,vs,i+1,p,q2,e=>by
  let(v,r,e',_,h2):=q2
  subst e'
  simpa using RVs.get (i:=i) (p:=p) h2 (by simpa using e)
theorem RVs.append:∀ {ps qs:List FV}{vs us:List V},RVs K S ps vs->RVs K S qs us->RVs K S (ps++qs) (vs++us)
 | [],qs,vs,us,h,g=>by cases (show vs=[] from h);exact g
 | p :: ps,qs,vs,us,q1,g=>by
  let(v,r,e,h1,h2):=q1
  subst e
  exact⟨v,r++us,rfl,h1,RVs.append h2 g⟩
theorem RVs.one {p:FV}{v:V}(h:RV K S p v):RVs K S [p] [v]:=⟨v,[],rfl,h,rfl⟩
theorem RVs.take:∀ {ps:List FV}{vs:List V} (n:Nat),RVs K S ps vs->RVs K S (ps.take n) (vs.take n)
 | [],vs,n,h=>by cases (show vs=[] from h);rw[jM,jM];rfl
 | p :: ps,vs,0,h=>rfl
 | p :: ps,vs,n+1,q1=>by
  let(v,r,e,h1,h2):=q1
  subst e
  exact⟨v,r.take n,rfl,h1,RVs.take n h2⟩
theorem RVs.drop:∀ {ps:List FV}{vs:List V} (n:Nat),RVs K S ps vs->RVs K S (ps.drop n) (vs.drop n)
 | [],vs,n,h=>by cases (show vs=[] from h);rw[jT,jT];rfl
 | p :: ps,vs,0,h=>h
 | p :: ps,vs,n+1,q1=>by
  let(v,r,e,h1,h2):=q1
  subst e
  exact RVs.drop n h2
theorem RVs.set:∀ {ps:List FV}{vs:List V} (n:Nat){p:FV}{v:V},RVs K S ps vs->RV K S p v->RVs K S (ps.set n p) (vs.set n v)
 | [],vs,n,p,v,h,_=>by cases (show vs=[] from h);rfl
 | q :: ps,vs,0,p,v,q1,g=>by
  let(v',r,e,h1,h2):=q1
  subst e
  exact⟨v,r,rfl,g,h2⟩
 | q :: ps,vs,n+1,p,v,q2,g=>by
  let(v',r,e,h1,h2):=q2
  subst e
  exact⟨v',r.set n v,rfl,h1,RVs.set n h2 g⟩
theorem RVs.rev:∀ {ps:List FV}{vs:List V},RVs K S ps vs->RVs K S ps.reverse vs.reverse
 | [],vs,h=>by cases (show vs=[] from h);exact h
 | p :: ps,vs,q1=>by
  let(v,r,e,h1,h2):=q1
  subst e
  rw[fm,fm]
  exact (RVs.rev h2).append (RVs.one h1)
theorem RVs.rep {ps:List FV}{vs:List V}(h:RVs K S ps vs):∀ k:Nat,RVs K S (jf k ps).flatten (jf k vs).flatten
 | 0=>rfl
 | k+1=>by
  rw[da,da,fy,fy]
  exact h.append (h.rep k)
theorem RVs.ns:∀ (ns:List Int),RVs K S (ns.map .int) (ns.map V.int)
 | []=>rfl
 | n :: ns=>⟨_,_,rfl,rfl,RVs.ns ns⟩
theorem RVs.one_of {p:FV}{us:List V}(h:RVs K S [p] us):∃ u,us=[u]/\RV K S p u:=by
 let(v,r,rfl,h1,h2):=h
 cases (show r=[] from h2)
 exact⟨v,rfl,h1⟩
theorem RVs.two_of {p q:FV}{us:List V}(h:RVs K S [p,q] us):∃ u v,us=[u,v]/\RV K S p u/\RV K S q v:=by
 let(v,r,rfl,h1,h2):=h
 let(u,rfl,h3):=h2.one_of
 exact⟨v,u,rfl,h1,h3⟩
def Fk:FV->Option (List FV)
 | .lst ps=>some ps
 | .dct ks vs=>if ks.length=vs.length then some vs else none
 | .dci ks vs=>if ks.length=vs.length then some vs else none
 | .dcz _ ks vs=>if ks.length=vs.length then some vs else none
 | .dcn _ ks vs=>if ks.length=vs.length then some vs else none
 | .obj _ _ _ _=>some []
 | _=>none
def xX:FV->List V->HO
 | .dct ks _,xs=>.dT ((oH ks).zip xs)
 | .dci ks _,xs=>.dK ((pQ ks).zip xs)
 | .dcz o ks _,xs=>.frz o (.dT ((oH ks).zip xs))
 | .dcn z ks _,xs=>Ng (.dT ((G1 ks).zip xs)) z
 | .obj C dx fs gs,_=>.big C dx fs gs
 | _,xs=>.lst xs
inductive OwnAt (K:kj)(S H:Hp)(a:m4)(v:FV):Prop
 | mk (_:S a=none)(ps:_)(xs:_)(_:Fk v=some ps)(_:H a=some (xX v xs))(_:RVs K S ps xs):OwnAt K S H a v
def RH (K:kj)(S H:Hp)(v:FV)(x:V):Prop:=RV K S v x ∨ ∃ a,x=.ref a/\OwnAt K S H a v
theorem RH.lst {ps:List FV}{x:V}(s:Same S H)(h:RH K S H (.lst ps) x):∃ a xs,x=.ref a/\H a=some (.lst xs)/\RVs K S ps xs:=by
 rcases h with⟨a,xs,e,h1,h2⟩|⟨a,e,_,qs,xs,e2,h1,h2⟩
 ·exact⟨a,xs,e,s _ _ h1,h2⟩
 ·cases e2;exact⟨a,xs,e,h1,h2⟩
theorem RH.val {v:FV}{x:V}(h:RH K S H v x)(n:Fk v=none):RV K S v x:=by
 rcases h with h|⟨a,_,_,ps,xs,e,_⟩
 ·exact h
 ·rw[n] at e;cases e
theorem RH.tup {ps:List FV}{x:V}(s:Same S H)(h:RH K S H (.tup ps) x):∃ a xs,x=.ref a/\H a=some (.tup xs)/\RVs K S ps xs:=by
 let(a,xs,e,h1,h2):=h.val rfl
 exact⟨a,xs,e,s _ _ h1,h2⟩
theorem ScrAt.sq {a:m4}{ns:List Int}(s:Same S H)(h:ScrAt K S a ns):SqL K H a (ns.map V.int):=by
 rcases h with⟨o,h⟩|h
 ·exact .inl (.inr ⟨o,s _ _ h⟩)
 ·rcases h with (h|⟨o,h⟩)|h
  ·cases h
  ·cases h
  ·exact .inr h
def pP:FV->Option (List FV)
 | .lst xs=>some xs
 | .scr ns=>some (ns.map .int)
 | _=>none
def oG:FV->Option (List FV)
 | .tup xs=>some xs
 | v=>pP v
theorem RH.list {v:FV}{ps:List FV}{x:V}(s:Same S H)(h:RH K S H v x)(e:pP v=some ps):∃ a xs,x=.ref a/\SqL K H a xs/\RVs K S ps xs:=by
 cases v with
 | lst qs =>
  cases e
  let(a,xs,rfl,h1,h2):=h.lst s
  exact⟨a,xs,rfl,SqL.of h1,h2⟩
 | scr ns =>
  cases e
  let(a,rfl,g):=h.val rfl
  exact⟨a,_,rfl,ScrAt.sq s g,RVs.ns ns⟩
 | _=>cases e
def Nb:FV->Bool
 | .tup _=>false
 | _=>true
theorem RH.seq {v:FV}{ps:List FV}{x:V}(s:Same S H)(h:RH K S H v x)(e:oG v=some ps):∃ a xs,x=.ref a/\vm (Nb v) K H a xs/\RVs K S ps xs:=by
 cases v with
 | tup qs =>
  cases e
  let(a,xs,rfl,h1,h2):=h.tup s
  exact⟨a,xs,rfl,SqT.of h1,h2⟩
 | lst qs=>exact h.list s e
 | scr qs=>exact h.list s e
 | _=>cases e
end
def rS:HO->Bool
 | .tup _=>true
 | _=>false
theorem qC (v:FV)(xs:List V):rS (xX v xs)=false:=by
 cases v with
 | dcn z ks vs=>cases z<;>rfl
 | _=>rfl
structure Cn where
 H0:Hp
 S0:Hp
 P0:Option m4
 fz:List (Nat×m4)
 pr:List (m4×HO)
 P1:List (Nat×m4)
structure Iv (K:kj)(c:Cn)(md:Md)(L:m7)(σ:L2.St)(S H:Hp):Prop where
 len:L.length=σ.length
 imm:∀ i v,nq md i=.imm->L[i]?=some (some v)->∃ x,σ[i]?=some (some x)/\RV K S v x
 own:∀ i v,nq md i≠.imm->L[i]?=some (some v)->∃ a,σ[i]?=some (some (.ref a))/\OwnAt K S H a v/\(c.P0=some a ∨ c.H0 a=none ∨ ∃ j,(j,a)∈c.P1)
 dis:∀ i j v w a,nq md i≠.imm->nq md j≠.imm->L[i]?=some (some v)->L[j]?=some (some w)->σ[i]?=some (some (.ref a))->σ[j]?=some (some (.ref a))->i=j
 sub:Same S H
 frame:∀ a o,c.H0 a=some o->c.P0≠some a->(∀ j,(j,a) ∉ c.P1)->H a=some o
 s0:Same c.S0 S
 grow:∀ a o,S a=some o->c.S0 a=some o ∨ c.H0 a=none ∨ rS o=true
 lent:∀ a,c.P0=some a->nq md 0≠.imm/\σ[0]?=some (some (.ref a))/\∃ v,L[0]?=some (some v)
 fzs:∀ p∈c.fz,nq md p.1=.frz/\σ[p.1]?=some (some (.ref p.2))/\∃ v,L[p.1]?=some (some v)
 fzm:∀ i v,nq md i=.frz->L[i]?=some (some v)->∃ a,(i,a)∈c.fz
 fzp:∀ p∈c.fz,∃ o,(p.2,o)∈c.pr
 prs:∀ p∈c.pr,H p.1=some p.2/\S p.1=none/\∀ i v,(nq md i).w=true->L[i]?=some (some v)->σ[i]?≠some (some (.ref p.1))
 ntp:∀ p∈c.pr,rS p.2=false
 lnt1:∀ q∈c.P1,(nq md q.1).g=true/\σ[q.1]?=some (some (.ref q.2))/\∃ v,L[q.1]?=some (some v)
 tie:∀ j i x C dx fs v,nq md j=.gst i x->nq md i=.ob->L[i]?=some (some (.obj C dx fs []))->L[j]?=some (some v)->∃ u,fs.lookup x=some u/\σ[j]?=some (some u)
section
variable {K:kj}{c:Cn}{md:Md}{L:m7}{σ:L2.St}{S H S' H':Hp}
theorem Iv.h0 (I:Iv K c md L σ S H){p:m4}(h:H p=none):c.H0 p=none:=by
 cases e:c.H0 p with
 | none=>rfl
 | some o =>
  by_cases z:c.P0=some p
  ·let(m,e1,v,e2):=I.lent p z
   let(a,e3,(_,_,_,_,e4,_),_):=I.own 0 v m e2
   rw[e1] at e3;cases e3
   rw[h] at e4;cases e4
  ·by_cases z1:∃ j,(j,p)∈c.P1
   ·let(j,hj):=z1
    let(g,e1,v,e2):=I.lnt1 _ hj
    let(a,e3,(_,_,_,_,e4,_),_):=I.own j v (λz=>by rw[z] at g;cases g) e2
    rw[e1] at e3;cases e3
    rw[h] at e4;cases e4
   ·rw[I.frame p o e z λj hj=>z1 ⟨j,hj⟩] at h;cases h
theorem Iv.sn (I:Iv K c md L σ S H){p:m4}(h:H p=none):S p=none:=by
 cases e:S p with
 | none=>rfl
 | some o=>rw[I.sub p o e] at h;cases h
theorem Iv.go3 (I:Iv K c md L σ S H)(s:Same S S')(sub:Same S' H')(g:∀ a o,S' a=some o->S a=some o ∨ H a=none ∨ rS o=true)(k:∀ a o,H a=some o->H' a=some o):Iv K c md L σ S' H' where
 len:=I.len
 imm:=λi v h e=>let ⟨x,e1,r⟩:=I.imm i v h e;⟨x,e1,r.mono s⟩
 own:=λi v h e=>by
  let(a,e1,(h1,ps,xs,e2,h2,h3),h4):=I.own i v h e
  refine⟨a,e1,⟨?_,ps,xs,e2,k _ _ h2,h3.mono s⟩,h4⟩
  cases q:S' a with
  | none=>rfl
  | some o =>
   rcases g a o q with z|z|z
   ·rw[h1] at z;cases z
   ·rw[h2] at z;cases z
   ·have:=sub a o q
    rw[k _ _ h2] at this
    rw[<- hW this,qC] at z;cases z
 dis:=I.dis
 sub:=sub
 frame:=λa o h n n1=>k _ _ (I.frame a o h n n1)
 s0:=I.s0.trans s
 grow:=λa o h=>(g a o h).elim (I.grow a o) λz=>z.elim (λz=>.inr (.inl (I.h0 z))) λz=>.inr (.inr z)
 lent:=I.lent
 fzs:=I.fzs
 fzm:=I.fzm
 fzp:=I.fzp
 prs:=λp hp=>by
  let(h1,h2,h3):=I.prs p hp
  refine⟨k _ _ h1,?_,h3⟩
  cases q:S' p.1 with
  | none=>rfl
  | some o =>
   rcases g _ o q with z|z|z
   ·rw[h2] at z;cases z
   ·rw[h1] at z;cases z
   ·have:=sub _ o q
    rw[k _ _ h1] at this
    rw[<- hW this,I.ntp p hp] at z;cases z
 ntp:=I.ntp
 lnt1:=I.lnt1
 tie:=I.tie
theorem Iv.go (I:Iv K c md L σ S H)(s:Same S S')(sub:Same S' H')(g:∀ a o,S' a=some o->S a=some o ∨ H a=none)(k:∀ a o,H a=some o->H' a=some o):Iv K c md L σ S' H':=I.go3 s sub (λa o e=>(g a o e).imp_right .inl) k
theorem nX {p:m4}{o:HO}(h:H p=none):Same H (oj H p o):=λa u e=>by rw[nv (oo e h)];exact e
theorem Iv.new (I:Iv K c md L σ S H){p:m4}(h:H p=none)(o:HO):Iv K c md L σ (oj S p o) (oj H p o) :=
 I.go (nX (I.sn h)) (λa u e=>by
  by_cases z:a=p
  ·subst z;rw[nD] at e ⊢;exact e
  ·rw[nv z] at e ⊢;exact I.sub a u e) (λa u e=>by
  by_cases z:a=p
  ·subst z;exact .inr h
  ·rw[nv z] at e;exact .inl e) (nX h)
theorem Iv.lay (I:Iv K c md L σ S H){p:m4}(h:H p=none)(o:HO):Iv K c md L σ S (oj H p o) :=
 I.go (Same.refl S) (I.sub.trans (nX h)) (λa u e=>.inl e) (nX h)
theorem Iv.back4 (I:Iv K c md L σ S H){i:Nat}{v w:FV}{a:m4}(m:(nq md i).w=true)(e:L[i]?=some (some v))(e1:σ[i]?=some (some (.ref a)))(s:Same S S')(sub:Same S' H')(g:∀ a o,S' a=some o->S a=some o ∨ H a=none ∨ rS o=true)
  (k:∀ b o,H b=some o->b≠a->H' b=some o)(new:OwnAt K S' H' a w)(ht:∀ j x C dx fs u,nq md j=.gst i x->nq md i=.ob->w=.obj C dx fs []->L[j]?=some (some u)->∃ u,fs.lookup x=some u/\σ[j]?=some (some u)):Iv K c md (L.set i (some w)) σ S' H':=by
 have mi:=Mo.w_imm m
 have hi:=(aN.mp e).1
 let(a',e1',(h1,qs,ys,_,h2,h3),h4):=I.own i v mi e
 rw[e1] at e1';cases e1'
 have look:∀ j u,(L.set i (some w))[j]?=some (some u)->(j=i/\u=w) ∨ (j≠i/\L[j]?=some (some u)):=λj u z=>by
  by_cases q:j=i
  ·subst q;rw[bO hi] at z;cases z;exact .inl ⟨rfl,rfl⟩
  ·rw[cO (mq q)] at z;exact .inr ⟨q,z⟩
 have lookx:∀ j,(∃ u,L[j]?=some (some u))->∃ u,(L.set i (some w))[j]?=some (some u):=λj h=>by
  let(u,z):=h
  by_cases q:j=i
  ·subst q;exact⟨_,bO hi⟩
  ·exact⟨u,by rw[cO (mq q)];exact z⟩
 have old:∀ j u,(L.set i (some w))[j]?=some (some u)->∃ u,L[j]?=some (some u):=λj u z=>(look j u z).elim (λq=>⟨v,by rw[q.1];exact e⟩) λq=>⟨u,q.2⟩
 refine⟨by rw[iw];exact I.len,λj u hm z=>?_,λj u hm z=>?_,λj k u u2 b m1 m2 z1 z2=>?_,sub,λb o z n n1=>?_,I.s0.trans s,λb o z=>(g b o z).elim (I.grow b o) λz=>z.elim (λz=>.inr (.inl (I.h0 z))) λz=>.inr (.inr z),λb z=>?_,λp hp=>?_,λj u hm z=>?_,I.fzp,λp hp=>?_,I.ntp,λq hq=>?_,λj i' x C dx fs u h1 h2 h3 h4=>?_⟩
 ·rcases look j u z with⟨q,_⟩|⟨_,z⟩
  ·rw[q] at hm;exact absurd hm mi
  ·let(x,f1,f2):=I.imm j u hm z
   exact⟨x,f1,f2.mono s⟩
 ·rcases look j u z with⟨rfl,rfl⟩|⟨q,z⟩
  ·exact⟨a,e1,new,h4⟩
  ·let(b,f1,(g1,rs,zs,g2,g3,g4),g5):=I.own j u hm z
   have hb:b≠a:=λy=>by subst y;exact q (I.dis j i u v b hm mi z e f1 e1)
   refine⟨b,f1,⟨?_,rs,zs,g2,k b _ g3 hb,g4.mono s⟩,g5⟩
   cases q':S' b with
   | none=>rfl
   | some o =>
    rcases g b o q' with z|z|z
    ·rw[g1] at z;cases z
    ·rw[g3] at z;cases z
    ·have:=sub b o q'
     rw[k b _ g3 hb] at this
     rw[<- hW this,qC] at z;cases z
 ·let(w',z1):=old j u z1
  let(u',z2):=old k u2 z2
  exact I.dis j k w' u' b m1 m2 z1 z2
 ·refine k b o (I.frame b o z n n1) λy=>?_
  subst y
  rcases h4 with y|y|⟨j,y⟩
  ·exact n y
  ·rw[z] at y;cases y
  ·exact n1 j y
 ·let(g1,g2,g3):=I.lent b z
  exact⟨g1,g2,lookx 0 g3⟩
 ·let(g1,g2,g4):=I.fzs p hp
  exact⟨g1,g2,lookx _ g4⟩
 ·rcases look j u z with⟨q,_⟩|⟨_,z⟩
  ·rw[q] at hm;exact absurd hm (Mo.w_frz m)
  ·exact I.fzm j u hm z
 ·let(g1,g2,g3):=I.prs p hp
  have kp:=k _ _ g1 λy=>g3 i v m e (by rw[y];exact e1)
  refine⟨kp,?_,λj u hm z=>let ⟨u',z'⟩:=old j u z;g3 j u' hm z'⟩
  cases q':S' p.1 with
  | none=>rfl
  | some o =>
   rcases g _ o q' with z|z|z
   ·rw[g2] at z;cases z
   ·rw[g1] at z;cases z
   ·have:=sub _ o q'
    rw[kp] at this
    rw[<- hW this,I.ntp p hp] at z;cases z
 ·let(g1,g2,g3):=I.lnt1 q hq
  exact⟨g1,g2,lookx _ g3⟩
 ·let(u',h4'):=old j u h4
  rcases look i' _ h3 with⟨rfl,e9⟩|⟨_,h3⟩
  ·exact ht j x C dx fs u' h1 h2 e9.symm h4'
  ·exact I.tie j i' x C dx fs u' h1 h2 h3 h4'
theorem Iv.back3 (I:Iv K c md L σ S H){i:Nat}{v w:FV}{a:m4}(m:nq md i=.own)(e:L[i]?=some (some v))(e1:σ[i]?=some (some (.ref a)))(s:Same S S')(sub:Same S' H')(g:∀ a o,S' a=some o->S a=some o ∨ H a=none ∨ rS o=true)
  (k:∀ b o,H b=some o->b≠a->H' b=some o)(new:OwnAt K S' H' a w):Iv K c md (L.set i (some w)) σ S' H':=I.back4 (Mo.w_own m) e e1 s sub g k new λ_ _ _ _ _ _ _ z=>by rw[m] at z;cases z
theorem Iv.back (I:Iv K c md L σ S H){i:Nat}{v w:FV}{a:m4}(m:nq md i=.own)(e:L[i]?=some (some v))(e1:σ[i]?=some (some (.ref a)))(s:Same S S')(sub:Same S' H')(g:∀ a o,S' a=some o->S a=some o ∨ H a=none)
  (k:∀ b o,H b=some o->b≠a->H' b=some o)(new:OwnAt K S' H' a w):Iv K c md (L.set i (some w)) σ S' H':=I.back3 m e e1 s sub (λa o e=>(g a o e).imp_right .inl) k new
theorem Iv.write (I:Iv K c md L σ S H){i:Nat}{v:FV}{a:m4}{ps:List FV}{xs:List V}(m:nq md i=.own)(e:L[i]?=some (some v))(e1:σ[i]?=some (some (.ref a)))(r:RVs K S ps xs) :
  Iv K c md (L.set i (some (.lst ps))) σ S (oj H a (.lst xs)):=by
 let(a',e1',(h1,_),_):=I.own i v (λz=>by rw[m] at z;cases z) e
 rw[e1] at e1';cases e1'
 exact I.back m e e1 (Same.refl S) (λb o z=>by rw[nv λy=>by subst y;rw[h1] at z;cases z];exact I.sub b o z) (λb o z=>.inl z) (λb o z n=>by rw[nv n];exact z) ⟨h1,ps,xs,rfl,nD,r⟩
theorem Iv.set (I:Iv K c md L σ S H){i:Nat}{v:FV}{x:V}(ni:∀ a,c.P0=some a->i≠0)(nf:nq md i≠.frz)(h:(nq md i=.imm/\RV K S v x) ∨ (nq md i=.own/\∃ a,x=.ref a/\OwnAt K S H a v/\c.H0 a=none/\(∀ p∈c.pr,p.1≠a)/\∀ j w,j≠i->nq md j≠.imm->L[j]?=some (some w)->σ[j]?≠some (some (.ref a)))) :
  Iv K c md (L.set i (some v)) (σ.set i (some x)) S H:=by
 have look:∀ j w,(L.set i (some v))[j]?=some (some w)->(j=i/\w=v/\(σ.set i (some x))[j]?=some (some x)) ∨ (j≠i/\L[j]?=some (some w)/\(σ.set i (some x))[j]?=σ[j]?):=λj w z=>by
  by_cases q:j=i
  ·subst q
   have hj:j<L.length:=by have:=(aN.mp z).1;rwa [iw] at this
   rw[bO hj] at z;cases z
   exact .inl ⟨rfl,rfl,by rw[bO (by rw[<- I.len];exact hj)]⟩
  ·rw[cO (mq q)] at z
   exact .inr ⟨q,z,cO (mq q)⟩
 have far:∀ j,j≠i->(L.set i (some v))[j]?=L[j]?/\(σ.set i (some x))[j]?=σ[j]?:=λj q=>⟨cO (mq q),cO (mq q)⟩
 refine⟨by rw[iw,iw];exact I.len,λj w hm z=>?_,λj w hm z=>?_,λj k w u b m1 m2 z1 z2 y1 y2=>?_,I.sub,I.frame,I.s0,I.grow,λb z=>?_,λp hp=>?_,λj w hm z=>?_,I.fzp,λp hp=>?_,I.ntp,λq hq=>?_,λj k y C dx fs u h1 h2 h3 h4=>?_⟩
 ·rcases look j w z with⟨rfl,rfl,y⟩|⟨q,z,y⟩
  ·rcases h with⟨_,r⟩|⟨hm',_⟩
   ·exact⟨x,y,r⟩
   ·rw[hm] at hm';cases hm'
  ·rw[y];exact I.imm j w hm z
 ·rcases look j w z with⟨rfl,rfl,y⟩|⟨q,z,y⟩
  ·rcases h with⟨hm',_⟩|⟨_,a,rfl,o,h0,_,_⟩
   ·exact absurd hm' hm
   ·exact⟨a,y,o,.inr (.inl h0)⟩
  ·rw[y];exact I.own j w hm z
 ·rcases look j w z1 with⟨p1,p2,p3⟩|⟨p1,p2,p3⟩
  ·rcases look k u z2 with⟨q1,q2,q3⟩|⟨q1,q2,q3⟩
   ·rw[p1,q1]
   ·rcases h with⟨hm',_⟩|⟨_,a,rfl,_,_,_,n⟩
    ·rw[p1] at m1;exact absurd hm' m1
    ·rw[p3] at y1;cases y1
     rw[q3] at y2
     exact absurd y2 (n k u q1 m2 q2)
  ·rw[p3] at y1
   rcases look k u z2 with⟨q1,q2,q3⟩|⟨q1,q2,q3⟩
   ·rcases h with⟨hm',_⟩|⟨_,a,rfl,_,_,_,n⟩
    ·rw[q1] at m2;exact absurd hm' m2
    ·rw[q3] at y2;cases y2
     exact absurd y1 (n j w p1 m1 p2)
   ·rw[q3] at y2
    exact I.dis j k w u b m1 m2 p2 q2 y1 y2
 ·let(g1,g2,g3):=I.lent b z
  let(f1,f2):=far 0 (mq (ni b z))
  rw[f1,f2];exact⟨g1,g2,g3⟩
 ·let(g1,g2,g4):=I.fzs p hp
  let(f1,f2):=far p.1 λy=>nf (by rw[<- y];exact g1)
  rw[f1,f2];exact⟨g1,g2,g4⟩
 ·rcases look j w z with⟨rfl,_,_⟩|⟨_,z,_⟩
  ·exact absurd hm nf
  ·exact I.fzm j w hm z
 ·let(g1,g2,g3):=I.prs p hp
  refine⟨g1,g2,λj w hm z=>?_⟩
  rcases look j w z with⟨q1,q2,q3⟩|⟨q1,q2,q3⟩
  ·rcases h with⟨hm',_⟩|⟨_,a,rfl,_,_,n,_⟩
   ·rw[q1,hm'] at hm;cases hm
   ·rw[q3];exact λy=>n p hp (by cases y;rfl)
  ·rw[q3];exact g3 j w hm q2
 ·let(g1,g2,g3):=I.lnt1 q hq
  let(f1,f2):=far q.1 λy=>by
   rw[y] at g1
   rcases h with⟨hm',_⟩|⟨hm',_⟩<;>rw[hm'] at g1<;>cases g1
  rw[f1,f2];exact⟨g1,g2,g3⟩
 ·have n1:j≠i:=λy=>by
   rw[y] at h1
   rcases h with⟨hm',_⟩|⟨hm',_⟩<;>rw[hm'] at h1<;>cases h1
  have n2:k≠i:=λy=>by
   rw[y] at h2
   rcases h with⟨hm',_⟩|⟨hm',_⟩<;>rw[hm'] at h2<;>cases h2
  rw[(far j n1).1] at h4
  rw[(far k n2).1] at h3
  rw[(far j n1).2]
  exact I.tie j k y C dx fs u h1 h2 h3 h4
end
end Kq
namespace Kq
def pq {α β:Type}(f:α->Option β):List α->Option (List β)
 | []=>some []
 | x :: xs=>(f x).bind λy=>(pq f xs).map (y :: ·)
def fD:Nat->FV->Option D
 | 0,_=>none
 | n+1,v=>match v with
  | .non=>some .non
  | .bl b=>some (.bl b)
  | .int i=>some (.int i)
  | .str x=>some (.str x)
  | .tup xs=>(pq (fD n) xs).map .tup
  | .lst xs=>(pq (fD n) xs).map .lst
  | .scr _=>none
  | .shn _=>none
  | .dct _ _=>none
  | .dci _ _=>none
  | .dcz _ _ _=>none
  | .obj _ _ _ _=>none|.dcn _ _ _=>none
def nA:Nat:=40
def tN:FV->Option Bool
 | .non=>some false
 | .bl b=>some b
 | .int i=>some (i != 0)
 | .str _=>none
 | .tup xs=>some (!xs.isEmpty)
 | .lst xs=>some (!xs.isEmpty)
 | .scr xs=>some (!xs.isEmpty)
 | .shn _=>none
 | .dct _ _=>none
 | .dci _ _=>none
 | .dcz _ _ _=>none
 | .obj _ _ _ _=>none|.dcn _ _ _=>none
def o9:FV->Option Int|.int i=>some i|_=>none
def qp:FV->Option (List FV)|.tup xs=>some xs|_=>none
def tQ:FV->Option (List FV)|.lst xs=>some xs|_=>none
def small (i:Int):Bool:=decide (-(2 ^ 64)<i/\i<2 ^ 64)
def ou (i:Int):Bool:=decide (-(2 ^ 62)<=i/\i<2 ^ 62)
def su (i:Int):Bool:=decide (-(2 ^ 40)<=i/\i<=2 ^ 40)
def P5 (a b:FV):Option Bool:=(fD nA a).bind λx=>(fD nA b).bind λy=>some (D.eqv x y)
def xk (a b:FV):Option Bool:=match a,b with
 | .shn x,.shn y=>open Classical in if x=y then some true else none
 | a,b=>P5 a b
def inD:D->D->Option Bool
 | x,.lst xs=>some (xs.any λy=>D.eqv y x)
 | x,.tup xs=>some (xs.any λy=>D.eqv y x)
 | _,_=>none
def Ez (a b:FV):Option Bool:=(fD nA a).bind λx=>(fD nA b).bind λy=>inD x y
def oq:List FV->Option (List Int)
 | []=>some []
 | .int i :: r=>(oq r).map (i :: ·)
 | _=>none
def sj:List FV->Option (List Bool)
 | []=>some []
 | .bl b :: r=>(sj r).map (b :: ·)
 | _=>none
def lexLt:List Int->List Int->Bool
 | [],[]=>false
 | [],_ :: _=>true
 | _ :: _,[]=>false
 | a :: r,b :: q=>if a=b then lexLt r q else decide (a<b)
def lexLe:List Int->List Int->Bool
 | [],[]=>true
 | [],_ :: _=>true
 | _ :: _,[]=>false
 | a :: r,b :: q=>if a=b then lexLe r q else decide (a<=b)
def pA (f:Int->Int->Option FV)(v w:FV):Option FV:=(o9 v).bind λi=>(o9 w).bind λj=>f i j
def nJ (v w:FV):Option FV:=match v with
 | .tup xs=>(qp w).bind λys=>if xs.length+ys.length<=big then some (.tup (xs++ys)) else none
 | .lst xs=>(tQ w).bind λys=>if xs.length+ys.length<=big then some (.lst (xs++ys)) else none
 | v=>pA (λi j=>some (.int (i+j))) v w
def rJ:FV->FV->Option FV:=pA λi j=>some (.int (i-j))
def qt (v w:FV):Option FV:=match v with
 | .lst xs=>(o9 w).bind λk=>if -(2 ^ 63)<=k/\k<2 ^ 63/\xs.length*k.toNat<=big then some (.lst (jf k.toNat xs).flatten) else none
 | v=>pA (λi j=>if (small i || small j)=true then some (.int (i*j)) else none) v w
def tI:FV->FV->Option FV:=pA λi j=>if 0<j/\j<1073741824 then some (.int (i / j)) else none
def tP:FV->FV->Option FV:=pA λi j=>if 0<j then some (.int (i % j)) else none
def wQ:FV->FV->Option FV:=pA λi j=>if 0<=j/\j<=1000/\small i=true then some (.int (i ^ j.toNat)) else none
def tJ (a b:FV):Option FV:=(xk a b).map .bl
def Cp (a b:FV):Option FV:=(xk a b).map λr=>.bl (!r)
def inB (a b:FV):Option FV:=(Ez a b).map .bl
def Fu (v w:FV):Option FV:=match v with
 | .tup xs=>(qp w).bind λys=>(oq xs).bind λa=>(oq ys).bind λb=>some (.bl (lexLt a b))
 | v=>pA (λi j=>some (.bl (decide (i<j)))) v w
def Ey (v w:FV):Option FV:=match v with
 | .tup xs=>(qp w).bind λys=>(oq xs).bind λa=>(oq ys).bind λb=>some (.bl (lexLe a b))
 | v=>pA (λi j=>some (.bl (decide (i<=j)))) v w
def Kf:FV->FV->Option FV:=pA λi j=>some (.bl (decide (j<i)))
def Ni:FV->FV->Option FV:=pA λi j=>some (.bl (decide (j<=i)))
def ixN (n:Nat) (i:Int):Option Nat:=if 0<=i then (if i<n then some i.toNat else none) else if -(n:Int)<=i then some (i+n).toNat else none
def tM (xs:List FV) (i:Int):Option FV:=(ixN xs.length i).bind λj=>xs[j]?
def nY (v w:FV):Option FV:=(o9 w).bind λj=>(oG v).bind λxs=>tM xs j
def x6:FV->FV->Option FV:=pA λi j=>some (.int (if j<i then j else i))
def Az:FV->FV->Option FV:=pA λi j=>some (.int (if j > i then j else i))
def pT:FV->Option FV|.non=>some (.bl true)|_=>some (.bl false)
def ph:FV->Option FV|.non=>some (.bl false)|_=>some (.bl true)
def wT (v:FV):Option FV:=(o9 v).map λi=>.int (-i)
def pS (v:FV):Option FV:=(oG v).map λxs=>.int xs.length
def Er (v:FV):Option FV:=(o9 v).map λi=>.int (if i<0 then -i else i)
def ug:FV->Option FV|.int i=>some (.int i)|.bl b=>some (.int (if b then 1 else 0))|_=>none
def ze (xs:List FV):Option Int:=(oq xs).bind λns=>if ns.length<=big/\ns.all su=true then some ns.sum else none
def Oy (v:FV):Option FV:=(pP v).bind λxs=>(ze xs).map .int
def GK (v:FV):Option FV:=(pP v).bind λxs=>(sj xs).map λbs=>.bl (bs.all id)
def n8 (b:Int):List Int->Int
 | []=>b
 | x :: r=>n8 (if x<b then x else b) r
def BR (xs:List FV):Option FV:=(oq xs).bind λns=>match ns with
 | n :: r=>some (.int (n8 n r))
 | []=>none
def x5 (v:FV):Option FV:=(pP v).bind BR
def oZ (v:FV):Option FV:=(oG v).map .tup
def Hu (v:FV):Option FV:=(fD nA v).bind λd=>if d.fit=true/\d.wt<=big then some (.shn d) else none
def pW (v:FV):Option FV:=match v with
 | .non=>some (.str "None")
 | .bl b=>some (.str (if b then "True" else "False"))
 | .str x=>some (.str x)
 | .int i=>if -(2 ^ 150)<i/\i<2 ^ 150 then some (.str (toString i)) else none
 | .tup xs=>Hu (.tup xs)
 | .lst xs=>Hu (.lst xs)
 | .scr _=>none|.shn _=>none|.dct _ _=>none|.dci _ _=>none|.dcz _ _ _=>none|.obj _ _ _ _=>none|.dcn _ _ _=>none
inductive Ty where|int|bool|str|list|tuple
 deriving DecidableEq
def sJ:FV->Ty->Option Bool
 | .non,_=>some false
 | .bl _,t=>some (t == .int || t == .bool)
 | .int _,t=>some (t == .int)
 | .str _,t=>some (t == .str)
 | .tup _,t=>some (t == .tuple)
 | .lst _,t=>some (t == .list)
 | .scr _,_=>none
 | .shn _,t=>some (t == .str)
 | .dct _ _,_=>none
 | .dci _ _,_=>none
 | .dcz _ _ _,_=>none
 | .obj _ _ _ _,_=>none
 | .dcn _ _ _,_=>none
def FQ (t:Ty)(v:FV):Option FV:=(sJ v t).map .bl
def sIx (n d:Nat):Option Int->Nat
 | none=>d
 | some v=>if v<0 then (v+n).toNat else min v.toNat n
def qh {α:Type}(xs:List α)(lo hi:Option Int):List α:=(xs.drop (sIx xs.length 0 lo)).take (sIx xs.length xs.length hi-sIx xs.length 0 lo)
def qT (v:FV)(lo hi:Option Int):Option FV:=match v with
 | .tup xs=>some (.tup (qh xs lo hi))
 | .lst xs=>some (.lst (qh xs lo hi))
 | _=>none
abbrev EW:=m7->(FV->m7->Prop)->Prop
abbrev BW:=m7->(Bool->m7->Prop)->Prop
abbrev AW:=m7->(List FV->m7->Prop)->Prop
abbrev OW:=m7->(Option Int->m7->Prop)->Prop
def m5 (i:Nat):EW:=λL Q=>wp (lk L i) λx=>Q x L
def eC (v:FV):EW:=λL Q=>Q v L
def oh (f:FV->Option FV)(a:EW):EW:=λL Q=>a L λx L1=>wp (f x) λz=>Q z L1
def nh (f:FV->FV->Option FV)(a b:EW):EW:=λL Q=>a L λx L1=>b L1 λy L2=>wp (f x y) λz=>Q z L2
def pU (f:FV->FV->Option FV) (i:Nat)(b:EW):EW:=λL Q=>wp (lk L i) λ_=>b L λy L1=>wp (lk L1 i) λx=>wp (f x y) λz=>Q z L1
def Ju (a b:EW):EW:=λL Q=>a L λx L1=>wp (tN x) λr=>if r=true then b L1 Q else Q x L1
def Qb (a b:EW):EW:=λL Q=>a L λx L1=>wp (tN x) λr=>if r=true then Q x L1 else b L1 Q
def Ki (c:BW)(a b:EW):EW:=λL Q=>c L λr L1=>if r=true then a L1 Q else b L1 Q
def nL (a:EW):BW:=λL Q=>a L λx L1=>wp (tN x) λb=>Q b L1
def Cj (a b:BW):BW:=λL Q=>a L λr L1=>if r=true then b L1 Q else Q false L1
def Ko (a b:BW):BW:=λL Q=>a L λr L1=>if r=true then Q true L1 else b L1 Q
def GE (a:BW):BW:=λL Q=>a L λr L1=>Q (!r) L1
def nR:BW:=λL Q=>Q true L
def m9:AW:=λL Q=>Q [] L
def m6 (a:EW)(r:AW):AW:=λL Q=>a L λx L1=>r L1 λxs L2=>Q (x :: xs) L2
def oQ (a:AW):EW:=λL Q=>a L λxs L1=>xs.length<=big/\Q (.tup xs) L1
def qg (a:AW):EW:=λL Q=>a L λxs L1=>xs.length<=big/\Q (.lst xs) L1
def ux:OW:=λL Q=>Q none L
def qr (a:EW):OW:=λL Q=>a L λx L1=>wp (o9 x) λi=>Q (some i) L1
def Gq (a:EW)(l h:OW):EW:=λL Q=>a L λx L1=>l L1 λi L2=>h L2 λj L3=>wp (qT x i j) λz=>Q z L3
def Gp (k:Nat)(l h:OW):EW:=λL Q=>wp (lk L k) λ_=>l L λi L2=>h L2 λj L3=>wp (lk L3 k) λx=>wp (qT x i j) λz=>Q z L3
abbrev CW:=Nat->List FV->(FV×FV->Prop)->Prop
def nF (call:CW) (f:Nat)(a:AW):EW:=λL Q=>a L λxs L1=>call f xs λz=>Q z.1 L1
def nH (call:CW) (f i:Nat)(a:AW):EW:=λL Q=>wp (lk L i) λ_=>a L λxs L1=>wp (lk L1 i) λx=>call f (x :: xs) λz=>Q z.1 (L1.set i (some z.2))
def xD (v y:FV):Option FV:=(tQ v).bind λxs=>if xs.length<big then some (.lst (xs++[y])) else none
def sN (f:FV->FV->Option FV) (i:Nat)(a:EW):EW:=λL Q=>wp (lk L i) λv=>wp (tQ v) λ_=>a L λy L1=>wp (lk L1 i) λx=>wp (f x y) λz=>Q .non (L1.set i (some z))
def tU (lo:Int):Nat->List FV
 | 0=>[]
 | n+1=>.int lo :: tU (lo+1) n
def pY (xs ys:List FV):List FV:=xs.zipWith (λp q=>.tup [p,q]) ys
def tS (a:EW):AW:=λL Q=>a L λx L1=>wp (oG x) λxs=>Q xs L1
def rL (a:EW):AW:=λL Q=>a L λx L1=>wp (o9 x) λj=>ou j=true/\Q (tU 0 j.toNat) L1
def iRng2 (a b:EW):AW:=λL Q=>a L λx L1=>b L1 λy L2=>wp (o9 x) λi=>wp (o9 y) λj=>(ou i && ou j)=true/\Q (tU i (j-i).toNat) L2
def IE (a b:EW):AW:=λL Q=>a L λx L1=>b L1 λy L2=>wp (oG x) λxs=>wp (oG y) λys=>Q (pY xs ys) L2
def AL (a:EW):AW:=λL Q=>a L λx L1=>wp (oG x) λxs=>Q (pY (tU 0 xs.length) xs) L1
inductive Tg where|nm (i:Nat)|tp (is:List Nat)|tn (i:Nat)(is:List Nat)
def Dq:List FV->Option (FV×FV)|[a,b]=>some (a,b)|_=>none
def sv:m7->List Nat->List FV->Option m7
 | L,[],[]=>some L
 | L,i :: is,v :: vs=>sv (L.set i (some v)) is vs
 | _,_,_=>none
def gW (tg:Tg)(v:FV)(L:m7)(Q:m7->Prop):Prop:=match tg with
 | .nm i=>Q (L.set i (some v))
 | .tp is=>wp (qp v) λxs=>wp (sv L is xs) Q
 | .tn i is=>wp (qp v) λxs=>wp (Dq xs) λp=>wp (qp p.2) λys=>wp (sv (L.set i (some p.1)) is ys) Q
def pR (n m:Nat)(tg:Tg)(t:BW)(e:EW):List FV->List FV->m7->(List FV->m7->Prop)->Prop
 | [],Z8,L,Q=>Q Z8 L
 | x :: xs,Z8,L,Q=>gW tg x (L++jf m none) λL1=>t L1 λb L2=>if b=true then e L2 λv L3=>pR n m tg t e xs (Z8++[v]) (L3.take n) Q else pR n m tg t e xs Z8 (L2.take n) Q
def oD (n m:Nat)(it:AW)(tg:Tg)(t:BW)(e:EW):EW:=λL Q=>it L λxs L1=>L1.length=n/\xs.length<=big/\pR n m tg t e xs [] L1 λys L2=>Q (.lst ys) L2
inductive FFl where|next|ret (v:FV)|brk|cont
abbrev SW:=m7->(FFl->m7->Prop)->Prop
def N7 (k:m7->Prop)(Q:FFl->m7->Prop):FFl->m7->Prop
 | .next,L=>k L
 | .ret v,L=>Q (.ret v) L
 | .brk,L=>Q .brk L
 | .cont,L=>Q .cont L
def oN:SW:=λL Q=>Q .next L
def nj (s r:SW):SW:=λL Q=>s L (N7 (λL1=>r L1 Q) Q)
def nB (e:EW)(tg:Tg):SW:=λL Q=>e L λx L1=>gW tg x L1 λL2=>Q .next L2
def Hv (v j x:FV):Option FV:=(tQ v).bind λxs=>(o9 j).bind λn=>(ixN xs.length n).map λp=>.lst (xs.set p x)
def BA (k:Nat)(i e:EW):SW:=λL Q=>wp (lk L k) λ_=>e L λx L1=>i L1 λj L2=>wp (lk L2 k) λy=>wp (Hv y j x) λz=>Q .next (L2.set k (some z))
def CV (f:FV->FV->Option FV) (i:Nat)(e:EW):SW:=λL Q=>wp (lk L i) λa=>e L λx L1=>wp (f a x) λz=>Q .next (L1.set i (some z))
def nO (e:EW):SW:=λL Q=>e L λx L1=>Q (.ret x) L1
def vw (e:EW):SW:=λL Q=>e L λ_ L1=>Q .next L1
def qL (c:BW)(a b:SW):SW:=λL Q=>c L λr L1=>if r=true then a L1 Q else b L1 Q
def ue (k:m7->Prop)(Q:FFl->m7->Prop):FFl->m7->Prop
 | .next,L=>k L
 | .cont,L=>k L
 | .brk,L=>Q .next L
 | .ret v,L=>Q (.ret v) L
def zK (tg:Tg)(b:SW):List FV->m7->(FFl->m7->Prop)->Prop
 | [],L,Q=>Q .next L
 | x :: xs,L,Q=>gW tg x L λL1=>b L1 (ue (λL2=>zK tg b xs L2 Q) Q)
def sA (it:AW)(tg:Tg)(b:SW):SW:=λL Q=>it L λxs L1=>zK tg b xs L1 Q
def Bq (c:BW)(b:SW):Nat->m7->(FFl->m7->Prop)->Prop
 | 0,_,_=>False
 | n+1,L,Q=>c L λr L1=>if r=true then b L1 (ue (λL2=>Bq c b n L2 Q) Q) else Q .next L1
def zl (c:BW)(b:SW):SW:=λL Q=>∃ n,Bq c b n L Q
structure FD where
 np:Nat
 ns:Nat
 body:CW->SW
 io:Bool
 fr:Bool
def vB (io fr:Bool)(Q:FV×FV->Prop):FFl->m7->Prop
 | .ret v,L=>match io with
  | true=>wp (lk L 0) λx=>Q (v,x)
  | false=>Q (v,.non)
 | .next,L=>match fr with
  | true=>False
  | false=>match io with
   | true=>wp (lk L 0) λx=>Q (.non,x)
   | false=>Q (.non,.non)
 | _,_=>False
def callW (tb:List FD):Nat->CW
 | 0,_,_,_=>False
 | d+1,f,args,Q=>match tb[f]? with
  | none=>False
  | some fd=>args.length=fd.np/\fd.body (callW tb d) (args.map some++jf (fd.ns-fd.np) none) (vB fd.io fd.fr Q)
end Kq
namespace Kq
open PySem PySem.Spec PyProof.Rows L2
theorem wS {x y:String}(h:ke x=ke y):x=y:=by
 rw[bF,bF] at h
 have h2:x.toList.map lN=y.toList.map lN:=by
  injection h with h
  simpa using congrArg kJ h
 have inj:∀ (a b:List Char),a.map lN=b.map lN->a=b:=by
  intro a
  induction a with
  | nil=>intro b hb;cases b<;>simp_all
  | cons c a ih =>
   intro b hb
   cases b with
   | nil=>simp at hb
   | cons d b =>
    simp only[jS,iD] at hb
    rw[ih b hb.2,Char.toNat_inj.mp hb.1]
 exact String.toList_inj.mp (inj _ _ h2)
theorem Hq (a b:String):(ke a == ke b)=(a == b):=by
 rw[iL]
 simp only[beq_iff_eq]
 exact⟨wS,λh=>by rw[h]⟩
theorem Hn (x:String):PyData.strOk (ke x)=true:=by
 rw[bF]
 unfold PyData.strOk
 simp only[List.all_toArray,List.all_map,gB,Function.comp_apply,decide_eq_true_eq]
 intro c _
 have h:c.val.toNat<0xd800 ∨ (0xdfff<c.val.toNat/\c.val.toNat<0x110000):=c.valid
 show c.val.toNat<1114112
 lia
mutual
theorem qK:∀ d:D,(qc d).canLay0=true
 | .non=>rfl
 | .bl _=>rfl
 | .int _=>rfl
 | .str x=>Hn x
 | .tup xs=>d_lays xs
 | .lst xs=>d_lays xs
theorem d_lays:∀ xs:List D,fc (dPys xs)=true
 | []=>rfl
 | x :: xs=>by simp only[dPys,fc,qK x,d_lays xs,j5]
end
mutual
theorem yM:∀ a b:D,PyData.eqv (qc a) (qc b)=D.eqv a b
 | .non,b=>by cases b<;>rfl
 | .bl _,b=>by cases b<;>rfl
 | .int _,b=>by cases b<;>rfl
 | .str x,b=>by cases b<;>first|rfl|exact Hq ..
 | .tup xs,b=>by cases b<;>first|rfl|exact d_eqvs ..
 | .lst xs,b=>by cases b<;>first|rfl|exact d_eqvs ..
theorem d_eqvs:∀ a b:List D,PyData.eqvAll (dPys a) (dPys b)=D.eqvs a b
 | [],b=>by cases b<;>rfl
 | x :: xs,b=>by cases b<;>first|rfl|(show (_ && _)=(_ && _);rw[yM,d_eqvs])
end
theorem yN (x:D):∀ xs:List D,((dPys xs).any λy=>PyData.eqv y (qc x))=xs.any λy=>D.eqv y x
 | []=>rfl
 | y :: r=>by simp only[dPys,jU,yM,yN x r]
mutual
theorem yL:∀ d:D,(qc d).hasDict=false
 | .non=>rfl
 | .bl _=>rfl
 | .int _=>rfl
 | .str x=>rfl
 | .tup xs=>d_nodicts xs
 | .lst xs=>d_nodicts xs
theorem d_nodicts:∀ xs:List D,fb (dPys xs)=false
 | []=>rfl
 | x :: xs=>by simp only[dPys,fb,yL x,d_nodicts xs,Bool.or_self]
end
theorem log2_lt {i:Int}{k:Nat}(hk:0<k)(h:-(2 ^ k:Int)<i/\i<2 ^ k):i.natAbs.log2<k:=by
 by_cases h0:i.natAbs=0
 ·rw[h0];simpa using hk
 ·rw[Nat.log2_lt h0]
  have e:((2 ^ k:Nat):Int)=(2:Int) ^ k:=by rw[Int.natCast_pow];rfl
  lia
mutual
theorem Ef:∀ d:D,d.fit=true->(qc d).showable=true/\(qc d).intsShort 160=true/\(qc d).weight<=d.wt
 | .non,_=>⟨rfl,rfl,kT _⟩
 | .bl _,_=>⟨rfl,rfl,kT _⟩
 | .int i,h=>by
  have h:-(2 ^ 150:Int)<i/\i<2 ^ 150:=of_decide_eq_true h
  have l1:=log2_lt (k:=150) (by decide) h
  refine⟨?_,?_,?_⟩
  ·simp only[qc,PyData.showable,decide_eq_true_eq];lia
  ·simp only[qc,PyData.intsShort,decide_eq_true_eq]
   have e:=int_text_length_le (k:=150) (by decide) l1
   show (ke (toString i)).length<=160
   rw[bX];lia
  ·simp only[qc,jH,D.wt]
   split
   ·lia
   ·split
    ·rename_i hs
     have l2:=log2_lt (k:=40) (by decide) hs
     lia
    ·lia
 | .str x,_=>by
  refine⟨rfl,rfl,?_⟩
  simp only[qc,jH,D.wt]
  have:(ke x).length=x.length:=bX x
  exact kC this
 | .tup xs,h=>by
  let(h1,h2,h3):=d_fits xs h
  exact⟨h1,h2,h3⟩
 | .lst xs,h=>by
  let(h1,h2,h3):=d_fits xs h
  exact⟨h1,h2,h3⟩
theorem d_fits:∀ xs:List D,D.fits xs=true->dI (dPys xs)=true/\c9 160 (dPys xs)=true/\fU (dPys xs)<=D.wts xs
 | [],_=>⟨rfl,rfl,kT _⟩
 | x :: xs,h=>by
  have h:x.fit=true/\D.fits xs=true:=cU.mp h
  let(a1,a2,a3):=Ef x h.1
  let(b1,b2,b3):=d_fits xs h.2
  refine⟨?_,?_,?_⟩
  ·simp only[dPys,dI,a1,b1,j5]
  ·simp only[dPys,c9,a2,b2,j5]
  ·simp only[dPys,fU,D.wts];lia
end
theorem A8 {d:D}(h:d.fit=true)(hw:d.wt<=big):(qc d).shown.length<=sizeLine:=by
 let(_,h2,h3):=Ef d h
 have:=PyData.shown_le 160 (by decide) (qc d) (PyData.leavesShort_of_canLay0 160 _ (qK d) h2)
 unfold big at hw
 have e:sizeLine=16777216:=rfl
 lia
theorem yb {α β:Type}{f:α->Option β}:∀ {xs:List α}{ys:List β},pq f xs=some ys->ys.length=xs.length
 | [],ys,h=>by cases h;rfl
 | x :: xs,ys,h=>by
  replace h:((f x).bind λy=>(pq f xs).map (y :: ·))=some ys:=h
  cases e1:f x with
  | none=>rw[e1] at h;cases h
  | some y =>
   rw[e1] at h
   cases e2:pq f xs with
   | none=>simp only[fX,e2] at h;cases h
   | some zs=>simp only[fX,e2,hZ] at h;cases h;rw[gp,gp,yb e2]
inductive Bnd {α β:Type}(o:Option α)(f:α->Option β)(z:β):Prop
 | mk (a:α)(_:o=some a)(_:f a=some z):Bnd o f z
theorem oY {α β:Type}{o:Option α}{f:α->Option β}{z:β}(h:o.bind f=some z):Bnd o f z:=let ⟨a,h1,h2⟩:=Option.bind_eq_some_iff.mp h;⟨a,h1,h2⟩
inductive Mpd {α β:Type}(o:Option α)(f:α->β)(z:β):Prop
 | mk (a:α)(_:o=some a)(_:f a=z):Mpd o f z
theorem sm {α β:Type}{o:Option α}{f:α->β}{z:β}(h:o.map f=some z):Mpd o f z:=let ⟨a,h1,h2⟩:=bL.mp h;⟨a,h1,h2⟩
theorem qM {α:Type}{c:Prop} [Decidable c] {a b:α}(h:(if c then some a else none)=some b):c/\a=b:=by
 by_cases z:c
 ·rw[if_pos z] at h;exact⟨z,hW h⟩
 ·rw[if_neg z] at h;cases h
theorem qZ:∀ {n:Nat}{p:FV}{d:D},fD n p=some d->(qc d).depth<=n
 | 0,p,d,h=>by cases h
 | n+1,p,d,h=>by
  have ds:∀ {ps:List FV}{ds:List D},pq (fD n) ps=some ds->gY (dPys ds)<=n:=by
   intro ps
   induction ps with
   | nil=>intro ds h;cases h;simp[dPys,gY]
   | cons q ps ih =>
    intro ds h
    let(y,e1,h):=oY h
    let(zs,e2,rfl):=sm h
    simp only[dPys,gY]
    exact Nat.max_le.mpr ⟨qZ e1,ih e2⟩
  cases p with
  | tup ps=>let(zs,e,rfl):=sm (show (pq (fD n) ps).map D.tup=some d from h);simp only[qc,km];have:=ds e;lia
  | lst ps=>let(zs,e,rfl):=sm (show (pq (fD n) ps).map D.lst=some d from h);simp only[qc,km];have:=ds e;lia
  | non=>cases h;simp[qc,km]
  | bl _=>cases h;simp[qc,km]
  | int _=>cases h;simp[qc,km]
  | str _=>cases h;simp[qc,km]
  | scr _=>cases h
  | shn _=>cases h
  | dct _ _=>cases h
  | dci _ _=>cases h
  | dcz _ _ _=>cases h
  | obj _ _ _ _=>cases h
  | dcn _ _ _=>cases h
section
variable {X:Cx}{Z9:List (m4×Obj)}{σ:L2.St}{S H:Hp}{s:mD}
def J9 (X:Cx)(S:Hp)(s:mD) (n:Nat):Prop:=∀ (p:FV)(v:V)(u:mM)(d:D),RV X.K S p v->RelV v u->fD n p=some d->∃ as,mO s.heap u (qc d) as
theorem sU {n:Nat}(R:J9 X S s n):∀ {ps:List FV}{vs:List V}{us:List mM}{ds:List D},RVs X.K S ps vs->Vals vs us->pq (fD n) ps=some ds->∃ as,l0 s.heap us (dPys ds) as
 | [],vs,us,ds,r,q,h=>by
  cases (show vs=[] from r)
  cases q
  cases h
  exact⟨[],.nil⟩
 | p :: ps,vs,us,ds,r,rq,h=>by
  let(v1,vr,rfl,r1,r2):=r
  cases rq with
  | cons q1 q2 =>
   let(y,e1,h):=oY h
   let(zs,e2,rfl):=sm h
   let(as,ra):=R _ _ _ _ r1 q1 e1
   let(bs,rb):=sU R r2 q2 e2
   exact⟨as++bs,.cons ra rb⟩
theorem vK {n:Nat}(I:Inv X Z9 σ H s)(R:J9 X S s n){a:m4}{xs:List V}{ps:List FV}{d:D}(h1:H a=some (.lst xs))(h2:RVs X.K S ps xs)(h:(pq (fD n) ps).map D.lst=some d):∃ as,mO s.heap (.ref a) (qc d) as:=by
 let(zs,e,rfl):=sm h
 let(Z7,rr,(o,k,e1,e2,e2',e3),_):=I.list (SqL.of h1)
 let(as,ra):=sU R h2 rr e
 exact⟨a :: as,.list e1 e2 e3 (by simpa using ra)⟩
theorem uq (I:Inv X Z9 σ H s)(hs:Same S H):∀ n,J9 X S s n
 | 0,p,v,u,d,_,_,h=>by cases h
 | n+1,p,v,u,d,rp,rv,h=>by
  have R:=uq I hs n
  cases p with
  | tup ps =>
   let(a,xs,rfl,h1,h2):=rp
   cases (show u=Value.ref a from rv)
   let(zs,e,rfl):=sm (show (pq (fD n) ps).map D.tup=some d from h)
   let(Z7,rr,(o,e1,e2,k,e3),_):=I.tuple (SqT.of (hs _ _ h1))
   let(as,ra):=sU R h2 rr e
   exact⟨as,.tuple e1 e2 e3 (by simpa using ra)⟩
  | lst ps =>
   let(a,xs,rfl,h1,h2):=rp
   cases (show u=Value.ref a from rv)
   exact vK I R (hs _ _ h1) h2 h
  | non=>cases h;cases (show v=_ from rp);cases (show u=_ from rv);exact⟨_,.none⟩
  | bl _=>cases h;cases (show v=_ from rp);cases (show u=_ from rv);exact⟨_,.bool _⟩
  | int _=>cases h;cases (show v=_ from rp);let(t,rfl):=rv;exact⟨_,.int _ _⟩
  | str _=>cases h;cases (show v=_ from rp);let(t,rfl):=rv;exact⟨_,.str _ _⟩
  | scr _=>cases h
  | shn _=>cases h
  | dct _ _=>cases h
  | dci _ _=>cases h
  | dcz _ _ _=>cases h
  | obj _ _ _ _=>cases h
  | dcn _ _ _=>cases h
theorem pX (I:Inv X Z9 σ H s)(hs:Same S H){n:Nat}{p:FV}{v:V}{u:mM}{d:D}(rp:RH X.K S H p v)(rv:RelV v u)(h:fD n p=some d):∃ as,mO s.heap u (qc d) as:=by
 rcases rp with rp|⟨a,rfl,_,ps,xs,e,h1,h2⟩
 ·exact uq I hs n p v u d rp rv h
 ·cases (show u=Value.ref a from rv)
  cases n with
  | zero=>cases h
  | succ n =>
   cases p with
   | lst qs=>cases e;exact vK I (uq I hs n) h1 h2 h
   | dct _ _=>cases h
   | dci _ _=>cases h
   | dcz _ _ _=>cases h
   | obj _ _ _ _=>cases h
   | dcn _ _ _=>cases h
   | _=>cases e
end
theorem oW:big<=sizeLine:=by decide
theorem nN {v:FV}{i:Int}(h:o9 v=some i):v=.int i:=by cases v<;>cases h;rfl
theorem oX {v:FV}{i:List FV}(h:qp v=some i):v=.tup i:=by cases v<;>cases h;rfl
theorem qE {v:FV}{i:List FV}(h:tQ v=some i):v=.lst i:=by cases v<;>cases h;rfl
structure NewOr (K:kj)(S H:Hp)(Q:VK)(z:FV):Prop where
 old:∀ x,(∀ ps,z≠.lst ps)->RV K S z x->Q x H
 tup:∀ ps xs p,z=.tup ps->RVs K S ps xs->H p=none->Q (.ref p) (oj H p (.tup xs))
 lst:∀ ps xs p,z=.lst ps->RVs K S ps xs->H p=none->Q (.ref p) (oj H p (.lst xs))
section
variable {X:Cx}{K:kj}{S H:Hp}{Q:VK}
theorem NewOr.bl {b:Bool}(k:NewOr K S H Q (.bl b)):Q (.bl b) H:=k.old _ (λ_ z=>nomatch z) rfl
theorem NewOr.int {b:Int}(k:NewOr K S H Q (.int b)):Q (.int b) H:=k.old _ (λ_ z=>nomatch z) rfl
theorem NewOr.str {b:String}(k:NewOr K S H Q (.str b)):Q (.str (ke b)) H:=k.old _ (λ_ z=>nomatch z) rfl
theorem RH.int {i:Int}{x:V}(h:RH K S H (.int i) x):x=.int i:=h.val rfl
theorem RH.bl {i:Bool}{x:V}(h:RH K S H (.bl i) x):x=.bl i:=h.val rfl
inductive Rq (K:kj)(f:FV->FV->Option FV)(x:V)(y:V)(H:Hp)(Q:VK):Prop
 | mk (S:_)(v:_)(w:_)(z:_)(_:Same S H)(_:RH K S H v x)(_:RH K S H w y)(_:f v w=some z)(_:NewOr K S H Q z):Rq K f x y H Q
theorem rP {g:mM->mM->Sem mM}{f:Int->Int->Option FV}{r:R2}(o:pO X g r)(h:∀ i j z H Q,f i j=some z->(∀ x,(∀ S,RV X.K S z x)->Q x H)->r (.int i) (.int j) H Q)(n:∀ i j z,f i j=some z->∀ ps,z≠.lst ps):pO X g (Rq X.K (pA f)):=by
 intro Z9 s σ H x y u1 u2 Q I rx ry ⟨S,v,w,z,hs,hv,hw,e,k⟩
 let(i,e1,e):=oY e
 let(j,e2,e):=oY e
 cases nN e1;cases nN e2
 obtain rfl:=hv.int
 obtain rfl:=hw.int
 exact o Z9 s σ H _ _ u1 u2 Q I rx ry (h i j z H Q e λx hx=>k.old x (n i j z e) (hx S))
theorem KW:pO X (binaryOp .Sub) (Rq X.K rJ):=rP Ib (λi j z H Q e k=>⟨i,j,rfl,rfl,k _ λS=>by cases e;rfl⟩) λi j z e ps=>by cases e;exact λz=>nomatch z
theorem HH:pO X (binaryOp .FloorDiv) (Rq X.K tI):=rP Fl (λi j z H Q e k=>⟨i,j,rfl,rfl,(qM e).1,k _ λS=>by cases (qM e).2;rfl⟩) λi j z e ps=>by cases (qM e).2;exact λz=>nomatch z
theorem K0:pO X (binaryOp .Mod) (Rq X.K tP):=rP Ih (λi j z H Q e k=>⟨i,j,rfl,rfl,(qM e).1,k _ λS=>by cases (qM e).2;rfl⟩) λi j z e ps=>by cases (qM e).2;exact λz=>nomatch z
theorem KZ:pO X (binaryOp .Pow) (Rq X.K wQ):=rP Ie (λi j z H Q e k=>⟨i,j,rfl,rfl,by
 let(h1,h2,h3):=(qM e).1
 have:-(2 ^ 64)<i/\i<2 ^ 64:=by simpa[small] using h3
 exact⟨h1,by lia,by lia⟩,k _ λS=>by cases (qM e).2;rfl⟩) λi j z e ps=>by cases (qM e).2;exact λz=>nomatch z
theorem OF:pO X (compareOp .Gt) (Rq X.K Kf):=rP Ln (λi j z H Q e k=>⟨i,j,rfl,rfl,k _ λS=>by cases e;rfl⟩) λi j z e ps=>by cases e;exact λz=>nomatch z
theorem OG:pO X (compareOp .GtE) (Rq X.K Ni):=rP Lo (λi j z H Q e k=>⟨i,j,rfl,rfl,k _ λS=>by cases e;rfl⟩) λi j z e ps=>by cases e;exact λz=>nomatch z
theorem HJ:pO X (binaryOp .Add) (Rq X.K (pA λi j=>some (.int (i+j)))):=rP Ds (λi j z H Q e k=>⟨i,j,rfl,rfl,k _ λS=>by cases e;rfl⟩) λi j z e ps=>by cases e;exact λz=>nomatch z
theorem HG:pO X (binaryOp .Mult) (Rq X.K (pA λi j=>if (small i || small j)=true then some (.int (i*j)) else none)):=rP Ig (λi j z H Q e k=>⟨i,j,rfl,rfl,by
 have:=(qM e).1
 simp only[small,iK,decide_eq_true_eq] at this
 exact this,k _ λS=>by cases (qM e).2;rfl⟩) λi j z e ps=>by cases (qM e).2;exact λz=>nomatch z
theorem K1:pO X (compareOp .Lt) (Rq X.K (pA λi j=>some (.bl (decide (i<j))))):=rP Ll (λi j z H Q e k=>⟨i,j,rfl,rfl,k _ λS=>by cases e;rfl⟩) λi j z e ps=>by cases e;exact λz=>nomatch z
theorem K3:pO X (compareOp .LtE) (Rq X.K (pA λi j=>some (.bl (decide (i<=j))))):=rP Lm (λi j z H Q e k=>⟨i,j,rfl,rfl,k _ λS=>by cases e;rfl⟩) λi j z e ps=>by cases e;exact λz=>nomatch z
theorem HI {xs ys:List FV}{x y:V}{z:FV}{Z9:List (m4×Obj)}{σ:L2.St}{s:mD}{u1 u2:mM}(I:Inv X Z9 σ H s)(rx:RelV x u1)(ry:RelV y u2)(hs:Same S H)(hv:RH X.K S H (.tup xs) x)(hw:RH X.K S H (.tup ys) y)
  (e:(if xs.length+ys.length<=big then some (FV.tup (xs++ys)) else none)=some z)(k:NewOr X.K S H Q z):wpAny (model X.prog X.w) X.A (binaryOp .Add u1 u2) (EP X Z9 σ Q) X.xe s:=by
 let(hc,rfl):=qM e
 have rv:=hv.val rfl
 have rw':=hw.val rfl
 let(a,as,rfl,ha,ra):=hv.tup hs
 let(b,bs,rfl,hb,rb):=hw.tup hs
 have l1:=ra.length
 have l2:=rb.length
 have hl:=oW
 by_cases h0:as=[]
 ·subst h0
  have z2:xs=[]:=ah (by simpa using l1)
  subst z2
  exact Dr Z9 s σ H _ _ u1 u2 Q I rx ry ⟨a,b,bs,rfl,rfl,SqT.of ha,SqT.of hb,k.old _ (λ_ z=>nomatch z) rw'⟩
 refine Fm Z9 s σ H _ _ u1 u2 Q I rx ry ⟨a,b,as,bs,rfl,rfl,SqT.of ha,SqT.of hb,h0,by lia,λz=>?_,λ_ p hp=>k.tup _ _ p rfl (ra.append rb) hp⟩
 subst z
 have z2:ys=[]:=ah (by simpa using l2)
 subst z2
 exact k.old _ (λ_ z=>nomatch z) (by rw[iE];exact rv)
theorem GT:pO X (binaryOp .Add) (Rq X.K nJ):=by
 intro Z9 s σ H x y u1 u2 Q I rx ry ⟨S,v,w,z,hs,hv,hw,e,k⟩
 cases v with
 | tup xs =>
  let(ys,e1,e):=oY e
  cases oX e1
  exact HI I rx ry hs hv hw e k
 | lst xs =>
  let(ys,e1,e):=oY e
  cases qE e1
  let(hc,rfl):=qM e
  let(a,as,rfl,ha,ra):=hv.lst hs
  let(b,bs,rfl,hb,rb):=hw.lst hs
  have l1:=ra.length
  have l2:=rb.length
  have hl:=oW
  exact Ik Z9 s σ H _ _ u1 u2 Q I rx ry ⟨a,b,as,bs,rfl,rfl,ha,hb,by lia,λp hp=>k.lst _ _ p rfl (ra.append rb) hp⟩
 | _=>exact HJ Z9 s σ H x y u1 u2 Q I rx ry ⟨S,_,w,z,hs,hv,hw,e,k⟩
theorem GR:pO X (binaryOp .Mult) (Rq X.K qt):=by
 intro Z9 s σ H x y u1 u2 Q I rx ry ⟨S,v,w,z,hs,hv,hw,e,k⟩
 cases v with
 | lst xs =>
  let(j,e1,e):=oY e
  cases nN e1
  let(hc,rfl):=qM e
  let(a,as,rfl,ha,ra):=hv.lst hs
  obtain rfl:=hw.int
  have l1:=ra.length
  have hl:=oW
  exact Ic Z9 s σ H _ _ u1 u2 Q I rx ry ⟨a,j,as,rfl,rfl,ha,hc.1,hc.2.1,by rw[<- l1];lia,λp hp=>k.lst _ _ p rfl (ra.rep _) hp⟩
 | _=>exact HG Z9 s σ H x y u1 u2 Q I rx ry ⟨S,_,w,z,hs,hv,hw,e,k⟩
theorem oI:∀ {ps:List FV}{xs:List V}{ns:List Int},RVs K S ps xs->oq ps=some ns->xs=ns.map V.int
 | [],xs,ns,r,e=>by cases (show xs=[] from r);cases e;rfl
 | p :: ps,xs,ns,r,e=>by
  let(v,q,rfl,h1,h2):=r
  cases p with
  | int i =>
   let(ms,z,rfl):=sm (show (oq ps).map (i :: ·)=some ns from e)
   rw[oI h2 z,jS,show v=.int i from h1]
  | _=>cases e
theorem vj:∀ {ps:List FV}{xs:List V}{ns:List Bool},RVs K S ps xs->sj ps=some ns->xs=ns.map V.bl
 | [],xs,ns,r,e=>by cases (show xs=[] from r);cases e;rfl
 | p :: ps,xs,ns,r,e=>by
  let(v,q,rfl,h1,h2):=r
  cases p with
  | bl i =>
   let(ms,z,rfl):=sm (show (sj ps).map (i :: ·)=some ns from e)
   rw[vj h2 z,jS,show v=.bl i from h1]
  | _=>cases e
theorem DJ:∀ a b:List Int,Kq.lexLt a b=HT.lexLt a b
 | [],[]=>rfl
 | [],_ :: _=>rfl
 | _ :: _,[]=>rfl
 | a :: r,b :: q=>by
  show (if a=b then Kq.lexLt r q else decide (a<b))=_
  rw[DJ r q];rfl
theorem yk:∀ a b:List Int,Kq.lexLe a b=HT.lexLe a b
 | [],[]=>rfl
 | [],_ :: _=>rfl
 | _ :: _,[]=>rfl
 | a :: r,b :: q=>by
  show (if a=b then Kq.lexLe r q else decide (a<=b))=_
  rw[yk r q];rfl
theorem OD (hu:X.A.units+64<cLine):pO X (compareOp .Lt) (Rq X.K Fu):=by
 intro Z9 s σ H x y u1 u2 Q I rx ry ⟨S,v,w,z,hs,hv,hw,e,k⟩
 cases v with
 | tup xs =>
  let(ys,e1,e):=oY e
  cases oX e1
  let(ns,e2,e):=oY e
  let(ms,e3,e):=oY e
  cases e
  let(a,as,rfl,ha,ra):=hv.tup hs
  let(b,bs,rfl,hb,rb):=hw.tup hs
  cases oI ra e2;cases oI rb e3
  exact Ii ⋯ Z9 s σ H _ _ u1 u2 Q I rx ry ⟨a,b,ns,ms,rfl,rfl,SqT.of ha,SqT.of hb,by rw[<- DJ];exact k.bl⟩
 | _=>exact K1 Z9 s σ H x y u1 u2 Q I rx ry ⟨S,_,w,z,hs,hv,hw,e,k⟩
theorem K4 (hu:X.A.units+64<cLine):pO X (compareOp .LtE) (Rq X.K Ey):=by
 intro Z9 s σ H x y u1 u2 Q I rx ry ⟨S,v,w,z,hs,hv,hw,e,k⟩
 cases v with
 | tup xs =>
  let(ys,e1,e):=oY e
  cases oX e1
  let(ns,e2,e):=oY e
  let(ms,e3,e):=oY e
  cases e
  let(a,as,rfl,ha,ra):=hv.tup hs
  let(b,bs,rfl,hb,rb):=hw.tup hs
  cases oI ra e2;cases oI rb e3
  exact Ij ⋯ Z9 s σ H _ _ u1 u2 Q I rx ry ⟨a,b,ns,ms,rfl,rfl,SqT.of ha,SqT.of hb,by rw[<- yk];exact k.bl⟩
 | _=>exact K3 Z9 s σ H x y u1 u2 Q I rx ry ⟨S,_,w,z,hs,hv,hw,e,k⟩
theorem Jo {p q:FV}{b:Bool}(e:xk p q=some b):(∃ d,p=.shn d/\q=.shn d/\b=true) ∨ ∃ x y,fD nA p=some x/\fD nA q=some y/\b=D.eqv x y:=by
 have gen:P5 p q=some b->∃ x y,fD nA p=some x/\fD nA q=some y/\b=D.eqv x y:=λe=>by
  let(x,e1,e):=oY e
  let(y,e2,e):=oY e
  cases e
  exact⟨x,y,e1,e2,rfl⟩
 unfold xk at e
 split at e
 ·let(rfl,rfl):=@qM _ _ (bx _) _ _ e
  exact .inl ⟨_,rfl,rfl,rfl⟩
 ·exact .inr (gen e)
theorem GS (hu:X.A.units+64<cLine)(neg:Bool):pO X (compareOp (if neg then .NotEq else .Eq)) (Rq X.K λp q=>(xk p q).map λr=>.bl (neg != r)):=by
 intro Z9 s σ H x y v u Q I rx ry ⟨S,p,q,z,hs,rp,rq,e,k⟩
 let(b,e',rfl):=sm (show (xk p q).map (λr=>FV.bl (neg != r))=some z from e)
 have fin:=k.bl
 rcases Jo e' with⟨d,rfl,rfl,rfl⟩|⟨dx,dy,e1,e2,rfl⟩
 ·obtain rfl:x=.str (qc d).shown:=rp.val rfl
  obtain rfl:y=.str (qc d).shown:=rq.val rfl
  cases neg with
  | false=>exact GX Z9 s σ H _ _ v u Q I rx ry ⟨rfl,by simpa using fin⟩
  | true=>exact Lk Z9 s σ H _ _ v u Q I rx ry ⟨rfl,by simpa using fin⟩
 ·let(as,ra):=pX I hs rp rx e1
  let(bs,rb):=pX I hs rq ry e2
  have hd:X.A.units+min (qc dx).depth (qc dy).depth<cLine:=by
   have h1:=qZ e1
   unfold nA at h1
   lia
  cases neg with
  | false=>exact PySem.SeqAt.compareEq_reads ra rb (qK dx) (qK dy) hd ⟨.bl _,H,I,rfl,by rw[yM];simpa using fin⟩
  | true=>exact PySem.SeqAt.compareNe_reads ra rb (qK dx) (qK dy) hd ⟨.bl _,H,I,rfl,by rw[yM];simpa using fin⟩
theorem K8 (hu:X.A.units+64<cLine):pO X (compareOp .Eq) (Rq X.K tJ):=λZ9 s σ H x y v u Q I rx ry q1=>by let(S,p,q,z,hs,rp,rq,e,k):=q1;exact GS hu false Z9 s σ H x y v u Q I rx ry ⟨S,p,q,z,hs,rp,rq,by
 let(b,e1,rfl):=sm e
 show (xk p q).map _=_
 rw[e1];cases b<;>rfl,k⟩
theorem OC (hu:X.A.units+64<cLine):pO X (compareOp .NotEq) (Rq X.K Cp):=λZ9 s σ H x y v u Q I rx ry q1=>by let(S,p,q,z,hs,rp,rq,e,k):=q1;exact GS hu true Z9 s σ H x y v u Q I rx ry ⟨S,p,q,z,hs,rp,rq,by
 let(b,e1,rfl):=sm e
 show (xk p q).map _=_
 rw[e1];cases b<;>rfl,k⟩
theorem K6 (hu:X.A.units+64<cLine)(neg:Bool):pO X (compareOp (if neg then .NotIn else .In)) (Rq X.K λp q=>(Ez p q).map λr=>.bl (neg != r)):=by
 intro Z9 s σ H x y v u Q I rx ry ⟨S,p,q,z,hs,rp,rq,e,k⟩
 let(b,e',rfl):=sm (show (Ez p q).map (λr=>FV.bl (neg != r))=some z from e)
 have fin:=k.bl
 let(dx,e1,e'):=oY e'
 let(dy,e2,e'):=oY e'
 let(as,ra):=pX I hs rp rx e1
 let(bs,rb):=pX I hs rq ry e2
 have hd:∀ ys,X.A.units+1+min (gY (dPys ys)) (qc dx).depth<cLine:=λys=>by
  have h1:=qZ e1
  unfold nA at h1
  lia
 cases dy with
 | lst ys =>
  cases e'
  simp only[qc] at rb
  cases neg with
  | false=>exact PySem.SeqAt.in_list_reads rb ra (d_lays ys) (qK dx) (hd ys) ⟨.bl _,H,I,rfl,by rw[yN];simpa using fin⟩
  | true=>exact PySem.SeqAt.notIn_list_reads rb ra (d_lays ys) (qK dx) (hd ys) ⟨.bl _,H,I,rfl,by rw[yN];simpa using fin⟩
 | tup ys =>
  cases e'
  simp only[qc] at rb
  cases neg with
  | false=>exact PySem.SeqAt.in_tuple_reads rb ra (d_lays ys) (qK dx) (hd ys) ⟨.bl _,H,I,rfl,by rw[yN];simpa using fin⟩
  | true=>exact PySem.SeqAt.notIn_tuple_reads rb ra (d_lays ys) (qK dx) (hd ys) ⟨.bl _,H,I,rfl,by rw[yN];simpa using fin⟩
 | _=>cases e'
theorem OE (hu:X.A.units+64<cLine):pO X (compareOp .In) (Rq X.K inB):=λZ9 s σ H x y v u Q I rx ry q1=>by let(S,p,q,z,hs,rp,rq,e,k):=q1;exact K6 hu false Z9 s σ H x y v u Q I rx ry ⟨S,p,q,z,hs,rp,rq,by
 let(b,e1,rfl):=sm e
 show (Ez p q).map _=_
 rw[e1];cases b<;>rfl,k⟩
theorem GG {ps:List FV}{xs:List V}{i:Int}{p:FV}(r:RVs K S ps xs)(e:tM ps i=some p):∃ v,L2.atI xs i=some v/\RV K S p v:=by
 let(j,e1,e2):=oY e
 let(v,h1,h2):=r.get e2
 refine⟨v,?_,h2⟩
 show (L2.ixN xs.length i).bind (λj=>xs[j]?)=some v
 rw[<- r.length,show L2.ixN ps.length i=some j from e1]
 exact h1
inductive Ri (K:kj)(x:V)(y:V)(H:Hp)(Q:VK):Prop
 | mk (S:_)(v:_)(w:_)(z:_)(_:Same S H)(_:RH K S H v x)(_:RH K S H w y)(_:nY v w=some z)(_:∀ u,RV K S z u->Q u H):Ri K x y H Q
theorem K5:Od X (Ri X.K):=by
 intro value slice Z9 s σ H x y v u Q I rx ry ⟨S,p,q,z,hs,rp,rq,e,k⟩ hsl
 let(j,e1,e3):=oY e
 let(ps,e2,e4):=oY e3
 cases nN e1
 obtain rfl:=rq.int
 let(a,xs,rfl,hq,r):=rp.seq hs e2
 let(w,h1,h2):=GG r e4
 cases hb:Nb p with
 | true=>rw[hb] at hq;exact FN value slice Z9 s σ H _ _ v u Q I rx ry ⟨a,xs,j,w,rfl,rfl,hq,h1,k w h2⟩ hsl
 | false=>rw[hb] at hq;exact Iz value slice Z9 s σ H _ _ v u Q I rx ry ⟨a,xs,j,w,rfl,rfl,hq,h1,k w h2⟩ hsl
theorem wO (n d:Nat)(o:Option Int):Kq.sIx n d o=HT.sIx n d o:=by
 cases o with
 | none=>rfl
 | some v=>simp only[Kq.sIx,HT.sIx];try (split<;>split<;>lia)
theorem Ba {ps:List FV}{xs:List V}{lo hi:Option Int}(r:RVs K S ps xs):RVs K S (qh ps lo hi) (yP xs lo hi):=by
 unfold qh yP
 rw[wO,wO,r.length]
 exact (r.drop _).take _
inductive Rsl (K:kj)(x:V)(lo:Option Int)(hi:Option Int)(H:Hp)(Q:VK):Prop
 | mk (S:_)(v:_)(z:_)(_:Same S H)(_:RH K S H v x)(_:qT v lo hi=some z)(_:NewOr K S H Q z):Rsl K x lo hi H Q
theorem KY:Kr X (Rsl X.K):=by
 intro Z9 s σ H x v vl vu lo hi sl Q I rx hsl pl pu ⟨S,p,z,hs,rp,e,k⟩
 cases p with
 | tup ps =>
  cases e
  have rv:=rp.val rfl
  let(a,xs,rfl,ha,ra):=rp.tup hs
  by_cases hc:HT.sIx xs.length 0 lo=0/\HT.sIx xs.length xs.length hi=xs.length
  ·refine CP Z9 s σ H _ v vl vu lo hi sl Q I rx hsl pl pu ⟨a,xs,rfl,SqT.of ha,hc.1,hc.2,k.old _ (λ_ z=>nomatch z) ?_⟩
   have e:qh ps lo hi=ps:=by
    unfold qh
    rw[wO,wO,ra.length,hc.1,hc.2,jk,Nat.sub_zero,bN (kC ra.length)]
   rw[e];exact rv
  ·exact Hs Z9 s σ H _ v vl vu lo hi sl Q I rx hsl pl pu ⟨a,xs,rfl,SqT.of ha,hc,λp hp=>k.tup _ _ p rfl (Ba ra) hp⟩
 | lst ps =>
  cases e
  let(a,xs,rfl,ha,ra):=rp.lst hs
  exact EQ Z9 s σ H _ v vl vu lo hi sl Q I rx hsl pl pu ⟨a,xs,rfl,SqL.of ha,λp hp=>k.lst _ _ p rfl (Ba ra) hp⟩
 | _=>cases e
end
section
variable {X:Cx}{K:kj}{S H:Hp}{Q:VK}
inductive Rc (K:kj)(f:FV->Option FV)(xs:List V)(H:Hp)(Q:VK):Prop
 | mk (S:_)(v:_)(x:_)(z:_)(_:xs=[x])(_:Same S H)(_:RH K S H v x)(_:f v=some z)(_:NewOr K S H Q z):Rc K f xs H Q
inductive Rc2 (K:kj)(f:FV->FV->Option FV)(xs:List V)(H:Hp)(Q:VK):Prop
 | mk (S:_)(v:_)(w:_)(x:_)(y:_)(z:_)(_:xs=[x,y])(_:Same S H)(_:RH K S H v x)(_:RH K S H w y)(_:f v w=some z)(_:NewOr K S H Q z):Rc2 K f xs H Q
theorem KO {b:Bool}{a:m4}{xs:List V}(h:vm b K H a xs):SqL K H a xs ∨ SqT K H a xs:=by cases b;exact .inr h;exact .inl h
theorem Mn:og X (.builtin "len") (Rc X.K pS):=by
 rintro Z9 s σ H xs us Q I r ⟨S,v,x,z,rfl,hs,rv,e,k⟩
 let(ps,e1,rfl):=sm e
 let(a,ys,rfl,hq,ry):=rv.seq hs e1
 refine xu Z9 s σ H _ us Q I r ⟨a,ys,rfl,KO hq,?_⟩
 rw[<- ry.length]
 exact k.int
theorem Mr:og X (.builtin "abs") (Rc X.K Er):=by
 rintro Z9 s σ H xs us Q I r ⟨S,v,x,z,rfl,hs,rv,e,k⟩
 let(i,e1,rfl):=sm e
 cases nN e1
 obtain rfl:=rv.int
 exact El Z9 s σ H _ us Q I r ⟨i,rfl,k.int⟩
theorem Mp:og X (.type "int") (Rc X.K ug):=by
 rintro Z9 s σ H xs us Q I r ⟨S,v,x,z,rfl,hs,rv,e,k⟩
 cases v with
 | int i =>
  cases e
  obtain rfl:=rv.int
  exact wo Z9 s σ H _ us Q I r (.inl ⟨i,rfl,k.int⟩)
 | bl b =>
  cases e
  obtain rfl:=rv.bl
  exact wo Z9 s σ H _ us Q I r (.inr ⟨b,rfl,k.int⟩)
 | _=>cases e
theorem Gy:og X (.type "tuple") (Rc X.K oZ):=by
 rintro Z9 s σ H xs us Q I r ⟨S,v,x,z,rfl,hs,rv,e,k⟩
 let(ps,e1,rfl):=sm e
 let(a,ys,rfl,hq,ry):=rv.seq hs e1
 cases v with
 | tup qs=>cases e1;exact qo Z9 s σ H _ us Q I r ⟨a,ys,rfl,.inr ⟨hq,k.old _ (λ_ z=>nomatch z) (rv.val rfl)⟩⟩
 | lst qs=>exact qo Z9 s σ H _ us Q I r ⟨a,ys,rfl,.inl ⟨hq,λl hl=>k.tup _ _ l rfl ry hl⟩⟩
 | scr qs=>exact qo Z9 s σ H _ us Q I r ⟨a,ys,rfl,.inl ⟨hq,λl hl=>k.tup _ _ l rfl ry hl⟩⟩
 | _=>cases e1
theorem JD (hc:X.calm=true):og X (.builtin "min") (Rc2 X.K x6):=by
 rintro Z9 s σ H xs us Q I r ⟨S,v,w,x,y,z,rfl,hs,rv,rw',e,k⟩
 let(i,e1,e2):=oY e
 let(j,e3,e4):=oY e2
 cases nN e1;cases nN e3;cases e4
 obtain rfl:=rv.int
 obtain rfl:=rw'.int
 exact Cg hc Z9 s σ H _ us Q I r ⟨i,j,rfl,k.int⟩
theorem JE (hc:X.calm=true):og X (.builtin "max") (Rc2 X.K Az):=by
 rintro Z9 s σ H xs us Q I r ⟨S,v,w,x,y,z,rfl,hs,rv,rw',e,k⟩
 let(i,e1,e2):=oY e
 let(j,e3,e4):=oY e2
 cases nN e1;cases nN e3;cases e4
 obtain rfl:=rv.int
 obtain rfl:=rw'.int
 exact Ch hc Z9 s σ H _ us Q I r ⟨i,j,rfl,k.int⟩
theorem Vals.mapInt {ns:List Int}:∀ {us:List mM},Vals (ns.map V.int) us->∀ i:Nat,i<ns.length->∃ t,us[i]?=some (.int (ns.getD i 0) t):=λ{us} r i hi=>by
 let(u,e,t,rfl):=r.get (i:=i) (x:=.int (ns.getD i 0)) (by simp[hi])
 exact⟨t,e⟩
theorem o7 (ns:List Int):∀ j,j<=ns.length->preSum (λi=>ns.getD i 0) j=(ns.take j).sum
 | 0,_=>by simp[preSum]
 | j+1,h=>by
  have hj:j<ns.length:=h
  show preSum _ j+ns.getD j 0=_
  rw[o7 ns j ⋯,ae hj,ig]
  simp[lP,hj]
theorem zd (B:Int)(hB:0<=B):∀ ns:List Int,(∀ n∈ns,-B<=n/\n<=B)->-(B*ns.length)<=ns.sum/\ns.sum<=B*ns.length
 | [],_=>by simp
 | n :: r,h=>by
  have ih:=zd B hB r λm hm=>h m (cM _ hm)
  have hn:=h n dX
  rw[jO,gp]
  have e:B*((r.length+1:Nat):Int)=B*(r.length:Int)+B:=by rw[iF,Int.mul_add];simp
  rw[e]
  lia
theorem Aa (hc:X.calm=true):og X (.builtin "sum") (λxs H Q=>∃ (a:m4)(ns:List Int),xs=[.ref a]/\SqL X.K H a (ns.map V.int)/\ns.length<=big/\(∀ n∈ns,-(2 ^ 40)<=n/\n<=2 ^ 40)/\Q (.int ns.sum) H):=by
 intro Z9 s σ H xs us Q I r h
 let(a,ns,rfl,hq,hz,hb,q):=h
 let(u,rfl,rx):=vals1 r
 cases rx
 let(Z7,r',pl,hz'):=I.list hq
 have hlen:ns.length=Z7.length:=by have:=r'.length;simpa using this
 have alt:a<s.heap.objs.size:=by let(_,e,_):=pl.isList;exact kH e
 have hh:X.A.in1.handled=none:=I.ok.hd hc
 refine jE (eN pl.isList ?_)
 refine⟨s.heap.objs.size,_,_,_,_,_,λi=>ns.getD i 0,rfl,lA hh s.heap.objs.size a (kq alt) Z7.toArray,⟨⟨_,dj _ rfl,rfl,rfl⟩,pl.isList.at λo e=>bR _ e⟩,?_,?_,?_,?_⟩
 ·intro b hb'
  simp at hb'
  rcases hb' with rfl|rfl
  ·show _<(s.heap.push _).objs.size;rw[jn];exact f8 _
  ·show _<(s.heap.push _).objs.size;rw[jn];exact fg alt
 ·intro i v hv
  have hv:Z7.toArray[i]?=some v:=hv
  have hi:i<ns.length:=by rw[hlen];simpa using (aK.mp hv).1
  let(t,e):=Vals.mapInt r' i hi
  refine⟨t,?_⟩
  have e':Z7.toArray[i]?=some (.int (ns.getD i 0) t):=by simpa using e
  rw[hv] at e'
  exact hW e'
 ·intro j hj
  have hj':j<ns.length:=by rw[hlen];simpa using hj
  have hm:ns.getD j 0∈ns:=by simp[lP,hj']
  refine⟨?_,?_⟩
  ·have:=hb _ hm
   show -(2 ^ 63)<=ns.getD j 0/\ns.getD j 0<2 ^ 63
   lia
  ·rw[o7 ns (j+1) hj']
   have b2:=zd 1099511627776 (by decide) (ns.take (j+1)) λn hn=>by have:=hb n (cI hn);lia
   have l2:(ns.take (j+1)).length<=100000:=by rw[gk];unfold big at hz;lia
   unfold InLong;lia
 ·intro h' tk t' hk
  have e:preSum (λi=>ns.getD i 0) Z7.toArray.size=ns.sum:=by
   rw[fk,<- hlen,o7 ns _ (kT _),ge]
  rw[e]
  refine⟨.int ns.sum,H,?_,⟨t',rfl⟩,q⟩
  exact I.kept (t':=tk) λb o e=>hk b o (by simp;exact kq (kH e)) (bR _ e)
theorem CA {prog:mm}{w:mL}{A:mK}{Z7:List mM}{bs:List Bool}(r:Vals (bs.map V.bl) Z7):TruthOf prog w A (λi v=>Z7.toArray[i]?=some v) (λi=>bs.getD i false):=by
 intro i v s Q E hv hq
 have hlen:bs.length=Z7.length:=by have:=r.length;simpa using this
 have hi:i<bs.length:=by rw[hlen];simpa using (aK.mp hv).1
 let(u,e,ru):=r.get (i:=i) (x:=.bl (bs.getD i false)) (by simp[hi])
 have e':Z7.toArray[i]?=some u:=by simpa using e
 rw[hv] at e'
 cases e'
 cases ru
 exact k9 hq
theorem BE (bs:List Bool):(lK bs.length).all (λi=>bs.getD i false)=bs.all id:=by
 rw[iL]
 simp only[gB,jh,id]
 constructor
 ·intro h b hb
  let(i,hi,e):=cL.mp hb
  have:=h i hi
  simpa[lP,hi,e] using this
 ·intro h i hi
  have:=h bs[i] (gu hi)
  simpa[lP,hi] using this
theorem Ac (hc:X.calm=true):og X (.builtin "all") (λxs H Q=>∃ (a:m4)(bs:List Bool),xs=[.ref a]/\SqL X.K H a (bs.map V.bl)/\Q (.bl (bs.all id)) H):=by
 intro Z9 s σ H xs us Q I r h
 let(a,bs,rfl,hq,q):=h
 let(u,rfl,rx):=vals1 r
 cases rx
 let(Z7,r',pl,hz'):=I.list hq
 have hlen:bs.length=Z7.length:=by have:=r'.length;simpa using this
 have alt:a<s.heap.objs.size:=by let(_,e,_):=pl.isList;exact kH e
 have hh:X.A.in1.handled=none:=I.ok.hd hc
 refine call_all_walk (eN pl.isList ?_)
 refine⟨s.heap.objs.size,_,_,_,_,_,λi=>bs.getD i false,rfl,lA hh s.heap.objs.size a (kq alt) Z7.toArray,⟨⟨_,dj _ rfl,rfl,rfl⟩,pl.isList.at λo e=>bR _ e⟩,CA r',?_⟩
 intro h' tk hk
 rw[fk,<- hlen,BE]
 exact⟨.bl _,H,I.kept (t':=tk) λb o e=>hk b o (by simp;exact kq (kH e)) (bR _ e),rfl,q⟩
theorem Hb (hc:X.calm=true):og X (.builtin "sum") (Rc X.K Oy):=by
 rintro Z9 s σ H xs us Q I r ⟨S,v,x,z,rfl,hs,rv,e,k⟩
 let(ps,e1,e2):=oY e
 let(n,e3,rfl):=sm e2
 let(ns,e4,e5):=oY e3
 let(hb,rfl):=qM e5
 let(a,ys,rfl,hq,ry):=rv.list hs e1
 cases oI ry e4
 refine Aa hc Z9 s σ H _ us Q I r ⟨a,ns,rfl,hq,hb.1,λn hn=>?_,k.int⟩
 have:=gB.mp hb.2 n hn
 simpa[su] using this
theorem Mq (hc:X.calm=true):og X (.builtin "all") (Rc X.K GK):=by
 rintro Z9 s σ H xs us Q I r ⟨S,v,x,z,rfl,hs,rv,e,k⟩
 let(ps,e1,e2):=oY e
 let(bs,e3,rfl):=sm e2
 let(a,ys,rfl,hq,ry):=rv.list hs e1
 cases vj ry e3
 exact Ac hc Z9 s σ H _ us Q I r ⟨a,bs,rfl,hq,k.bl⟩
theorem uK:∀ (xs:List Int) (b x:Int),n8 b (xs++[x])=if x<n8 b xs then x else n8 b xs
 | [],b,x=>rfl
 | y :: ys,b,x=>by
  show n8 (if y<b then y else b) (ys++[x])=_
  rw[uK ys];rfl
theorem vV (n:Int)(r:List Int):∀ k,k<=r.length->(n :: r)[argBest (λi j=>decide ((n :: r).getD i 0<(n :: r).getD j 0)) k]?=some (n8 n (r.take k))
 | 0,_=>rfl
 | k+1,h=>by
  have ih:=vV n r k ⋯
  have hk:k<r.length:=h
  have e1:(n :: r).getD (argBest (λi j=>decide ((n :: r).getD i 0<(n :: r).getD j 0)) k) 0=n8 n (r.take k):=by rw[aC,ih];rfl
  have e2:(n :: r).getD (k+1) 0=r[k]:=by simp[lP,hk]
  rw[ae hk,uK]
  simp only[argBest,e1,e2,decide_eq_true_eq]
  split
  ·simp[hk]
  ·exact ih
theorem JB (hc:X.calm=true):og X (.builtin "min") (Rc X.K x5):=by
 rintro Z9 s σ H xs us Q I r ⟨S,v,x,z,rfl,hs,rv,e,k⟩
 let(ps,e1,e2):=oY e
 let(ns,e3,e4):=oY e2
 let(a,ys,rfl,hq,ry):=rv.list hs e1
 let(u,rfl,ru):=vals1 r
 cases (show u=Value.ref a from ru)
 let(Z7,r',pl,hz'):=I.list hq
 have hh:X.A.in1.handled=none:=I.ok.hd hc
 have hlen:ys.length=Z7.length:=r'.length
 cases oI ry e3
 cases ns with
 | nil=>cases e4
 | cons n r =>
  cases e4
  have hl2:Z7.length=r.length+1:=by rw[<- hlen];simp
  have it:∀ (i:Nat)(v:mM),Z7.toArray[i]?=some v->∃ t,v=Value.int ((n :: r).getD i 0) t:=λi v hv=>by
   have hv:Z7[i]?=some v:=by simpa using hv
   have hi:=(aN.mp hv).1
   let(t,e):=Vals.mapInt r' i (by simp;lia)
   rw[hv] at e
   exact⟨t,hW e⟩
  refine vh (bt:=λi j=>decide ((n :: r).getD i 0<(n :: r).getD j 0)) hh pl.isList (by simp;lia) (λi j u v s1 Q1 E1 _ hi hj q1=>?_) λv h' tk hv hk=>?_
  ·let(t1,rfl):=it i u hi
   let(t2,rfl):=it j v hj
   exact c8 q1
  ·have hv:Z7[argBest (λi j=>decide ((n :: r).getD i 0<(n :: r).getD j 0)) (Z7.toArray.size-1)]?=some v:=by simpa using hv
   have hb:=vV n r r.length (kT _)
   rw[ge] at hb
   have hsz:Z7.toArray.size-1=r.length:=by simp;lia
   rw[hsz] at hv
   generalize argBest (λi j=>decide ((n :: r).getD i 0<(n :: r).getD j 0)) r.length=z at hv hb
   let(t,rfl):=it z v (by simpa using hv)
   rw[aC,hb]
   exact⟨.int (n8 n r),H,I.kept (t':=tk) hk,⟨t,rfl⟩,k.int⟩
theorem xK (hu:X.A.units+64<cLine)(hg:X.A.guards=some []){Z9:List (m4×Obj)}{s:mD}{σ:L2.St}{v z:FV}{a:m4}(I:Inv X Z9 σ H s)(hs:Same S H)(rv:RH X.K S H v (.ref a))(e:Hu v=some z)(k:NewOr X.K S H Q z):wpAny (model X.prog X.w) X.A (lE (.type "str") [.ref a]) (EP X Z9 σ Q) X.xe s:=by
 let(d,e1,e2):=oY e
 let(hf,rfl):=qM e2
 let(as,ra):=pX I hs rv (show RelV (.ref a) (.ref a) from rfl) e1
 have hdp:=qZ e1
 unfold nA at hdp
 refine str_of_reads (h₀:=s.heap) ra (Ef d hf.1).1 (λz=>by rw[yL] at z;cases z) hg ⋯ (λ_ _ h=>h) (λh' u' tk hk=>?_) (A8 hf.1 hf.2)
 exact⟨.str (qc d).shown,H,I.kept (t':=tk) hk,⟨u',rfl⟩,k.old _ (λ_ z=>nomatch z) rfl⟩
theorem Mm (hu:X.A.units+64<cLine)(hg:X.A.guards=some []):og X (.type "str") (Rc X.K pW):=by
 rintro Z9 s σ H xs us Q I r ⟨S,v,x,z,rfl,hs,rv,e,k⟩
 let(u,rfl,ru):=vals1 r
 cases v with
 | int i =>
  let(hc,rfl):=qM e
  obtain rfl:=rv.int
  exact xr Z9 s σ H _ _ Q I r ⟨i,rfl,by have:=log2_lt (k:=150) (by decide) hc;lia,k.str⟩
 | non =>
  cases e
  cases (show x=.non from rv.val rfl);cases (show u=_ from ru)
  exact PySem.P.str_of_none ⟨.str _,H,I.tok _,⟨_,rfl⟩,k.str⟩
 | bl b =>
  cases e
  obtain rfl:=rv.bl
  cases (show u=_ from ru)
  exact PySem.P.str_of_bool ⟨.str (ke (if b then "True" else "False")),H,I.tok _,⟨_,by cases b<;>rfl⟩,k.str⟩
 | str x =>
  cases e
  cases (show _=V.str _ from rv.val rfl);let(t,rfl):=ru
  exact PySem.P.str_of_str ⟨.str _,H,I,⟨_,rfl⟩,k.str⟩
 | tup xs =>
  let(a,ys,rfl,_):=rv.tup hs
  cases (show u=_ from ru)
  exact xK hu hg I hs rv e k
 | lst xs =>
  let(a,ys,rfl,_):=rv.lst hs
  cases (show u=_ from ru)
  exact xK hu hg I hs rv e k
 | _=>cases e
end
structure CC where
 N:List Str
 sc:List (Str×me)
 fns:List Str
 md:Md
 top:Bool
 oc:List (Str×me)
 ms:List (Str×m4×Str)
 fl:List (m4×Str)
def CC.vis (C:CC)(x:Str):Bool:=match C.sc.lookup x with
 | some .local=>true
 | some .cell=>true
 | some .free=>true
 | _=>false
def CC.gl (C:CC)(x:Str):Bool:=decide (C.sc.lookup x=some .globalImplicit)
def CC.loc (C:CC)(x:Str):Bool:=match C.sc.lookup x with
 | some .local=>true
 | some .cell=>C.top || C.oc.lookup x == some .cell
 | _=>false
def CC.nm (C:CC) (i:Nat)(x:Str):Bool:=decide (C.N[i]?=some x) && C.vis x && !(x == ("__debug__":Str)) && !(x == ("__classdict__":Str))
inductive MtOk (P:mm)(w:mL)(K:kj)(mg:Str->Option mM)(base:mY) (n:Nat)(s:Sp)(c:Str)(Ca:m4)(m:Str):Prop
 | mk (fa:_)(fd:_)(ps:_)(_:mg c=some (.ref Ca))(_:Cls K Ca)(_:(m=("__init__":Str)->Mk K Ca fa))(_:(m≠("__init__":Str)->Meth K Ca m fa))(_:Binds K fd ps [])(_:FnOk P w K mg base Ew n fa fd ps s):MtOk P w K mg base n s c Ca m
structure Good (X:Cx)(C:CC) (n:Nat)(sp:kj->Nat->Sp):Prop where
 N:X.N=C.N
 sc:X.env.scope.names=C.sc
 kind:X.env.scope.kind=.function
 nd:C.N.Nodup
 calm:X.calm=true
 fn:∀ x,(C.top || C.oc.lookup x == some .cell)=true->X.fn x=true
 room:RoomS n X.A
 fns:∀ (f:Nat)(x:Str),C.fns[f]?=some x->∃ fa fd ps,X.mg x=some (.ref fa)/\ja X.K (.ref fa)=true/\Binds X.K fd ps []/\FnOk X.prog X.w X.K X.mg X.base Ew n fa fd ps (sp X.K f)
 blt:∀ b∈bltNames,X.mg (ke b)=none
 mts:∀ (k:Nat)(c:Str)(Ca:m4)(m:Str),C.ms[k]?=some (c,Ca,m)->MtOk X.prog X.w X.K X.mg X.base n (sp X.K (C.fns.length+k)) c Ca m
 fls:∀ p∈C.fl,Cls X.K p.1/\xE X.K p.1 p.2
theorem b2 {a b:Bool}(h:(a && b)=true):a=true/\b=true:=by simpa using h
theorem nb {a:Bool}(h:(!a)=true):a=false:=by simpa using h
theorem de {p:Prop} [Decidable p] (h:decide p=true):p:=by simpa using h
inductive lv (K:kj)(md:Md)(e:EW)(σ:L2.St)(H:Hp)(Q:VK):Prop
 | mk (c:_)(L:_)(S:_)(Q0:_)(_:Iv K c md L σ S H)(_:e L Q0)(_:∀ v L',Q0 v L'->∀ x S' H',RV K S' v x->Iv K c md L' σ S' H'->Same S S'->Q x H'):lv K md e σ H Q
inductive lr (K:kj)(md:Md)(e:EW)(σ:L2.St)(H:Hp)(Q:VK):Prop
 | mk (c:_)(L:_)(S:_)(Q0:_)(_:Iv K c md L σ S H)(_:e L Q0)(_:∀ v L',Q0 v L'->∀ x S' H',RH K S' H' v x->Iv K c md L' σ S' H'->Same S S'->Q x H'):lr K md e σ H Q
def rz (c:Cn)(md:Md)(L:m7)(σ:L2.St)(a:m4):Prop:=c.H0 a=none/\(∀ p∈c.pr,p.1≠a)/\∀ j w,nq md j≠.imm->L[j]?=some (some w)->σ[j]?≠some (some (.ref a))
inductive lf (K:kj)(md:Md)(e:EW)(σ:L2.St)(H:Hp)(Q:VK):Prop
 | mk (c:_)(L:_)(S:_)(Q0:_)(_:Iv K c md L σ S H)(_:e L Q0)(_:∀ v L',Q0 v L'->∀ a S' H',OwnAt K S' H' a v->rz c md L' σ a->Iv K c md L' σ S' H'->Same S S'->Q (.ref a) H'):lf K md e σ H Q
inductive lb (K:kj)(md:Md)(e:BW)(σ:L2.St)(H:Hp)(Q:Bool->Hp->Prop):Prop
 | mk (c:_)(L:_)(S:_)(Q0:_)(_:Iv K c md L σ S H)(_:e L Q0)(_:∀ v L',Q0 v L'->∀ S' H',Iv K c md L' σ S' H'->Same S S'->Q v H'):lb K md e σ H Q
inductive la (K:kj)(md:Md)(e:AW)(σ:L2.St)(H:Hp)(Q:List V->Hp->Prop):Prop
 | mk (c:_)(L:_)(S:_)(Q0:_)(_:Iv K c md L σ S H)(_:e L Q0)(_:∀ v L',Q0 v L'->∀ x S' H',RVs K S' v x->Iv K c md L' σ S' H'->Same S S'->Q x H'):la K md e σ H Q
inductive lo (K:kj)(md:Md)(e:OW)(σ:L2.St)(H:Hp)(Q:Option Int->Hp->Prop):Prop
 | mk (c:_)(L:_)(S:_)(Q0:_)(_:Iv K c md L σ S H)(_:e L Q0)(_:∀ v L',Q0 v L'->∀ S' H',Iv K c md L' σ S' H'->Same S S'->Q v H'):lo K md e σ H Q
def FE (X:Cx)(C:CC)(x:Expr)(e:EW):Prop:=PE X.nox x (lv X.K C.md e)
def FR (X:Cx)(C:CC)(x:Expr)(e:EW):Prop:=PE X.nox x (lr X.K C.md e)
def FF (X:Cx)(C:CC)(x:Expr)(e:EW):Prop:=PE X.nox x (lf X.K C.md e)
def FB (X:Cx)(C:CC)(x:Expr)(e:BW):Prop:=PT X.nox x (lb X.K C.md e)
def FW (X:Cx)(C:CC)(x:Expr)(e:BW):Prop:=PW X.nox x (lb X.K C.md e)
def FA (X:Cx)(C:CC)(x:List Expr)(e:AW):Prop:=PA X.nox x (la X.K C.md e)
def FO (X:Cx)(C:CC)(x:Option Expr)(e:OW):Prop:=L2.PO X.nox x (lo X.K C.md e)
section
variable {X:Cx}
theorem PE.imp {e:Expr}{t u:TE}(h:PE X e t)(f:∀ σ H Q,u σ H Q->t σ H Q):PE X e u:=λZ9 s σ H Q I hu=>h Z9 s σ H Q I (f σ H Q hu)
theorem PT.imp {e:Expr}{t u:TT}(h:PT X e t)(f:∀ σ H Q,u σ H Q->t σ H Q):PT X e u:=λZ9 s σ H Q I hu=>h Z9 s σ H Q I (f σ H Q hu)
theorem PW.imp {e:Expr}{t u:TT}(h:PW X e t)(f:∀ σ H Q,u σ H Q->t σ H Q):PW X e u:=λw Z9 s σ H Q I hu=>h w Z9 s σ H Q I (f σ H Q hu)
theorem PA.imp {e:List Expr}{t u:TA}(h:PA X e t)(f:∀ σ H Q,u σ H Q->t σ H Q):PA X e u:=λp Z9 s σ H Q I hu=>h p Z9 s σ H Q I (f σ H Q hu)
theorem PO.imp {e:Option Expr}{t u:TO}(h:L2.PO X e t)(f:∀ σ H Q,u σ H Q->t σ H Q):L2.PO X e u:=λZ9 s σ H Q I hu=>h Z9 s σ H Q I (f σ H Q hu)
end
section
variable {X:Cx}{C:CC}{n:Nat}{sp:kj->Nat->Sp}
theorem Good.vis (G:Good X C n sp){x:Str}(h:C.vis x=true):Kp X.env.scope x:=by
 unfold CC.vis at h
 unfold Kp
 rw[G.sc]
 split at h
 ·rename_i e;exact .inl e
 ·rename_i e;exact .inr (.inl e)
 ·rename_i e;exact .inr (.inr e)
 ·cases h
theorem Good.gl (G:Good X C n sp){x:Str}(h:C.gl x=true):Gl X x:=by
 show X.env.scope.names.lookup x=_
 rw[G.sc];exact de h
theorem Good.loc (G:Good X C n sp){x:Str}(h:C.loc x=true):L2.Loc X.env.scope x/\(X.fn x=true ∨ X.env.scope.names.lookup x=some .local):=by
 unfold CC.loc at h
 unfold L2.Loc
 rw[G.sc]
 split at h
 ·rename_i e;exact⟨.inl e,.inr e⟩
 ·rename_i e;exact⟨.inr e,.inl (G.fn x h)⟩
 ·cases h
variable {K:kj}{c:Cn}{md:Md}{L:m7}{σ:L2.St}{S H:Hp}
theorem Iv.rd (I:Iv K c md L σ S H){i:Nat}{v:FV}(e:lk L i=some v):∃ x,σ[i]?=some (some x)/\RH K S H v x:=by
 rw[o8] at e
 by_cases m:nq md i=.imm
 ·let(x,h1,h2):=I.imm i v m e
  exact⟨x,h1,.inl h2⟩
 ·let(a,h1,h2,_):=I.own i v m e
  exact⟨_,h1,.inr ⟨a,rfl,h2⟩⟩
theorem tF {Q:VK}{z:FV}(I:Iv K c md L σ S H)(k:∀ x S' H',RV K S' z x->Iv K c md L σ S' H'->Same S S'->Q x H'):NewOr K S H Q z where
 old:=λx _ r=>k x S H r I (Same.refl S)
 tup:=λps xs p e r hp=>k _ _ _ (by rw[e];exact⟨p,xs,rfl,nD,r.mono (nX (I.sn hp))⟩) (I.new hp _) (nX (I.sn hp))
 lst:=λps xs p e r hp=>k _ _ _ (by rw[e];exact⟨p,xs,rfl,nD,r.mono (nX (I.sn hp))⟩) (I.new hp _) (nX (I.sn hp))
theorem Iv.fresh (I:Iv K c md L σ S H){p:m4}(h:H p=none):rz c md L σ p:=by
 refine⟨I.h0 h,λq hq z=>?_,λj w m e z=>?_⟩
 ·rw[<- z,(I.prs q hq).1] at h;cases h
 ·let(a,e1,(_,_,_,_,e2,_),_):=I.own j w m e
  rw[z] at e1;cases e1
  rw[h] at e2;cases e2
theorem GZ {Q:VK}{z:FV}(I:Iv K c md L σ S H)(hz:∃ ps,z=.lst ps)(k:∀ a S' H',OwnAt K S' H' a z->rz c md L σ a->Iv K c md L σ S' H'->Same S S'->Q (.ref a) H'):NewOr K S H Q z where
 old:=λx n _=>let ⟨ps,e⟩:=hz;absurd e (n ps)
 tup:=λps xs p e r hp=>by let(qs,e2):=hz;rw[e2] at e;cases e
 lst:=λps xs p e r hp=>by subst e;exact k p S _ ⟨I.sn hp,ps,xs,rfl,nD,r⟩ (I.fresh hp) (I.lay hp _) (Same.refl S)
theorem Pe (G:Good X C n sp){i:Nat}{x:Str}{pos:Pos}(h:C.nm i x=true)(m:nq C.md i=.imm):FE X C (.Name x pos) (m5 i):=by
 have h:=b2 h;have h1:=b2 h.1;have h2:=b2 h1.1
 refine PE.imp (zu (by show X.N[i]?=_;rw[G.N];exact de h2.1) (G.vis h2.2) (nb h1.2) (nb h.2)) λσ H Q ⟨c,L,S,Q0,I,h,k⟩=>?_
 let(v,e,q):=oE h
 let(x,e1,r):=I.imm i v m ((o8 _ _ _).mp e)
 exact⟨x,e1,k v L q x S H r I (Same.refl S)⟩
theorem O6 (G:Good X C n sp){i:Nat}{x:Str}{pos:Pos}(h:C.nm i x=true):FR X C (.Name x pos) (m5 i):=by
 have h:=b2 h;have h1:=b2 h.1;have h2:=b2 h1.1
 refine PE.imp (zu (by show X.N[i]?=_;rw[G.N];exact de h2.1) (G.vis h2.2) (nb h1.2) (nb h.2)) λσ H Q ⟨c,L,S,Q0,I,h,k⟩=>?_
 let(v,e,q):=oE h
 let(x,e1,r):=I.rd e
 exact⟨x,e1,k v L q x S H r I (Same.refl S)⟩
theorem fr_of {x:Expr}{e:EW}(h:FE X C x e):FR X C x e:=PE.imp h λσ H Q q1=>by let(c,L,S,Q0,I,h,k):=q1;exact⟨c,L,S,Q0,I,h,λv L' q x S' H' r=>k v L' q x S' H' (.inl r)⟩
theorem IN {x:Expr}{v:FV}{u:V}(h:PE X.nox x (tC u))(r:∀ S,RV X.K S v u):FE X C x (eC v):=PE.imp h λσ H Q q1=>by let(c,L,S,Q0,I,h,k):=q1;exact k v L h u S H (r S) I (Same.refl S)
theorem IM {i j pos}:FE X C (.Constant (.int i) j pos) (eC (.int i)):=IN Dk λ_=>rfl
theorem fe_bl {i j pos}:FE X C (.Constant (.bool i) j pos) (eC (.bl i)):=IN Le λ_=>rfl
theorem Pl {j pos}:FE X C (.Constant .none j pos) (eC .non):=IN HY λ_=>rfl
section
variable {f:FV->FV->Option FV}{a b:Expr}{ea eb:EW}{pos:Pos}{i:Nat}{x:Str}
theorem oR (G:Good X C n sp)(h:C.nm i x=true):PE X.nox (.Name x pos) (tVar i):=by
 have h:=b2 h;have h1:=b2 h.1;have h2:=b2 h1.1
 exact zu (by show X.N[i]?=_;rw[G.N];exact de h2.1) (G.vis h2.2) (nb h1.2) (nb h.2)
theorem Kg {r:R2}{σ:L2.St}{H:Hp}{Q:VK}(hh:∃ (c:Cn)(L:m7)(S:Hp)(Q0:FV->FV->m7->Prop),Iv K c md L σ S H/\ea L (λx L1=>eb L1 λy L2=>Q0 x y L2)/\∀ v w L' S' H' x y,Q0 v w L'->RV K S' v x->RH K S' H' w y->Iv K c md L' σ S' H'->Same S S'->r x y H' Q):Hj r (lv K md ea) (lr K md eb) σ H Q:=by
 let(c,L,S,Q0,I,h,k):=hh
 exact⟨c,L,S,_,I,h,λv L1 hv x S1 H1 r1 I1 s1=>⟨c,L1,S1,_,I1,hv,λw L2 hw y S2 H2 r2 I2 s2=>k v w L2 S2 H2 x y hw (r1.mono s2) r2 I2 (s1.trans s2)⟩⟩
theorem OS {r:R2}{σ:L2.St}{H:Hp}{Q:VK}(hh:∃ (c:Cn)(L:m7)(S:Hp)(Q0:FV->FV->m7->Prop),Iv K c md L σ S H/\(wp (lk L i) λ_=>eb L λy L1=>wp (lk L1 i) λx=>Q0 x y L1)/\∀ v w L' S' H' x y,Q0 v w L'->RH K S' H' v x->RH K S' H' w y->Iv K c md L' σ S' H'->Same S S'->r x y H' Q):Hj r (tVar i) (lr K md eb) σ H Q:=by
 let(c,L,S,Q0,I,h,k):=hh
 let(_,e,h):=oE h
 let(x,e1,_):=I.rd e
 refine⟨x,e1,c,L,S,_,I,h,λw L2 hw y S2 H2 r2 I2 s2=>?_⟩
 let(v,e2,q):=oE hw
 let(x',e3,r1):=I2.rd e2
 rw[e1] at e3;cases e3
 exact k v w L2 S2 H2 x y q r1 r2 I2 s2
theorem OB {Q0:FV->m7->Prop}{Q:VK}{v w:FV}{x y:V}(I:Iv K c md L σ S H)(rv:RH K S H v x)(rw':RH K S H w y)(h:wp (f v w) λz=>Q0 z L)(k:∀ z,Q0 z L->∀ x S' H',RV K S' z x->Iv K c md L σ S' H'->Same S S'->Q x H'):Rq K f x y H Q:=by
 let(z,e,q):=oE h
 exact⟨S,v,w,z,I.sub,rv,rw',e,tF I (k z q)⟩
theorem Lj (h:PE X.nox a (Hj (Rq X.K f) (lv X.K C.md ea) (lr X.K C.md eb))):FE X C a (nh f ea eb):=PE.imp h λσ H Q ⟨c,L,S,Q0,I,h,k⟩ =>
 Kg ⟨c,L,S,λx y L2=>wp (f x y) λz=>Q0 z L2,I,h,λv w L' S' H' x y q r1 r2 I' s'=>OB I' (.inl r1) r2 q λz qz x S2 H2 r I2 s2=>k z L' qz x S2 H2 r I2 (s'.trans s2)⟩
variable {op:ma}
theorem wb (ho:pO X.nox (binaryOp op) (Rq X.K f))(ha:FE X C a ea)(hb:FR X C b eb):FE X C (.BinOp a op b pos) (nh f ea eb):=Lj (xV ho ha hb)
theorem Px (ha:FE X C a ea)(hb:FR X C b eb):FE X C (.BinOp a .Add b pos) (nh nJ ea eb):=wb GT ha hb
theorem Pg (ha:FE X C a ea)(hb:FR X C b eb):FE X C (.BinOp a .Sub b pos) (nh rJ ea eb):=wb KW ha hb
theorem Pm (ha:FE X C a ea)(hb:FR X C b eb):FE X C (.BinOp a .Mult b pos) (nh qt ea eb):=wb GR ha hb
theorem NL (ha:FE X C a ea)(hb:FR X C b eb):FE X C (.BinOp a .FloorDiv b pos) (nh tI ea eb):=wb HH ha hb
theorem Pn (ha:FE X C a ea)(hb:FR X C b eb):FE X C (.BinOp a .Mod b pos) (nh tP ea eb):=wb K0 ha hb
theorem Pj (ha:FE X C a ea)(hb:FR X C b eb):FE X C (.BinOp a .Pow b pos) (nh wQ ea eb):=wb KZ ha hb
def qj (f:FV->FV->Option FV)(v w:FV):Option FV:=(f v w).bind λz=>(tQ z).map λxs=>.lst xs
theorem G6 (ho:pO X.nox (binaryOp op) (Rq X.K f))(ha:FE X C a ea)(hb:FR X C b eb):FF X C (.BinOp a op b pos) (nh (qj f) ea eb):=PE.imp (xV ho ha hb) λσ H Q ⟨c,L,S,Q0,I,h,k⟩ =>
 Kg ⟨c,L,S,λx y L2=>wp (qj f x y) λz=>Q0 z L2,I,h,λv w L' S' H' x y q r1 r2 I' s'=>by
  let(z,e,q):=oE q
  let(z',e1,e2):=oY e
  let(xs,e3,rfl):=sm e2
  cases qE e3
  exact⟨S',v,w,_,I'.sub,.inl r1,r2,e1,GZ I' ⟨xs,rfl⟩ λa S2 H2 o fr I2 s2=>k _ L' q a S2 H2 o fr I2 (s'.trans s2)⟩⟩
theorem Pd (ha:FE X C a ea)(hb:FR X C b eb):FF X C (.BinOp a .Add b pos) (nh (qj nJ) ea eb):=G6 GT ha hb
theorem Pb (ha:FE X C a ea)(hb:FR X C b eb):FF X C (.BinOp a .Mult b pos) (nh (qj qt) ea eb):=G6 GR ha hb
variable {cop:mV}
theorem zM (ho:pO X.nox (compareOp cop) (Rq X.K f))(ha:FE X C a ea)(hb:FR X C b eb)(hm:behindInMarks cop b=false):FE X C (.Compare a [cop] [b] pos) (nh f ea eb):=Lj (Av ho ha hb hm)
def sk (f:FV->FV->Option FV):Prop:=∀ v w z,f v w=some z->∃ b,z=.bl b
theorem Hh {Q0:Bool->m7->Prop}{Q:Bool->Hp->Prop}{v w:FV}{x y:V}(tb:sk f)(I:Iv K c md L σ S H)(rv:RH K S H v x)(rw':RH K S H w y)(h:wp (f v w) λz=>wp (tN z) λb=>Q0 b L)(k:∀ z,Q0 z L->Q z H):Rq K f x y H (λx H'=>∃ k,x=.bl k/\Q k H'):=by
 let(z,e,q):=oE h
 let(b,rfl):=tb v w z e
 exact⟨S,v,w,_,I.sub,rv,rw',e,⟨λx _ r=>⟨b,r,k b q⟩,λ_ _ _ e=>(nomatch e),λ_ _ _ e=>(nomatch e)⟩⟩
theorem tw (tb:sk f)(ho:pO X.nox (compareOp cop) (Rq X.K f))(ha:FE X C a ea)(hb:FR X C b eb)(hm:behindInMarks cop b=false):FB X C (.Compare a [cop] [b] pos) (nL (nh f ea eb)):=PT.imp (E4 ho ha hb hm) λσ H Q ⟨c,L,S,Q0,I,h,k⟩ =>
 Kg ⟨c,L,S,λx y L2=>wp (f x y) λz=>wp (tN z) λb=>Q0 b L2,I,h,λv w L' S' H' x y q r1 r2 I' s'=>Hh tb I' (.inl r1) r2 q λz qz=>k z L' qz S' H' I' s'⟩
end
end
def nC:Expr->Bool|.Starred ..=>true|_=>false
def qF:Expr->Bool|.Slice ..=>true|_=>false
def Dc:Expr->Bool
 | .UnaryOp .Not _ _=>false
 | .BoolOp ..=>false
 | .IfExp ..=>false
 | .Compare ..=>false
 | _=>true
section
variable {X:Cx}{C:CC}{n:Nat}{sp:kj->Nat->Sp}{a b x y:Expr}{ea eb:EW}{pos:Pos}
theorem m8 {xs:List Expr}{env:Env}(h:nC x=false):starEach (x :: xs) env=(false,eval x env) :: starEach xs env:=by
 cases x<;>first|rfl|(cases h;done)
theorem ut (h:qF y=false):Bl y:=by
 intro o i
 cases y<;>first|rfl|(cases h;done)
theorem wR {env:Env}(h:Dc x=true):∀ whole,isTrue x env whole=(do let v <- whole;standAt x.pos;holding [v] (PySem.truthy v)):=by
 intro whole
 cases x<;>first|rfl|(cases h;done)|(rename_i op x pos;cases op<;>first|rfl|(cases h;done))
theorem fe_eq (G:Good X C n sp)(ha:FE X C a ea)(hb:FR X C b eb):FE X C (.Compare a [.Eq] [b] pos) (nh tJ ea eb):=zM (K8 G.room.units) ha hb (oV _ (by decide) (by decide))
theorem fe_le (G:Good X C n sp)(ha:FE X C a ea)(hb:FR X C b eb):FE X C (.Compare a [.LtE] [b] pos) (nh Ey ea eb):=zM (K4 G.room.units) ha hb (oV _ (by decide) (by decide))
theorem fe_ge (ha:FE X C a ea)(hb:FR X C b eb):FE X C (.Compare a [.GtE] [b] pos) (nh Ni ea eb):=zM OG ha hb (oV _ (by decide) (by decide))
theorem CD {f:FV->FV->Option Bool}{g:Bool->FV}(h:∀ b,∃ c,g b=.bl c):sk λv w=>(f v w).map g:=λv w z e=>by
 let(b,_,rfl):=sm e
 exact h b
theorem zb {f:Int->Int->Bool}:sk (pA λi j=>some (.bl (f i j))):=λv w z e=>by
 let(i,_,e):=oY e
 let(j,_,e):=oY e
 cases e;exact⟨_,rfl⟩
theorem Kw:sk Fu:=λv w z e=>by
 cases v with
 | tup xs =>
  let(_,_,e):=oY e
  let(_,_,e):=oY e
  let(_,_,e):=oY e
  cases e;exact⟨_,rfl⟩
 | _=>exact zb _ w z e
theorem Kx:sk Ey:=λv w z e=>by
 cases v with
 | tup xs =>
  let(_,_,e):=oY e
  let(_,_,e):=oY e
  let(_,_,e):=oY e
  cases e;exact⟨_,rfl⟩
 | _=>exact zb _ w z e
theorem fb_eq (G:Good X C n sp)(ha:FE X C a ea)(hb:FR X C b eb):FB X C (.Compare a [.Eq] [b] pos) (nL (nh tJ ea eb)):=tw (CD λb=>⟨b,rfl⟩) (K8 G.room.units) ha hb (oV _ (by decide) (by decide))
theorem fb_ne (G:Good X C n sp)(ha:FE X C a ea)(hb:FR X C b eb):FB X C (.Compare a [.NotEq] [b] pos) (nL (nh Cp ea eb)):=tw (CD λb=>⟨!b,rfl⟩) (OC G.room.units) ha hb (oV _ (by decide) (by decide))
theorem fb_lt (G:Good X C n sp)(ha:FE X C a ea)(hb:FR X C b eb):FB X C (.Compare a [.Lt] [b] pos) (nL (nh Fu ea eb)):=tw Kw (OD G.room.units) ha hb (oV _ (by decide) (by decide))
theorem fb_le (G:Good X C n sp)(ha:FE X C a ea)(hb:FR X C b eb):FB X C (.Compare a [.LtE] [b] pos) (nL (nh Ey ea eb)):=tw Kx (K4 G.room.units) ha hb (oV _ (by decide) (by decide))
theorem fb_gt (ha:FE X C a ea)(hb:FR X C b eb):FB X C (.Compare a [.Gt] [b] pos) (nL (nh Kf ea eb)):=tw zb OF ha hb (oV _ (by decide) (by decide))
end
section
variable {X:Cx}{C:CC}{n:Nat}{sp:kj->Nat->Sp}{a b d x:Expr}{ea eb:EW}{ba bb:BW}{pos p:Pos}
variable {K:kj}{c:Cn}{md:Md}{L:m7}{σ:L2.St}{S H:Hp}
theorem zx {v:FV}{x:V}(r1:RH K S H v x):pT v=some (.bl (decide (x=V.non)))/\ph v=some (.bl (!decide (x=V.non))):=by
 rcases r1 with r1|⟨a,rfl,_,ps,xs,e9,_⟩
 ·cases v<;>first|(cases (show x=_ from r1);exact⟨rfl,rfl⟩;done)|(let(a,_,rfl,_):=r1;exact⟨rfl,rfl⟩;done)|(let(a,rfl,_):=r1;exact⟨rfl,rfl⟩;done)
 ·cases v<;>first|(cases e9;done)|exact⟨rfl,rfl⟩
theorem Ps {j pos'}(ha:FR X C a ea):FE X C (.Compare a [.Is] [.Constant .none j pos'] pos) (oh pT ea):=PE.imp (HZ (Dp ha)) λσ H Q q1=>by let(c,L,S,Q0,I,h,k):=q1;exact
 ⟨c,L,S,_,I,h,λv L1 hv x S1 H1 r1 I1 s1=>by
  let(z,e3,q):=oE hv
  rw[(zx r1).1] at e3;cases e3
  exact k _ L1 q _ S1 H1 rfl I1 s1⟩
theorem PU {j pos'}(ha:FR X C a ea):FB X C (.Compare a [.Is] [.Constant .none j pos'] pos) (nL (oh pT ea)):=PT.imp (C7 (Dp ha)) λσ H Q q1=>by let(c,L,S,Q0,I,h,k):=q1;exact
 ⟨c,L,S,_,I,h,λv L1 hv x S1 H1 r1 I1 s1=>by
  let(z,e3,q):=oE hv
  rw[(zx r1).1] at e3;cases e3
  exact⟨_,rfl,k _ L1 q S1 H1 I1 s1⟩⟩
theorem NO {j pos'}(ha:FR X C a ea):FB X C (.Compare a [.IsNot] [.Constant .none j pos'] pos) (nL (oh ph ea)):=PT.imp (C7 (Fi ha)) λσ H Q q1=>by let(c,L,S,Q0,I,h,k):=q1;exact
 ⟨c,L,S,_,I,h,λv L1 hv x S1 H1 r1 I1 s1=>by
  let(z,e3,q):=oE hv
  rw[(zx r1).2] at e3;cases e3
  exact⟨_,rfl,k _ L1 q S1 H1 I1 s1⟩⟩
theorem IL (ha:FE X C a ea):FE X C (.UnaryOp .USub a pos) (oh wT ea):=PE.imp (Lc Hg ha) λσ H Q q1=>by let(c,L,S,Q0,I,h,k):=q1;exact
 ⟨c,L,S,_,I,h,λv L1 hv x S1 H1 r1 I1 s1=>by
  let(z,e,q):=oE hv
  let(b,e1,rfl):=sm e
  cases nN e1
  exact⟨b,r1,k _ L1 q _ S1 H1 rfl I1 s1⟩⟩
theorem wH {v:FV}{u:V}{t:Bool}(s:Same S H)(r:RH K S H v u)(e:tN v=some t):Es K u H t:=by
 have em:∀ {ps:List FV}{xs:List V},RVs K S ps xs->(!ps.isEmpty) = !xs.isEmpty:=λ{ps xs} h=>by cases ps<;>cases xs<;>first|rfl|(have:=h.length;simp at this)
 cases v with
 | non=>cases (show u=V.non from r.val rfl);cases e;exact rfl
 | bl c=>cases r.bl;cases e;exact rfl
 | int c=>cases r.int;cases e;exact rfl
 | str c=>cases e
 | shn c=>cases e
 | dct _ _=>cases e
 | dci _ _=>cases e
 | dcz _ _ _=>cases e
 | obj _ _ _ _=>cases e
 | dcn _ _ _=>cases e
 | tup ps =>
  let(a,xs,rfl,h1,h2):=r.tup s
  cases e
  exact .inr (.inl ⟨xs,SqT.of h1,em h2⟩)
 | lst l =>
  let(a,xs,rfl,h1,h2):=r.lst s
  cases e
  exact .inl ⟨xs,SqL.of h1,em h2⟩
 | scr ns =>
  cases e
  let(a,xs,rfl,h1,h2):=r.list s (show pP (.scr ns)=_ from rfl)
  refine .inl ⟨_,h1,?_⟩
  rw[<- em h2];cases ns<;>rfl
theorem Fh {rest:List Expr}{ta tb:TE}(ha:PE X a ta)(hb:PE X (.BoolOp .And (b :: rest) pos) tb) :
  PE X (.BoolOp .And (a :: b :: rest) pos) (λσ H Q=>ta σ H λx H1=>∃ c,Es X.K x H1 c/\(if c=true then tb σ H1 Q else Q x H1)):=by
 intro Z9 s σ H Q I h
 refine BoolOp_and (nW (ha Z9 s σ H _ I h) λv s1 ⟨x,H1,I1,r1,c,tv,q1⟩=>?_)
 refine nW (za Z9 s1 σ H1 x v (λc' H'=>c'=c/\H'=H1) I1 r1 ⟨c,tv,rfl,rfl⟩) λb s2 q2=>?_;let(H2,I2,e1,e2):=q2
 subst e1 e2
 cases b with
 | true=>exact hb Z9 s2 σ H2 Q I2 (by simpa using q1)
 | false=>exact⟨x,H2,I2,r1,by simpa using q1⟩
theorem HW {rest:List Expr}{ta tb:TE}(ha:PE X a ta)(hb:PE X (.BoolOp .Or (b :: rest) pos) tb) :
  PE X (.BoolOp .Or (a :: b :: rest) pos) (λσ H Q=>ta σ H λx H1=>∃ c,Es X.K x H1 c/\(if c=true then Q x H1 else tb σ H1 Q)):=by
 intro Z9 s σ H Q I h
 refine BoolOp_or (nW (ha Z9 s σ H _ I h) λv s1 ⟨x,H1,I1,r1,c,tv,q1⟩=>?_)
 refine nW (za Z9 s1 σ H1 x v (λc' H'=>c'=c/\H'=H1) I1 r1 ⟨c,tv,rfl,rfl⟩) λb s2 q2=>?_;let(H2,I2,e1,e2):=q2
 subst e1 e2
 cases b with
 | false=>exact hb Z9 s2 σ H2 Q I2 (by simpa using q1)
 | true=>exact⟨x,H2,I2,r1,by simpa using q1⟩
theorem Pk {op:BoolOp}(ha:FE X C a ea):FE X C (.BoolOp op [a] pos) ea:=HX ha
theorem Pv {rest:List Expr}(ha:FE X C a ea)(hb:FE X C (.BoolOp .And (b :: rest) pos) eb):FE X C (.BoolOp .And (a :: b :: rest) pos) (Ju ea eb):=PE.imp (Fh ha hb) λσ H Q q1=>by let(c,L,S,Q0,I,h,k):=q1;exact
 ⟨c,L,S,_,I,h,λv L1 hv x S1 H1 r1 I1 s1=>by
  let(t,e,q):=oE hv
  refine⟨t,wH I1.sub (.inl r1) e,?_⟩
  cases t with
  | true=>exact⟨c,L1,S1,Q0,I1,q,λv L' q x S' H' r I' s'=>k v L' q x S' H' r I' (s1.trans s')⟩
  | false=>exact k v L1 q x S1 H1 r1 I1 s1⟩
theorem fe_or {rest:List Expr}(ha:FE X C a ea)(hb:FE X C (.BoolOp .Or (b :: rest) pos) eb):FE X C (.BoolOp .Or (a :: b :: rest) pos) (Qb ea eb):=PE.imp (HW ha hb) λσ H Q q1=>by let(c,L,S,Q0,I,h,k):=q1;exact
 ⟨c,L,S,_,I,h,λv L1 hv x S1 H1 r1 I1 s1=>by
  let(t,e,q):=oE hv
  refine⟨t,wH I1.sub (.inl r1) e,?_⟩
  cases t with
  | false=>exact⟨c,L1,S1,Q0,I1,q,λv L' q x S' H' r I' s'=>k v L' q x S' H' r I' (s1.trans s')⟩
  | true=>exact k v L1 q x S1 H1 r1 I1 s1⟩
theorem fe_if (hc:FB X C d ba)(ha:FE X C a ea)(hb:FE X C b eb):FE X C (.IfExp d a b pos) (Ki ba ea eb):=PE.imp (Dl hc ha hb) λσ H Q q1=>by let(c,L,S,Q0,I,h,k):=q1;exact
 ⟨c,L,S,_,I,h,λt L1 hv S1 H1 I1 s1=>by
  cases t with
  | true=>exact⟨c,L1,S1,Q0,I1,hv,λv L' q x S' H' r I' s'=>k v L' q x S' H' r I' (s1.trans s')⟩
  | false=>exact⟨c,L1,S1,Q0,I1,hv,λv L' q x S' H' r I' s'=>k v L' q x S' H' r I' (s1.trans s')⟩⟩
theorem PQ (hp:Dc a=true)(ha:FR X C a ea):FB X C a (nL ea):=PT.imp (C6 ha (wR hp)) λσ H Q q1=>by let(c,L,S,Q0,I,h,k):=q1;exact
 ⟨c,L,S,_,I,h,λv L1 hv x S1 H1 r1 I1 s1=>by
  let(t,e,q):=oE hv
  exact⟨t,wH I1.sub r1 e,k t L1 q S1 H1 I1 s1⟩⟩
theorem PR (ha:FB X C a ba):FB X C (.UnaryOp .Not a pos) (GE ba):=PT.imp (HM ha) λσ H Q q1=>by let(c,L,S,Q0,I,h,k):=q1;exact⟨c,L,S,_,I,h,λt L1 hv S1 H1 I1 s1=>k _ L1 hv S1 H1 I1 s1⟩
theorem Nj (ha:FB X C a ba):FW X C (.BoolOp .And [a] pos) ba:=E3 ha
theorem OU (ha:FB X C a ba):FW X C (.BoolOp .Or [a] pos) ba:=HK ha
theorem OV {rest:List Expr}(ha:FB X C a ba)(hb:FW X C (.BoolOp .And (b :: rest) pos) bb):FW X C (.BoolOp .And (a :: b :: rest) pos) (Cj ba bb):=PW.imp (HL ha hb) λσ H Q q1=>by let(c,L,S,Q0,I,h,k):=q1;exact
 ⟨c,L,S,_,I,h,λt L1 hv S1 H1 I1 s1=>by
  cases t with
  | true=>exact⟨c,L1,S1,Q0,I1,hv,λv L' q S' H' I' s'=>k v L' q S' H' I' (s1.trans s')⟩
  | false=>exact k _ L1 hv S1 H1 I1 s1⟩
theorem fw_or {rest:List Expr}(ha:FB X C a ba)(hb:FW X C (.BoolOp .Or (b :: rest) pos) bb):FW X C (.BoolOp .Or (a :: b :: rest) pos) (Ko ba bb):=PW.imp (K9 ha hb) λσ H Q q1=>by let(c,L,S,Q0,I,h,k):=q1;exact
 ⟨c,L,S,_,I,h,λt L1 hv S1 H1 I1 s1=>by
  cases t with
  | false=>exact⟨c,L1,S1,Q0,I1,hv,λv L' q S' H' I' s'=>k v L' q S' H' I' (s1.trans s')⟩
  | true=>exact k _ L1 hv S1 H1 I1 s1⟩
theorem fb_w (h:FW X C a ba):FB X C a ba:=PW.pt h
theorem PY:FA X C [] m9:=PA.imp oM λσ H Q q1=>by let(c,L,S,Q0,I,h,k):=q1;exact k [] L h [] S H rfl I (Same.refl S)
theorem NQ {xs:List Expr}{as:AW}(hs:nC a=false)(ha:FE X C a ea)(hr:FA X C xs as):FA X C (a :: xs) (m6 ea as):=PA.imp (nE ha hr (m8 hs)) λσ H Q q1=>by let(c,L,S,Q0,I,h,k):=q1;exact
 ⟨c,L,S,_,I,h,λv L1 hv x S1 H1 r1 I1 s1=>⟨c,L1,S1,_,I1,hv,λvs L2 hvs us S2 H2 r2 I2 s2=>k _ L2 hvs _ S2 H2 ⟨x,us,rfl,r1.mono s2,r2⟩ I2 (s1.trans s2)⟩⟩
theorem Pf {xs:List Expr}{as:AW}{m:Nat}(h:FA X C xs as):FE X C (.Tuple xs m pos) (oQ as):=PE.imp (HV h) λσ H Q q1=>by let(c,L,S,Q0,I,h,k):=q1;exact
 ⟨c,L,S,_,I,h,λvs L1 hv us S1 H1 r1 I1 s1=>⟨by have:=oW;rw[<- r1.length];exact kA hv.1 this,λp hp=>(tF I1 λx S' H' r I' s'=>k _ L1 hv.2 x S' H' r I' (s1.trans s')).tup _ _ p rfl r1 hp⟩⟩
theorem Po {xs:List Expr}{as:AW}(h:FA X C xs as):FE X C (.List xs pos) (qg as):=PE.imp (Dj h) λσ H Q q1=>by let(c,L,S,Q0,I,h,k):=q1;exact
 ⟨c,L,S,_,I,h,λvs L1 hv us S1 H1 r1 I1 s1=>⟨by have:=oW;rw[<- r1.length];exact kA hv.1 this,λp hp=>(tF I1 λx S' H' r I' s'=>k _ L1 hv.2 x S' H' r I' (s1.trans s')).lst _ _ p rfl r1 hp⟩⟩
theorem Pc {xs:List Expr}{as:AW}(h:FA X C xs as):FF X C (.List xs pos) (qg as):=PE.imp (Dj h) λσ H Q q1=>by let(c,L,S,Q0,I,h,k):=q1;exact
 ⟨c,L,S,_,I,h,λvs L1 hv us S1 H1 r1 I1 s1=>⟨by have:=oW;rw[<- r1.length];exact kA hv.1 this,λp hp=>(GZ I1 ⟨vs,rfl⟩ λa S' H' o fr I' s'=>k _ L1 hv.2 a S' H' o fr I' (s1.trans s')).lst _ _ p rfl r1 hp⟩⟩
theorem fe_ix (hs:qF b=false)(ha:FE X C a ea)(hb:FR X C b eb):FE X C (.Subscript a b pos) (nh nY ea eb):=PE.imp (GV K5 ha hb (ut hs)) λσ H Q ⟨c,L,S,Q0,I,h,k⟩ =>
 Kg ⟨c,L,S,λx y L2=>wp (nY x y) λz=>Q0 z L2,I,h,λv w L' S' H' x y q r1 r2 I' s'=>by
  let(z,e,q):=oE q
  exact⟨S',v,w,z,I'.sub,.inl r1,r2,e,λu r=>k z L' q u S' H' r I' s'⟩⟩
theorem Pq (G:Good X C n sp){i:Nat}{nx:Str}(hs:qF b=false)(h:C.nm i nx=true)(hb:FR X C b eb):FE X C (.Subscript (.Name nx p) b pos) (pU nY i eb):=PE.imp (GV K5 (oR G h) hb (ut hs)) λσ H Q ⟨c,L,S,Q0,I,h,k⟩ =>
 OS ⟨c,L,S,λx y L2=>wp (nY x y) λz=>Q0 z L2,I,h,λv w L' S' H' x y q r1 r2 I' s'=>by
  let(z,e,q):=oE q
  exact⟨S',v,w,z,I'.sub,r1,r2,e,λu r=>k z L' q u S' H' r I' s'⟩⟩
theorem Nv:FO X C none ux:=PO.imp Aq λσ H Q q1=>by let(c,L,S,Q0,I,h,k):=q1;exact k none L h S H I (Same.refl S)
theorem Nu (h:FE X C a ea):FO X C (some a) (qr ea):=PO.imp (Ap h) λσ H Q q1=>by let(c,L,S,Q0,I,h,k):=q1;exact
 ⟨c,L,S,_,I,h,λv L1 hv x S1 H1 r1 I1 s1=>by
  let(i,e,q):=oE hv
  cases nN e
  exact⟨i,r1,k _ L1 q S1 H1 I1 s1⟩⟩
variable {xl xh:Option Expr}{wl wh:OW}{p2:Pos}
theorem fe_sl (ha:FE X C a ea)(hl:FO X C xl wl)(hh:FO X C xh wh):FE X C (.Subscript a (.Slice xl xh none p2) pos) (Gq ea wl wh):=PE.imp (uv KY ha hl hh) λσ H Q q1=>by let(c,L,S,Q0,I,h,k):=q1;exact
 ⟨c,L,S,_,I,h,λv L1 hv x S1 H1 r1 I1 s1=>⟨c,L1,S1,_,I1,hv,λo1 L2 h1 S2 H2 I2 s2=>⟨c,L2,S2,_,I2,h1,λo2 L3 h2 S3 H3 I3 s3=>by
  let(z,e,q):=oE h2
  exact⟨S3,v,z,I3.sub,.inl (r1.mono (s2.trans s3)),e,tF I3 λx S' H' r I' s'=>k z L3 q x S' H' r I' (s1.trans (s2.trans (s3.trans s')))⟩⟩⟩⟩
theorem Oz {σ:L2.St}{i:Nat}{Q:VK}{Q1:FV->m7->Prop}(I:Iv K c md L σ S H)(h:Gp i wl wh L Q1)(k:∀ v z o1 o2 L' S' H' x,qT v o1 o2=some z->Q1 z L'->RH K S' H' v x->Iv K c md L' σ S' H'->Same S S'->NewOr K S' H' Q z):tSl (Rsl K) (tVar i) (lo K md wl) (lo K md wh) σ H Q:=by
 let(_,e,h):=oE h
 let(x,e1,_):=I.rd e
 refine⟨x,e1,c,L,S,_,I,h,λo1 L2 h1 S2 H2 I2 s2=>⟨c,L2,S2,_,I2,h1,λo2 L3 h2 S3 H3 I3 s3=>?_⟩⟩
 let(v,e2,h3):=oE h2
 let(z,e3,q):=oE h3
 let(x',e4,r):=I3.rd e2
 rw[e1] at e4;cases e4
 exact⟨S3,v,z,I3.sub,r,e3,k v z o1 o2 L3 S3 H3 x e3 q r I3 (s2.trans s3)⟩
end
section
variable {X:Cx}{C:CC}{n:Nat}{sp:kj->Nat->Sp}{a b:Expr}{ea eb:EW}{pos p:Pos}
variable {K:kj}{md:Md}{σ:L2.St}{S H:Hp}{i:Nat}{nx:Str}
variable {xl xh:Option Expr}{wl wh:OW}{p2:Pos}
theorem Ph (G:Good X C n sp)(h:C.nm i nx=true)(hl:FO X C xl wl)(hh:FO X C xh wh):FE X C (.Subscript (.Name nx p) (.Slice xl xh none p2) pos) (Gp i wl wh):=PE.imp (uv KY (oR G h) hl hh) λσ H Q ⟨c,L,S,Q0,I,h,k⟩ =>
 Oz I h λv z o1 o2 L' S' H' x e q r I' s'=>tF I' λx S2 H2 r I2 s2=>k z L' q x S2 H2 r I2 (s'.trans s2)
theorem Ha {f:FV->Option FV}{Q:VK}(hh:lv K md (oh f ea) σ H Q):Ov (Rc K f) (Ak (lr K md ea) KC) σ H Q:=by
 let(c,L,S,Q0,I,h,k):=hh
 refine⟨c,L,S,_,I,h,λv L1 hv x S1 H1 r1 I1 s1=>?_⟩
 let(z,e,q):=oE hv
 exact⟨S1,v,x,z,rfl,I1.sub,r1,e,tF I1 λx S' H' r I' s'=>k z L1 q x S' H' r I' (s1.trans s')⟩
theorem uX {id nm:String}{f:FV->Option FV}(hc:og X.nox (.builtin id) (Rc X.K f))(G:Good X C n sp)(hb:nm∈bltNames)(hv:bootBuiltins (ke nm)=some (.builtin id))(h1:ke nm≠"__name__")(h2:(ke nm == ("__debug__":Str))=false)(hg:C.gl (ke nm)=true)(hs:nC a=false)(ha:FR X C a ea) :
  FE X C (.Call (.Name (ke nm) p) [a] [] pos) (oh f ea):=PE.imp (qU hc (G.gl hg) (G.blt nm hb) hv (nE ha oM (m8 hs)) h1 h2 (m8 hs) rfl) λσ H Q h=>Ha h
theorem D4 {T nm:String}{f:FV->Option FV}(hc:og X.nox (.type T) (Rc X.K f))(G:Good X C n sp)(hb:nm∈bltNames)(hv:bootBuiltins (ke nm)=some (.type T))(h1:ke nm≠"__name__")(h2:(ke nm == ("__debug__":Str))=false)(hg:C.gl (ke nm)=true)(hs:nC a=false)(ha:FR X C a ea) :
  FE X C (.Call (.Name (ke nm) p) [a] [] pos) (oh f ea):=PE.imp (BL hc (G.gl hg) (G.blt nm hb) hv (nE ha oM (m8 hs)) h1 h2 (m8 hs) rfl) λσ H Q h=>Ha h
theorem Pp (G:Good X C n sp)(hg:C.gl (ke "len")=true)(hs:nC a=false)(ha:FR X C a ea):FE X C (.Call (.Name (ke "len") p) [a] [] pos) (oh pS ea):=uX Mn G (by decide) (by nofun) (by nofun) (by nofun) hg hs ha
theorem Py (G:Good X C n sp)(hg:C.gl (ke "abs")=true)(hs:nC a=false)(ha:FR X C a ea):FE X C (.Call (.Name (ke "abs") p) [a] [] pos) (oh Er ea):=uX Mr G (by decide) (by nofun) (by nofun) (by nofun) hg hs ha
theorem Pw (G:Good X C n sp)(hg:C.gl (ke "all")=true)(hs:nC a=false)(ha:FR X C a ea):FE X C (.Call (.Name (ke "all") p) [a] [] pos) (oh GK ea):=uX (Mq G.calm) G (by decide) (by nofun) (by nofun) (by nofun) hg hs ha
theorem NG (G:Good X C n sp)(hg:C.gl (ke "min")=true)(hs:nC a=false)(ha:FR X C a ea):FE X C (.Call (.Name (ke "min") p) [a] [] pos) (oh x5 ea):=uX (JB G.calm) G (by decide) (by nofun) (by nofun) (by nofun) hg hs ha
theorem L9 (G:Good X C n sp)(hg:C.gl (ke "int")=true)(hs:nC a=false)(ha:FR X C a ea):FE X C (.Call (.Name (ke "int") p) [a] [] pos) (oh ug ea):=D4 Mp G (by decide) (by nofun) (by nofun) (by nofun) hg hs ha
theorem L7 (G:Good X C n sp)(hg:C.gl (ke "tuple")=true)(hs:nC a=false)(ha:FR X C a ea):FE X C (.Call (.Name (ke "tuple") p) [a] [] pos) (oh oZ ea):=D4 Gy G (by decide) (by nofun) (by nofun) (by nofun) hg hs ha
theorem L8 (G:Good X C n sp)(hg:C.gl (ke "str")=true)(hs:nC a=false)(ha:FR X C a ea):FE X C (.Call (.Name (ke "str") p) [a] [] pos) (oh pW ea):=D4 (Mm G.room.units G.room.gd) G (by decide) (by nofun) (by nofun) (by nofun) hg hs ha
theorem G7 {id nm:String}{f:FV->FV->Option FV}(hc:og X.nox (.builtin id) (Rc2 X.K f))(G:Good X C n sp)(hb:nm∈bltNames)(hv:bootBuiltins (ke nm)=some (.builtin id))(h1:ke nm≠"__name__")(h2:(ke nm == ("__debug__":Str))=false)(hg:C.gl (ke nm)=true)(hs:nC a=false)(hs2:nC b=false)(ha:FE X C a ea)(hb':FR X C b eb) :
  FE X C (.Call (.Name (ke nm) p) [a,b] [] pos) (nh f ea eb):=PE.imp (qU hc (G.gl hg) (G.blt nm hb) hv (nE ha (nE hb' oM (m8 hs2)) (m8 hs)) h1 h2 (m8 hs) (by rw[m8 hs2];rfl)) λσ H Q q1=>by let(c,L,S,Q0,I,h,k):=q1;exact
 ⟨c,L,S,_,I,h,λv L1 hv x S1 H1 r1 I1 s1=>⟨c,L1,S1,_,I1,hv,λw L2 hw y S2 H2 r2 I2 s2=>by
  let(z,e,q):=oE hw
  exact⟨S2,v,w,x,y,z,rfl,I2.sub,.inl (r1.mono s2),r2,e,tF I2 λx S' H' r I' s'=>k z L2 q x S' H' r I' (s1.trans (s2.trans s'))⟩⟩⟩
theorem NI (G:Good X C n sp)(hg:C.gl (ke "min")=true)(hs:nC a=false)(hs2:nC b=false)(ha:FE X C a ea)(hb':FR X C b eb):FE X C (.Call (.Name (ke "min") p) [a,b] [] pos) (nh x6 ea eb):=G7 (JD G.calm) G (by decide) (by nofun) (by nofun) (by nofun) hg hs hs2 ha hb'
theorem NJ (G:Good X C n sp)(hg:C.gl (ke "max")=true)(hs:nC a=false)(hs2:nC b=false)(ha:FE X C a ea)(hb':FR X C b eb):FE X C (.Call (.Name (ke "max") p) [a,b] [] pos) (nh Az ea eb):=G7 (JE G.calm) G (by decide) (by nofun) (by nofun) (by nofun) hg hs hs2 ha hb'
def wF:Ty->String|.int=>"int" | .bool=>"bool" | .str=>"str" | .list=>"list" | .tuple=>"tuple"
theorem Cy {v:FV}{u:V}{t:Ty}{r:Bool}(s:Same S H)(rv:RH K S H v u)(e:sJ v t=some r):∃ T,TyOf K H u (.type T)/\i9 K (.type T) (.type (wF t))=some r:=by
 cases v with
 | non=>cases (show u=V.non from rv.val rfl);exact⟨_,.non,by cases e;cases t<;>rfl⟩
 | bl c=>cases rv.bl;exact⟨_,.bl _,by cases e;cases t<;>rfl⟩
 | int c=>cases rv.int;exact⟨_,.int _,by cases e;cases t<;>rfl⟩
 | str c=>cases (show u=V.str _ from rv.val rfl);exact⟨_,.str _,by cases e;cases t<;>rfl⟩
 | tup ps =>
  let(a,xs,rfl,h1,h2):=rv.tup s
  exact⟨_,.tup h1,by cases e;cases t<;>rfl⟩
 | lst l =>
  let(a,xs,rfl,h1,h2):=rv.lst s
  exact⟨_,.lst h1,by cases e;cases t<;>rfl⟩
 | scr ns=>cases e
 | dct _ _=>cases e
 | dci _ _=>cases e
 | dcz _ _ _=>cases e
 | obj _ _ _ _=>cases e
 | dcn _ _ _=>cases e
 | shn d=>cases (show u=V.str _ from rv.val rfl);exact⟨_,.str _,by cases e;cases t<;>rfl⟩
theorem Pr {t:Ty}{tn:Str}(G:Good X C n sp)(hg:C.gl (ke "isinstance")=true)(ht:tn=ke (wF t))(hg2:C.gl tn=true)(hs:nC a=false)(ha:FR X C a ea) :
  FE X C (.Call (.Name (ke "isinstance") p) [a,.Name tn p2] [] pos) (oh (FQ t) ea):=by
 subst ht
 have cc:og X.nox (.builtin "isinstance") (λxs H Q=>∃ v c b T,xs=[v,.ty c]/\TyOf X.K H v (.type T)/\i9 X.K (.type T) (.type c)=some b/\Q (.bl b) H):=by
  rintro Z9 s σ H xs us Q I r ⟨v,c,b,T,rfl,h1,h2,q⟩
  let(u,u',rfl,ru,ru'):=vals2 r
  obtain rfl:u'=.type c:=ru'
  exact BY I ru h1 h2 λtk=>⟨.bl b,H,I.tok _,rfl,q⟩
 have tt:PE X.nox (.Name (ke (wF t)) p2) (tC (.ty (wF t))):=by
  cases t<;>exact Fg (G.gl hg2) (G.blt _ (by decide)) (by nofun) rfl (by nofun) (by nofun)
 refine PE.imp (qU cc (G.gl hg) (G.blt "isinstance" (by decide)) (by nofun) (nE ha (nE tt oM rfl) (m8 hs)) (by nofun) (by nofun) (m8 hs) rfl) λσ H Q q1=>?_;let(c,L,S,Q0,I,h,k):=q1;refine
  ⟨c,L,S,_,I,h,λv L1 hv x S1 H1 r1 I1 s1=>?_⟩
 let(z,e,q):=oE hv
 let(r,e1,rfl):=sm e
 let(T,t1,t2):=Cy I1.sub r1 e1
 exact⟨x,_,_,T,rfl,t1,t2,k _ L1 q _ S1 H1 rfl I1 s1⟩
def JF (ZZ Z0:Pos):Bool:=ZZ.endLine == Z0.line
theorem Pu (G:Good X C n sp){ZZ Z0:Pos}(h:C.nm i nx=true)(m:nq C.md i=.own)(hl:JF ZZ Z0=true)(hs:nC a=false)(ha:FE X C a ea):FE X C (.Call (.Attribute (.Name nx p) (ke "append") ZZ) [a] [] Z0) (sN xD i ea):=by
 refine PE.imp (Ld bo PySem.F.slot_list_append PySem.F.type_list_append vO (oR G h) (nE ha oM (m8 hs)) rfl (by rw[m8 hs];rfl) hl (m8 hs) rfl) λσ H Q ⟨c,L,S,Q0,I,h,k⟩=>?_
 let(v,e,h):=oE h
 let(v9,e9,h):=oE h
 cases qE e9
 have e':=(o8 _ _ _).mp e
 have mi:nq C.md i≠.imm:=λz=>by rw[m] at z;cases z
 let(l,e1,(_,ps,xs,e8,h1,_),_):=I.own i _ mi e'
 refine⟨_,e1,.inl ⟨rfl,xs,SqL.of h1⟩,c,L,S,_,I,h,λw L1 hw y S1 H1 r1 I1 s1=>?_⟩
 let(v1,e2,hw):=oE hw
 let(z,e3,q):=oE hw
 have e2':=(o8 _ _ _).mp e2
 let(qs,e4,e5):=oY e3
 cases qE e4
 let(hb,rfl):=qM e5
 let(l',f1,(f2,rs,zs,f3,f4,f5),_):=I1.own i _ mi e2'
 rw[e1] at f1;cases f1
 cases f3
 have:=oW
 exact⟨l,zs,y,rfl,rfl,f4,by rw[<- f5.length];lia,k _ _ q .non S1 _ rfl (I1.write m e2' e1 (f5.append (RVs.one r1))) s1⟩
end
def ArgsOk (K:kj)(S H:Hp)(args:List FV)(vs:List V):Bool->Prop
 | false=>RVs K S args vs
 | true=>∃ v r a us,args=v :: r/\vs=.ref a :: us/\OwnAt K S H a v/\RVs K S r us
def Eu (K:kj)(S' H' H:Hp)(v:FV)(x:V):Bool->Prop
 | false=>RV K S' v x
 | true=>∃ a,x=.ref a/\OwnAt K S' H' a v/\H a=none
def w5 (vs:List V):Bool->Option m4
 | false=>none
 | true=>match vs with
  | .ref a :: _=>some a
  | _=>none
structure Kept (K:kj)(S H S' H':Hp)(P:Option m4)(w:FV):Prop where
 same:Same S S'
 sub:Same S' H'
 grow:∀ a o,S' a=some o->S a=some o ∨ H a=none ∨ rS o=true
 keep:∀ a o,H a=some o->P≠some a->H' a=some o
 back:∀ a,P=some a->OwnAt K S' H' a w
def Ex (K:kj)(call:CW)(io fr:Bool) (f:Nat):Sp:=λvs H Q E=>∃ S args Q0,Same S H/\ArgsOk K S H args vs io/\call f args Q0/\∀ z,Q0 z->∀ x S' H',Kept K S H S' H' (w5 vs io) z.2->Eu K S' H' H z.1 x fr->Q x H'
section
variable {X:Cx}{C:CC}{n:Nat}{sp:kj->Nat->Sp}{a:Expr}{ea:EW}{pos p:Pos}{call:CW}
variable {K:kj}{c:Cn}{md:Md}{L:m7}{σ:L2.St}{S H S' H':Hp}{i f:Nat}{nx:Str}{xs:List Expr}{as:AW}
def pi (xs:List Expr):Bool:=xs.all λx=>!nC x
theorem xM:∀ {xs:List Expr}{env:Env},pi xs=true->(backTo pos (starEach xs env)).any (·.1)=false
 | [],_,_=>rfl
 | x :: xs,env,h=>by
  have h:=b2 (show (!nC x && pi xs)=true from h)
  rw[m8 (nb h.1)]
  show (false || (backTo pos (starEach xs env)).any (·.1))=false
  rw[xM h.2];rfl
theorem Kept.iv (I:Iv K c md L σ S H){w:FV}(k:Kept K S H S' H' none w):Iv K c md L σ S' H':=I.go3 k.same k.sub k.grow λa o e=>k.keep a o e (by simp)
theorem sP (G:Good X C n sp){t:TA}(hf:C.fns[f]?=some nx)(hg:C.gl nx=true)(hd:(nx == ("__debug__":Str))=false)(hs:pi (a :: xs)=true)(ha:PA X.nox (a :: xs) t):PE X.nox (.Call (.Name nx p) (a :: xs) [] pos) (λσ H Q=>t σ H λvs H1=>sp X.K f vs H1 Q E0):=by
 let(fa,fd,ps,h1,h2,h3,h4):=G.fns f nx hf
 have h:=b2 (show (!nC a && pi xs)=true from hs)
 refine PE.imp (Ff (X:=X.nox) h4 G.room.toRoom (G.gl hg) h1 h2 h3 .nil Lg ha hd (m8 (nb h.1)) (xM h.2)) λσ H Q q=>?_
 show t σ H λvs H1=>sp X.K f (vs++[]) H1 Q E0
 have e:(λvs H1=>sp X.K f (vs++[]) H1 Q E0)=λvs H1=>sp X.K f vs H1 Q E0:=by funext vs H1;rw[iE]
 rw[e];exact q
theorem NN (G:Good X C n sp)(e:sp X.K f=Ex X.K call false false f)(hf:C.fns[f]?=some nx)(hg:C.gl nx=true)(hd:(nx == ("__debug__":Str))=false)(hs:pi (a :: xs)=true)(ha:FA X C (a :: xs) as):FE X C (.Call (.Name nx p) (a :: xs) [] pos) (nF call f as) :=
 PE.imp (sP G hf hg hd hs ha) λσ H Q q1=>by let(c,L,S,Q0,I,h,k):=q1;exact⟨c,L,S,_,I,h,λvs L1 hv us S1 H1 r1 I1 s1=>by
  rw[e]
  exact⟨S1,vs,_,I1.sub,r1,hv,λz q x S' H' kp r=>k _ L1 q x S' H' r (kp.iv I1) (s1.trans kp.same)⟩⟩
theorem NC (G:Good X C n sp)(e:sp X.K f=Ex X.K call false true f)(hf:C.fns[f]?=some nx)(hg:C.gl nx=true)(hd:(nx == ("__debug__":Str))=false)(hs:pi (a :: xs)=true)(ha:FA X C (a :: xs) as):FF X C (.Call (.Name nx p) (a :: xs) [] pos) (nF call f as) :=
 PE.imp (sP G hf hg hd hs ha) λσ H Q q1=>by let(c,L,S,Q0,I,h,k):=q1;exact⟨c,L,S,_,I,h,λvs L1 hv us S1 H1 r1 I1 s1=>by
  rw[e]
  refine⟨S1,vs,_,I1.sub,r1,hv,λz q x S' H' kp r=>?_⟩
  let(a,rfl,o,hn):=r
  exact k _ L1 q a S' H' o (I1.fresh hn) (kp.iv I1) (s1.trans kp.same)⟩
theorem Ay {v:FV}{q:m4}(I:Iv K c md L σ S H)(o:OwnAt K S H q v)(fr:rz c md L σ q):∃ u,H q=some u/\Iv K c md L σ (oj S q u) H/\RV K (oj S q u) v (.ref q):=by
 let(h1,ps,us,e0,h2,h3):=o
 have s:=nX (o:=xX v us) h1
 refine⟨_,h2,⟨I.len,λi v h e=>let ⟨x,e1,r⟩:=I.imm i v h e;⟨x,e1,r.mono s⟩,λi v h e=>?_,I.dis,λa u e=>?_,I.frame,I.s0.trans s,λa u e=>?_,I.lent,I.fzs,I.fzm,I.fzp,λp hp=>let ⟨g1,g2,g3⟩:=I.prs p hp;⟨g1,by rw[nv (fr.2.1 p hp)];exact g2,g3⟩,I.ntp,I.lnt1,I.tie⟩,?_⟩
 ·let(b,e1,(g1,rs,zs,g2,g3,g4),g5):=I.own i v h e
  have hb:b≠q:=λz=>by subst z;exact fr.2.2 i v h e e1
  exact⟨b,e1,⟨by rw[nv hb];exact g1,rs,zs,g2,g3,g4.mono s⟩,g5⟩
 ·by_cases z:a=q
  ·subst z;rw[nD] at e;cases e;exact h2
  ·rw[nv z] at e;exact I.sub a u e
 ·by_cases z:a=q
  ·subst z;exact .inr (.inl fr.1)
  ·rw[nv z] at e;exact I.grow a u e
 ·cases v with
  | lst qs=>cases e0;exact⟨q,us,rfl,nD,h3.mono s⟩
  | dct ks vs=>let(hl,rfl):=qM e0;exact⟨q,us,rfl,hl,nD,h3.mono s⟩
  | dci ks vs=>let(hl,rfl):=qM e0;exact⟨q,us,rfl,hl,nD,h3.mono s⟩
  | dcz o ks vs=>let(hl,rfl):=qM e0;exact⟨q,us,rfl,hl,nD,h3.mono s⟩
  | obj C dx fs gs=>cases e0;exact⟨q,rfl,nD⟩
  | dcn z ks vs=>let(hl,rfl):=qM e0;exact⟨q,us,rfl,hl,nD,h3.mono s⟩
  | _=>cases e0
theorem pG (h:FF X C a ea):FE X C a ea:=PE.imp h λσ H Q q1=>by let(c,L,S,Q0,I,h,k):=q1;exact⟨c,L,S,Q0,I,h,λv L' q a S' H' o fr I' s'=>by
 let(u,hu,I2,r):=Ay I' o fr
 exact k v L' q _ _ H' r I2 (s'.trans (nX o.1))⟩
theorem Fj (G:Good X C n sp){t:TA}(h:C.nm i nx=true)(hr:PA X.nox xs t):PA X.nox (.Name nx p :: xs) (Ak (tVar i) t):=nE (oR G h) hr rfl
theorem Em {Q:VK}{fr:Bool}{Q1:FV->m7->Prop}(I:Iv K c md L σ S H)(m:nq md i=.own)(h:nH call f i as L Q1)
  (k:∀ v L' x H1 S' H',Q1 v L'->Eu K S' H' H1 v x fr->Iv K c md L' σ S' H'->Same S S'->(∀ a,H1 a=none->rz c md L' σ a)->Q x H'):Ak (tVar i) (la K md as) σ H λvs H1=>Ex K call true fr f vs H1 Q E0:=by
 let(v0,e,h):=oE h
 have mi:nq md i≠.imm:=λz=>by rw[m] at z;cases z
 let(l,e1,_):=I.own i v0 mi ((o8 _ _ _).mp e)
 refine⟨_,e1,c,L,S,_,I,h,λvs L1 hv us S1 H1 r1 I1 s1=>?_⟩
 let(v1,e2,q):=oE hv
 have e2:=(o8 _ _ _).mp e2
 let(l',f1,o,_):=I1.own i v1 mi e2
 rw[e1] at f1;cases f1
 refine⟨S1,v1 :: vs,_,I1.sub,⟨v1,vs,l,us,rfl,rfl,o,r1⟩,q,λz q x S' H' kp r=>?_⟩
 have I2:=I1.back3 m e2 e1 kp.same kp.sub kp.grow (λb o e n=>kp.keep b o e λz=>n (by cases z;rfl)) (kp.back l rfl)
 refine k _ _ x H1 S' H' q r I2 (s1.trans kp.same) λa ha=>⟨I1.h0 ha,(I1.fresh ha).2.1,λj w mj ej z=>?_⟩
 let(_,_,g2):=I1.fresh ha
 by_cases hj:j=i
 ·subst hj;exact g2 j v1 mj e2 z
 ·rw[cO (mq hj)] at ej;exact g2 j w mj ej z
theorem Mb (G:Good X C n sp){np:Str}{pp:Pos}(e:sp X.K f=Ex X.K call true false f)(hf:C.fns[f]?=some np)(hg:C.gl np=true)(hd:(np == ("__debug__":Str))=false)(h:C.nm i nx=true)(m:nq C.md i=.own)(hs:pi xs=true)(ha:FA X C xs as):FE X C (.Call (.Name np pp) (.Name nx p :: xs) [] pos) (nH call f i as) :=
 PE.imp (sP G hf hg hd (show (true && pi xs)=true by rw[hs];rfl) (Fj G h ha)) λσ H Q q1=>by
  let(c,L,S,Q0,I,h,k):=q1
  rw[e]
  exact Em I m h λv L' x H1 S' H' q r I' s' _=>k v L' q x S' H' r I' s'
end
section
variable {K:kj}{c:Cn}{md:Md}{L:m7}{σ:L2.St}{S H:Hp}{i:Nat}{v:FV}{x:V}{a:m4}
theorem Iv.setI (I:Iv K c md L σ S H)(m:nq md i=.imm)(r:RV K S v x):Iv K c md (L.set i (some v)) (σ.set i (some x)) S H :=
 I.set (λa h z=>by subst z;exact (I.lent a h).1 m) (λz=>by rw[m] at z;cases z) (.inl ⟨m,r⟩)
theorem Iv.prot (I:Iv K c md L σ S H){o:HO}(h:H a=some o)(hs:S a=none)(ho:∀ i v,(nq md i).w=true->L[i]?=some (some v)->σ[i]?≠some (some (.ref a)))(nt:rS o=false:=by first|rfl|exact qC _ _):Iv K { c with pr:=(a,o) :: c.pr } md L σ S H :=
 ⟨I.len,I.imm,I.own,I.dis,I.sub,I.frame,I.s0,I.grow,I.lent,I.fzs,I.fzm,λp hp=>let ⟨xs,h⟩:=I.fzp p hp;⟨xs,cM _ h⟩,λp hp=>(jP.mp hp).elim (λe=>e ▸ ⟨h,hs,ho⟩) (I.prs p),λp hp=>(jP.mp hp).elim (λe=>e ▸ nt) (I.ntp p),I.lnt1,I.tie⟩
theorem ya:∀ {md:Md}{i j:Nat}{m:Mo},i<md.length->nq (md.set i m) j=if j=i then m else nq md j
 | [],i,j,m,h=>absurd h (ia _)
 | a :: md,0,0,m,h=>rfl
 | a :: md,0,j+1,m,h=>(if_neg (fY j)).symm
 | a :: md,i+1,0,m,h=>(if_neg (fY i).symm).symm
 | a :: md,i+1,j+1,m,h=>by
  have:=ya (md:=md) (i:=i) (j:=j) (m:=m) (by simpa using h)
  rw[show (if j+1=i+1 then m else nq (a :: md) (j+1))=if j=i then m else nq md j by simp only[Nat.add_right_cancel_iff];rfl];exact this
theorem DA:∀ {md:Md}{i:Nat},nq md i=.own->i<md.length
 | [],i,h=>by cases (show Mo.imm=Mo.own from h)
 | a :: md,0,h=>by simp
 | a :: md,i+1,h=>by simpa using DA (md:=md) (i:=i) h
theorem Iv.frz (I:Iv K c md L σ S H){ob:HO}(m:nq md i=.own)(e:L[i]?=some (some v))(e1:σ[i]?=some (some (.ref a)))(h:H a=some ob) :
  Iv K { c with fz:=(i,a) :: c.fz,pr:=(a,ob) :: c.pr } (md.set i .frz) L σ S H/\∀ L σ S H,Iv K { c with fz:=(i,a) :: c.fz,pr:=(a,ob) :: c.pr } (md.set i .frz) L σ S H->Iv K c md L σ S H:=by
 have hl:=DA m
 have mi:nq md i≠.imm:=λz=>by rw[m] at z;cases z
 have M:∀ j,nq (md.set i .frz) j=if j=i then .frz else nq md j:=λj=>ya hl
 have im:∀ {j},nq (md.set i .frz) j=.imm↔nq md j=.imm:=λ{j}=>by
  rw[M]
  by_cases q:j=i
  ·subst q;rw[if_pos rfl,m];simp
  ·rw[if_neg q]
 have gm:∀ {j},(nq md j).g=true->nq (md.set i .frz) j=nq md j:=λ{j} h=>by
  rw[M,if_neg λq=>by rw[q,m] at h;cases h]
 have gm':∀ {j k x},nq (md.set i .frz) j=.gst k x->nq md j=.gst k x:=λ{j k x} h=>by
  rw[M] at h
  split at h
  ·cases h
  ·exact h
 have om:∀ {j},nq (md.set i .frz) j=.ob->nq md j=.ob:=λ{j} h=>by
  rw[M] at h
  split at h
  ·cases h
  ·exact h
 have nfz:∀ p∈c.fz,p.1≠i:=λp hp z=>by have:=(I.fzs p hp).1;rw[z,m] at this;cases this
 have npr:∀ p∈c.pr,p.1≠a:=λp hp z=>(I.prs p hp).2.2 i v (Mo.w_own m) e (by rw[z];exact e1)
 let(a',f1,o,_):=I.own i v mi e
 rw[e1] at f1;cases f1
 have nt:rS ob=false:=by
  let(_,_,_,_,h5,_):=o
  rw[h] at h5;rw[hW h5,qC]
 constructor
 ·refine⟨I.len,λj w h=>I.imm j w (im.mp h),λj w h=>I.own j w (λz=>h (im.mpr z)),λj k w u b h1 h2=>I.dis j k w u b (λz=>h1 (im.mpr z)) (λz=>h2 (im.mpr z)),I.sub,I.frame,I.s0,I.grow,λb hb=>let ⟨g1,g2⟩:=I.lent b hb;⟨λz=>g1 (im.mp z),g2⟩,λp hp=>?_,λj w hm hj=>?_,λp hp=>?_,λp hp=>?_,λp hp=>(jP.mp hp).elim (λz=>by rw[z];exact nt) (I.ntp p),λq hq=>let ⟨g1,g2⟩:=I.lnt1 q hq;⟨by rw[gm g1];exact g1,g2⟩,λj k x C dx fs w h1 h2=>I.tie j k x C dx fs w (gm' h1) (om h2)⟩
  ·rcases jP.mp hp with rfl|hp
   ·exact⟨by rw[M,if_pos rfl],e1,v,e⟩
   ·let(g1,g2):=I.fzs p hp
    exact⟨by rw[M,if_neg (nfz p hp)];exact g1,g2⟩
  ·by_cases q:j=i
   ·subst q;exact⟨a,dX⟩
   ·rw[M,if_neg q] at hm
    let(b,g1):=I.fzm j w hm hj
    exact⟨b,cM _ g1⟩
  ·rcases jP.mp hp with rfl|hp
   ·exact⟨_,dX⟩
   ·let(ys,g):=I.fzp p hp
    exact⟨ys,cM _ g⟩
  ·have own':∀ {j},(nq (md.set i .frz) j).w=true->j≠i/\(nq md j).w=true:=λ{j} z=>by
    by_cases q:j=i
    ·subst q;rw[M,if_pos rfl] at z;cases z
    ·rw[M,if_neg q] at z;exact⟨q,z⟩
   rcases jP.mp hp with rfl|hp
   ·exact⟨h,o.1,λj w hm hj hz=>(own' hm).1 (I.dis j i w v a (Mo.w_imm (own' hm).2) mi hj e hz e1)⟩
   ·let(g1,g2,g3):=I.prs p hp
    exact⟨g1,g2,λj w hm=>g3 j w (own' hm).2⟩
 ·intro L σ S H J
  let(_,j1,_):=J.fzs (i,a) dX
  refine⟨J.len,λj w h=>J.imm j w (im.mpr h),λj w h=>J.own j w (λz=>h (im.mp z)),λj k w u b h1 h2=>J.dis j k w u b (λz=>h1 (im.mp z)) (λz=>h2 (im.mp z)),J.sub,J.frame,J.s0,J.grow,λb hb=>let ⟨g1,g2⟩:=J.lent b hb;⟨λz=>g1 (im.mpr z),g2⟩,λp hp=>?_,λj w hm hj=>?_,I.fzp,λp hp=>?_,I.ntp,λq hq=>?_,λj k x C dx fs w h1 h2=>?_⟩
  ·let(g1,g2):=J.fzs p (cM _ hp)
   rw[M,if_neg (nfz p hp)] at g1
   exact⟨g1,g2⟩
  ·have q:j≠i:=λz=>by rw[z,m] at hm;cases hm
   let(b,g1):=J.fzm j w (by rw[M,if_neg q];exact hm) hj
   rcases jP.mp g1 with z|g1
   ·exact absurd (Prod.mk.inj z).1 q
   ·exact⟨b,g1⟩
  ·let(g1,g2,g3):=J.prs p (cM _ hp)
   refine⟨g1,g2,λj w hm hj=>?_⟩
   by_cases q:j=i
   ·subst q;rw[j1];exact λz=>npr p hp (by cases z;rfl)
   ·exact g3 j w (by rw[M,if_neg q];exact hm) hj
  ·let(g1,g2):=J.lnt1 q hq
   refine⟨?_,g2⟩
   rw[M] at g1
   split at g1
   ·cases g1
   ·exact g1
  ·have n1:j≠i:=λz=>by rw[z,m] at h1;cases h1
   have n2:k≠i:=λz=>by rw[z,m] at h2;cases h2
   exact J.tie j k x C dx fs w (by rw[M,if_neg n1];exact h1) (by rw[M,if_neg n2];exact h2)
end
def Cq (K:kj)(c:Cn)(md:Md)(J:It)(xs:List FV)(S1:Hp):Prop :=
 ∀ (i:Nat)(L:m7)(σ:L2.St)(S H:Hp),Iv K c md L σ S H->Same S1 S->(xs[i]?=none->J.stop i H)/\∀ p,xs[i]?=some p->J.go i H/\∀ v H',J.yld i H v H'->∃ S',Same S S'/\(∀ c md L σ,Iv K c md L σ S H->Iv K c md L σ S' H')/\RV K S' p v
inductive liI (K:kj)(it:AW)(md md':Md)(σ:L2.St)(H:Hp)(R:It->Hp->Prop):Prop
 | mk (c:_)(L:_)(S:_)(Q0:_)(_:Iv K c md L σ S H)(_:it L Q0)(_:∀ xs L',Q0 xs L'->∀ J c' S' H',Iv K c' md' L' σ S' H'->(∀ L σ S H,Iv K c' md' L σ S H->Iv K c md L σ S H)->c'.H0=c.H0->Cq K c' md' J xs S'->Same S S'->R J H'):liI K it md md' σ H R
abbrev li (K:kj)(md md':Md)(it:AW):TI:=liI K it md md'
def FI (X:Cx)(C:CC)(md':Md)(tg Z5:Expr)(it:AW):Prop:=PI X.nox tg Z5 (li X.K C.md md' it)
section
variable {X:Cx}{C:CC}{n:Nat}{sp:kj->Nat->Sp}{a b tg:Expr}{ea eb:EW}{pos p:Pos}
variable {K:kj}{c:Cn}{md:Md}{L:m7}{σ:L2.St}{S H:Hp}{i:Nat}{nx:Str}
theorem PI.imp {X:Cx}{tg it:Expr}{t u:TI}(h:PI X tg it t)(f:∀ σ H R,u σ H R->t σ H R):PI X tg it u:=λZ9 s σ H R I hu=>h Z9 s σ H R I (f σ H R hu)
def Its (K:kj):Bool->m4->It
 | true,a=>Itl K a
 | false,a=>Itt K a
theorem De {X:Cx}{tg it:Expr}{te:TE}(h:PE X it te):PI X tg it (λσ H R=>te σ H λv H1=>∃ b a xs,v=.ref a/\vm b X.K H1 a xs/\R (Its X.K b a) H1):=by
 intro Z9 s σ H R I hh
 refine nW (h Z9 s σ H _ I hh) λv s1 q1=>?_;let(x,H1,I1,r1,b,a,xs,e,hq,q):=q1
 subst e
 cases r1
 cases b with
 | true =>
  let(Z7,rv,p,hz):=I1.list hq
  refine eN p.isList ?_
  refine⟨s1.heap.objs.size,[s1.heap.objs.size],_,_,H1,rfl,I1.kept (t':=s1.toks) λb o e=>bR _ e,Bt a _,⟨_,dj _ rfl,rfl,rfl⟩,λb hb=>?_,q⟩
  have e:b=s1.heap.objs.size:=by simpa using hb
  subst e
  exact I1.fpOk (kT _) (I1.hok.fresh (kT _))
 | false =>
  let(Z7,rv,p,hz):=I1.tuple hq
  refine dA p ?_
  refine⟨s1.heap.objs.size,[s1.heap.objs.size],_,_,H1,rfl,I1.kept (t':=s1.toks) λb o e=>bR _ e,yY a _,⟨_,dj _ rfl,rfl,rfl⟩,λb hb=>?_,q⟩
  have e:b=s1.heap.objs.size:=by simpa using hb
  subst e
  exact I1.fpOk (kT _) (I1.hok.fresh (kT _))
theorem DS {t:Bool}{q:m4}{ps:List FV}{S1:Hp}(h:∀ L σ S H,Iv K c md L σ S H->Same S1 S->∃ vs,vm t K H q vs/\RVs K S ps vs):Cq K c md (Its K t q) ps S1:=by
 intro i L σ S H I s
 let(vs,h1,h2):=h L σ S H I s
 cases t with
 | true =>
  refine⟨λe=>⟨vs,h1,by rw[<- h2.length];exact aO.mp e⟩,λp ep=>?_⟩
  let(v,e1,r1):=h2.get ep
  refine⟨⟨vs,v,h1,e1⟩,λw H' ⟨eh,y⟩=>?_⟩
  have:=y vs h1
  rw[e1] at this;cases this
  subst eh
  exact⟨S,Same.refl S,λ_ _ _ _ I=>I,r1⟩
 | false =>
  refine⟨λe=>⟨vs,h1,by rw[<- h2.length];exact aO.mp e⟩,λp ep=>?_⟩
  let(v,e1,r1):=h2.get ep
  refine⟨⟨vs,v,h1,e1⟩,λw H' ⟨eh,y⟩=>?_⟩
  have:=y vs h1
  rw[e1] at this;cases this
  subst eh
  exact⟨S,Same.refl S,λ_ _ _ _ I=>I,r1⟩
theorem RV.stays {v:FV}{ps:List FV}{u:V}{S1:Hp}(r:RV K S1 v u)(e:oG v=some ps):∃ q,u=.ref q/\∀ S H,Same S1 S->Same S H->∃ vs,vm (Nb v) K H q vs/\RVs K S ps vs:=by
 cases v with
 | tup qs=>cases e;let(q,vs,rfl,h1,h2):=r;exact⟨q,rfl,λS H s s'=>⟨vs,SqT.of (s' _ _ (s _ _ h1)),h2.mono s⟩⟩
 | lst qs=>cases e;let(q,vs,rfl,h1,h2):=r;exact⟨q,rfl,λS H s s'=>⟨vs,SqL.of (s' _ _ (s _ _ h1)),h2.mono s⟩⟩
 | scr ns=>cases e;let(q,rfl,h):=r;exact⟨q,rfl,λS H s s'=>⟨_,h.sq (s.trans s'),RVs.ns ns⟩⟩
 | _=>cases e
theorem O8 (ha:FE X C a ea):FI X C C.md tg a (tS ea):=PI.imp (De ha) λσ H R q1=>by let(c,L,S,Q0,I,h,k):=q1;exact
 ⟨c,L,S,_,I,h,λv L1 hv x S1 H1 r1 I1 s1=>by
  let(ps,e,q):=oE hv
  let(l,rfl,st):=r1.stays e
  let(vs,h1,h2):=st S1 H1 (Same.refl _) I1.sub
  exact⟨Nb v,l,vs,rfl,h1,k ps L1 q _ c S1 H1 I1 (λ_ _ _ _ I=>I) rfl (DS λL σ S H I s=>st S H s I.sub) s1⟩⟩
theorem Aw {v:FV}{qs ps:List FV}(e2:Fk v=some qs)(e0:oG v=some ps):v=.lst ps/\qs=ps:=by
 cases v<;>first|(cases e2;cases e0;exact⟨rfl,rfl⟩)|(cases e0;done)|(cases e2;done)
theorem Pa (G:Good X C n sp)(h:C.nm i nx=true)(m:nq C.md i=.own):FI X C (C.md.set i .frz) tg (.Name nx p) (tS (m5 i)):=PI.imp (De (oR G h)) λσ H R q1=>by
 let(c,L,S,Q0,I,h,k):=q1
 let(v,e,h):=oE h
 let(ps,e0,q):=oE h
 have e:=(o8 _ _ _).mp e
 let(l,e1,(o1,qs,vs,e2,o2,o3),o4):=I.own i v (λz=>by rw[m] at z;cases z) e
 let(e3,e4):=Aw e2 e0
 subst e3 e4
 let(I',un):=I.frz m e e1 o2
 exact⟨_,e1,true,l,vs,rfl,SqL.of o2,k _ L q _ _ S H I' un rfl (DS (t:=true) λL σ S' H I s=>⟨vs,SqL.of (I.prs (l,.lst vs) dX).1,o3.mono s⟩) (Same.refl S)⟩
theorem wE:∀ (n:Nat) (lo:Int) (i:Nat),(tU lo n)[i]?=if i<n then some (.int (lo+i)) else none
 | 0,lo,i=>by simp[tU]
 | n+1,lo,0=>by simp[tU]
 | n+1,lo,i+1=>by
  show (tU (lo+1) n)[i]?=_
  rw[wE n (lo+1) i]
  have e:lo+1+(i:Int)=lo+((i+1:Nat):Int):=by lia
  rw[e]
  simp
theorem zH {lo:Int}{m:Nat}{S1:Hp}:Cq K c md (ME lo m) (tU lo m) S1:=by
 intro i L σ S H I s
 rw[wE]
 by_cases h:i<m
 ·rw[if_pos h]
  refine⟨λe=>(nomatch e),λp e=>?_⟩
  cases e
  exact⟨h,λv H' q1=>by let(e1,e2):=q1;exact⟨S,Same.refl S,by rw[e1];exact λ_ _ _ _ I=>I,e2⟩⟩
 ·rw[if_neg h]
  exact⟨λ_=>show m<=i by lia,λp e=>(nomatch e)⟩
theorem O9 (G:Good X C n sp)(hg:C.gl (ke "range")=true)(hs:nC a=false)(ha:FE X C a ea):FI X C C.md tg (.Call (.Name (ke "range") p) [a] [] pos) (rL ea):=PI.imp (BJ (G.gl hg) (G.blt "range" (by decide)) (nE ha oM (m8 hs)) (m8 hs)) λσ H R q1=>by let(c,L,S,Q0,I,h,k):=q1;exact
 ⟨c,L,S,_,I,h,λv L1 hv x S1 H1 r1 I1 s1=>by
  let(j,e,hb,q):=oE hv
  cases nN e
  have hb:=de hb
  exact⟨j,by rw[show x=.int j from r1],hb.1,hb.2,k _ L1 q _ c S1 H1 I1 (λ_ _ _ _ I=>I) rfl zH s1⟩⟩
theorem Nx (G:Good X C n sp)(hg:C.gl (ke "range")=true)(hs:nC a=false)(hs2:nC b=false)(ha:FE X C a ea)(hb:FE X C b eb):FI X C C.md tg (.Call (.Name (ke "range") p) [a,b] [] pos) (iRng2 ea eb) :=
 PI.imp (vM (G.gl hg) (G.blt "range" (by decide)) (nE ha (nE hb oM (m8 hs2)) (m8 hs)) (by rw[m8 hs,m8 hs2];rfl) (m8 hs2)) λσ H R q1=>by let(c,L,S,Q0,I,h,k):=q1;exact
 ⟨c,L,S,_,I,h,λv L1 hv x S1 H1 r1 I1 s1=>⟨c,L1,S1,_,I1,hv,λw L2 hw y S2 H2 r2 I2 s2=>by
  let(j,e,hw):=oE hw
  let(j',e',hb,q):=oE hw
  cases nN e;cases nN e'
  have hb:=b2 hb
  have h1:=de hb.1
  have h2:=de hb.2
  exact⟨j,j',by rw[show x=.int j from r1,show y=.int j' from r2],⟨h1.1,h1.2,h2.1,h2.2⟩,k _ L2 q _ c S2 H2 I2 (λ_ _ _ _ I=>I) rfl zH (s1.trans s2)⟩⟩⟩
theorem xZ {P Q:FV}{u w:V}{pp:m4}(I:Iv K c md L σ S H)(hp:H pp=none)(r1:RV K S P u)(r2:RV K S Q w):∃ S',Same S S'/\(∀ c md L σ,Iv K c md L σ S H->Iv K c md L σ S' (oj H pp (.tup [u,w])))/\RV K S' (.tup [P,Q]) (.ref pp) :=
 ⟨oj S pp (.tup [u,w]),nX (I.sn hp),λ_ _ _ _ I=>I.new hp _,pp,[u,w],rfl,nD,u,[w],rfl,r1.mono (nX (I.sn hp)),w,[],rfl,r2.mono (nX (I.sn hp)),rfl⟩
theorem DR {t t':Bool}{q q':m4}{ps qs:List FV}{S1:Hp}(h:∀ L σ S H,Iv K c md L σ S H->Same S1 S->∃ vs,vm t K H q vs/\RVs K S ps vs)(h':∀ L σ S H,Iv K c md L σ S H->Same S1 S->∃ vs,vm t' K H q' vs/\RVs K S qs vs):Cq K c md (Oc K t t' q q') (pY ps qs) S1:=by
 intro i L σ S H I s
 let(vs,h1,h2):=h L σ S H I s
 let(ws,g1,g2):=h' L σ S H I s
 unfold pY
 rw[cq]
 refine⟨λz=>⟨vs,ws,h1,g1,?_⟩,λy ey=>?_⟩
 ·rw[<- h2.length,<- g2.length]
  cases c1:ps[i]? with
  | none=>exact .inl (aO.mp c1)
  | some _ =>
   cases c2:qs[i]? with
   | none=>exact .inr (aO.mp c2)
   | some _=>rw[c1,c2] at z;cases z
 ·cases c1:ps[i]? with
  | none=>rw[c1] at ey;cases ey
  | some p1 =>
   cases c2:qs[i]? with
   | none=>rw[c1,c2] at ey;cases ey
   | some q1 =>
    rw[c1,c2] at ey
    cases ey
    let(v,f1,f2):=h2.get c1
    let(w,f3,f4):=g2.get c2
    refine⟨⟨vs,ws,v,w,h1,g1,f1,f3⟩,λz H' ⟨pp,hp,ez,yy⟩=>?_⟩
    have:=yy vs ws v w h1 g1 f1 f3
    subst this ez
    exact xZ I hp f2 f4
theorem FP {t:Bool}{q:m4}{ps:List FV}{S1:Hp}(h:∀ L σ S H,Iv K c md L σ S H->Same S1 S->∃ vs,vm t K H q vs/\RVs K S ps vs):Cq K c md (Oe K t q) (pY (tU 0 ps.length) ps) S1:=by
 intro i L σ S H I s
 let(vs,h1,h2):=h L σ S H I s
 unfold pY
 rw[cq,wE]
 refine⟨λz=>⟨vs,h1,?_⟩,λy ey=>?_⟩
 ·rw[<- h2.length]
  by_cases hi:i<ps.length
  ·rw[if_pos hi,bd hi] at z;cases z
  ·lia
 ·by_cases hi:i<ps.length
  ·rw[if_pos hi,bd hi] at ey
   cases ey
   let(v,f1,f2):=h2.get (bd hi)
   refine⟨⟨vs,v,h1,f1⟩,λz H' ⟨pp,hp,ez,yy⟩=>?_⟩
   have:=yy vs v h1 f1
   subst this ez
   exact xZ I hp (show RV K S (.int (0+i)) (.int i) by show V.int i=V.int (0+i);rw[Int.zero_add]) f2
  ·rw[if_neg hi] at ey;cases ey
variable {elts:List Expr}{kk:Nat}{tp:Pos}
theorem O7 (G:Good X C n sp)(hg:C.gl (ke "zip")=true)(hs:nC a=false)(hs2:nC b=false)(ha:FE X C a ea)(hb:FE X C b eb):FI X C C.md (.Tuple elts kk tp) (.Call (.Name (ke "zip") p) [a,b] [] pos) (IE ea eb) :=
 PI.imp (GU (G.gl hg) (G.blt "zip" (by decide)) (nE ha (nE hb oM (m8 hs2)) (m8 hs)) (by rw[m8 hs,m8 hs2];rfl) (m8 hs2)) λσ H R q1=>by let(c,L,S,Q0,I,h,k):=q1;exact
 ⟨c,L,S,_,I,h,λv L1 hv x S1 H1 r1 I1 s1=>⟨c,L1,S1,_,I1,hv,λw L2 hw y S2 H2 r2 I2 s2=>by
  let(ps,e,hw):=oE hw
  let(qs,e',q):=oE hw
  let(l,rfl,st):=(r1.mono s2).stays e
  let(l',rfl,st'):=r2.stays e'
  let(vs,h1,_):=st S2 H2 (Same.refl _) I2.sub
  let(ws,h2,_):=st' S2 H2 (Same.refl _) I2.sub
  exact⟨_,_,l,l',rfl,⟨vs,h1⟩,⟨ws,h2⟩,k _ L2 q _ c S2 H2 I2 (λ_ _ _ _ I=>I) rfl (DR (λL σ S H I s=>st S H s I.sub) λL σ S H I s=>st' S H s I.sub) (s1.trans s2)⟩⟩⟩
theorem Nz (G:Good X C n sp)(hg:C.gl (ke "enumerate")=true)(hs:nC a=false)(ha:FE X C a ea):FI X C C.md (.Tuple elts kk tp) (.Call (.Name (ke "enumerate") p) [a] [] pos) (AL ea) :=
 PI.imp (Lb (G.gl hg) (G.blt "enumerate" (by decide)) (nE ha oM (m8 hs)) (m8 hs)) λσ H R q1=>by let(c,L,S,Q0,I,h,k):=q1;exact
 ⟨c,L,S,_,I,h,λv L1 hv x S1 H1 r1 I1 s1=>by
  let(ps,e,q):=oE hv
  let(l,rfl,st):=r1.stays e
  let(vs,h1,_):=st S1 H1 (Same.refl _) I1.sub
  exact⟨_,l,rfl,⟨vs,h1⟩,k _ L1 q _ c S1 H1 I1 (λ_ _ _ _ I=>I) rfl (FP λL σ S H I s=>st S H s I.sub) s1⟩⟩
end
def LU:List Nat->J8
 | []=>IG
 | i :: is=>gCons (qJ i) (LU is)
def gT (K:kj):Tg->TG
 | .nm i=>qJ i
 | .tp is=>gTup K is.length (LU is)
 | .tn i is=>gTup K 2 (gCons (qJ i) (gCons (gTup K is.length (LU is)) IG))
def pE (md:Md):Tg->Bool
 | .nm i=>decide (nq md i=.imm)
 | .tp is=>is.all λi=>decide (nq md i=.imm)
 | .tn i is=>decide (nq md i=.imm) && is.all λi=>decide (nq md i=.imm)
def rN (n:Nat):Tg->Bool
 | .nm i=>decide (n<=i)
 | .tp is=>is.all λi=>decide (n<=i)
 | .tn i is=>decide (n<=i) && is.all λi=>decide (n<=i)
def FG (X:Cx)(t:Expr)(tg:Tg):Prop:=PG X.nox t (gT X.K tg)
section
variable {K:kj}{c:Cn}{md:Md}{L:m7}{σ:L2.St}{S H:Hp}
theorem um:∀ {is:List Nat}{ps:List FV}{vs:List V}{L L':m7}{σ:L2.St},(is.all λi=>decide (nq md i=.imm))=true->Iv K c md L σ S H->RVs K S ps vs->sv L is ps=some L' ->
  ∃ σ',(∀ Q:L2.St->Hp->Prop,Q σ' H->LU is vs σ H Q)/\Iv K c md L' σ' S H/\σ'.length=σ.length/\is.length=vs.length/\∀ n,(is.all λi=>decide (n<=i))=true->∀ j,j<n->σ'[j]?=σ[j]?
 | [],[],vs,L,L',σ,_,I,r,e=>by cases (show vs=[] from r);cases e;exact⟨σ,λQ q=>⟨rfl,q⟩,I,rfl,rfl,λ_ _ _ _=>rfl⟩
 | i :: is,p :: ps,vs,L,L',σ,hm,I,r,e=>by
  let(v,q,rfl,h1,h2):=r
  have hm:=b2 (show (decide (nq md i=.imm) && is.all λi=>decide (nq md i=.imm))=true from hm)
  let(σ',g,I',l1,l2,far):=um (is:=is) (ps:=ps) (vs:=q) hm.2 (I.setI (de hm.1) h1) h2 e
  refine⟨σ',λQ q'=>⟨v,q,rfl,g Q q'⟩,I',by rw[l1,iw],by rw[gp,gp,l2],λn hn j hj=>?_⟩
  have hn:=b2 (show (decide (n<=i) && is.all λi=>decide (n<=i))=true from hn)
  have:=de hn.1
  rw[far n hn.2 j hj,cO ⋯]
 | [],p :: ps,_,_,_,_,_,_,_,e=>by cases e
 | i :: is,[],_,_,_,_,_,_,_,e=>by cases e
theorem uS {tg:Tg}{v:FV}{x:V}{Q:m7->Prop}(hm:pE md tg=true)(I:Iv K c md L σ S H)(r:RV K S v x)(h:gW tg v L Q) :
  ∃ σ' L',(∀ Q':L2.St->Hp->Prop,Q' σ' H->gT K tg x σ H Q')/\Q L'/\Iv K c md L' σ' S H/\σ'.length=σ.length/\∀ n,rN n tg=true->∀ j,j<n->σ'[j]?=σ[j]?:=by
 cases tg with
 | nm i =>
  refine⟨σ.set i (some x),L.set i (some v),λQ q=>q,h,I.setI (de hm) r,iw ..,λn hn j hj=>?_⟩
  have:n<=i:=de hn
  exact cO ⋯
 | tp is =>
  let(ps,e,h):=oE h
  let(L',e1,q):=oE h
  cases oX e
  let(a,vs,rfl,h1,h2):=r
  let(σ',g,I',l1,l2,far):=um hm I h2 e1
  exact⟨σ',L',λQ q=>⟨a,vs,rfl,SqT.of (I.sub _ _ h1),l2.symm,g Q q⟩,q,I',l1,far⟩
 | tn i is =>
  have hm:=b2 hm
  let(ps,e,h):=oE h
  let(p,e1,h):=oE h
  let(qs,e2,h):=oE h
  let(L',e3,q):=oE h
  cases oX e
  let(p1,p2):=p
  obtain rfl:ps=[p1,p2]:=by
   rcases ps with _|⟨a,_|⟨b,_|⟨c,r⟩⟩⟩<;>first|(cases e1;done)|(cases e1;rfl)
  let(a,vs,rfl,h1,h2):=r
  let(u,w,rfl,r1,r2):=h2.two_of
  cases oX e2
  let(b,ws,rfl,h3,h4):=r2
  let(σ',g,I',l1,l2,far):=um hm.2 (I.setI (de hm.1) r1) h4 e3
  refine⟨σ',L',λQ q=>⟨a,_,rfl,SqT.of (I.sub _ _ h1),rfl,_,_,rfl,_,_,rfl,b,ws,rfl,SqT.of (I.sub _ _ h3),l2.symm,g _ ⟨rfl,q⟩⟩,q,I',by rw[l1,iw],λn hn j hj=>?_⟩
  have hn:=b2 hn
  have:=de hn.1
  rw[far n hn.2 j hj,cO ⋯]
theorem Iv.regrow {a:m4}{o o':HO}(I:Iv K { c with pr:=(a,o) :: c.pr } md L σ S H)(h0:c.H0 a=none)(hp:∀ p∈c.pr,p.1≠a)(hz:∀ p∈c.fz,∃ o,(p.2,o)∈c.pr)(nt:rS o'=false:=by first|rfl|exact qC _ _):Iv K { c with pr:=(a,o') :: c.pr } md L σ S (oj H a o'):=by
 let(_,sa,na):=I.prs (a,o) dX
 have oa:∀ j w b,nq md j≠.imm->L[j]?=some (some w)->σ[j]?=some (some (.ref b))->b≠a:=λj w b hm hj hs z=>by
  subst z
  by_cases m:(nq md j).w=true
  ·exact na j w m hj hs
  ·have m:nq md j=.frz:=by cases q:nq md j with|imm=>exact absurd q hm|frz=>rfl|_=>rw[q] at m;exact absurd rfl m
   let(b',g1):=I.fzm j w m hj
   let(_,g2,_):=I.fzs _ g1
   rw[hs] at g2;cases g2
   let(xs,g3):=hz _ g1
   exact hp _ g3 rfl
 refine⟨I.len,I.imm,λj w hm hj=>?_,I.dis,λb u e=>?_,λb u e n n1=>?_,I.s0,I.grow,I.lent,I.fzs,I.fzm,λp hpz=>let ⟨xs,g⟩:=hz p hpz;⟨xs,cM _ g⟩,λp hpr=>?_,λp hpr=>(jP.mp hpr).elim (λz=>by rw[z];exact nt) λz=>I.ntp p (cM _ z),I.lnt1,I.tie⟩
 ·let(b,e1,(g1,ps,xs,g2,g3,g4),g5):=I.own j w hm hj
  exact⟨b,e1,⟨g1,ps,xs,g2,by rw[nv (oa j w b hm hj e1)];exact g3,g4⟩,g5⟩
 ·rw[nv λz=>by subst z;rw[sa] at e;cases e];exact I.sub b u e
 ·rw[nv λz=>by subst z;rw[h0] at e;cases e];exact I.frame b u e n n1
 ·rcases jP.mp hpr with rfl|hpr
  ·exact⟨nD,sa,na⟩
  ·let(g1,g2,g3):=I.prs p (cM _ hpr)
   exact⟨by rw[nv (hp p hpr)];exact g1,g2,g3⟩
theorem Iv.unprot {a:m4}{o:HO}(I:Iv K { c with pr:=(a,o) :: c.pr } md L σ S H)(hz:∀ p∈c.fz,∃ o,(p.2,o)∈c.pr):Iv K c md L σ S H :=
 ⟨I.len,I.imm,I.own,I.dis,I.sub,I.frame,I.s0,I.grow,I.lent,I.fzs,I.fzm,hz,λp hp=>I.prs p (cM _ hp),λp hp=>I.ntp p (cM _ hp),I.lnt1,I.tie⟩
theorem wW:∀ {md:Md}{i:Nat},md.length<=i->nq md i=.imm
 | [],i,_=>rfl
 | a :: md,0,h=>absurd h (by simp)
 | a :: md,i+1,h=>wW (md:=md) (i:=i) (by simpa using h)
theorem Iv.more (I:Iv K c md L σ S H) (m:Nat):Iv K c md (L++jf m none) (σ++jf m none) S H:=by
 have look:∀ j w,(L++jf m none)[j]?=some (some w)->L[j]?=some (some w)/\(σ++jf m none)[j]?=σ[j]?:=λj w z=>by
  by_cases h:j<L.length
  ·rw[aP h] at z
   exact⟨z,aP (by rw[<- I.len];exact h)⟩
  ·rw[aB ⋯,bu] at z
   split at z<;>cases z
 have up:∀ j w,L[j]?=some (some w)->(L++jf m none)[j]?=some (some w)/\(σ++jf m none)[j]?=σ[j]?:=λj w z=>by
  have h:=(aN.mp z).1
  exact⟨by rw[aP h];exact z,aP (by rw[<- I.len];exact h)⟩
 refine⟨by simp[I.len],λj w hm z=>?_,λj w hm z=>?_,λj k w u b m1 m2 z1 z2 y1 y2=>?_,I.sub,I.frame,I.s0,I.grow,λb hb=>?_,λp hp=>?_,λj w hm z=>I.fzm j w hm (look j w z).1,I.fzp,λp hp=>?_,I.ntp,λq hq=>?_,λj k x C dx fs w h1 h2 h3 h4=>?_⟩
 ·let(z,y):=look j w z;rw[y];exact I.imm j w hm z
 ·let(z,y):=look j w z;rw[y];exact I.own j w hm z
 ·let(z1,q1):=look j w z1
  let(z2,q2):=look k u z2
  rw[q1] at y1;rw[q2] at y2
  exact I.dis j k w u b m1 m2 z1 z2 y1 y2
 ·let(g1,g2,w,g3):=I.lent b hb
  let(f1,f2):=up 0 w g3
  exact⟨g1,by rw[f2];exact g2,w,f1⟩
 ·let(g1,g2,w,g3):=I.fzs p hp
  let(f1,f2):=up p.1 w g3
  exact⟨g1,by rw[f2];exact g2,w,f1⟩
 ·let(g1,g2,g3):=I.prs p hp
  refine⟨g1,g2,λj w hm z=>?_⟩
  let(z,y):=look j w z
  rw[y];exact g3 j w hm z
 ·let(g1,g2,w,g3):=I.lnt1 q hq
  let(f1,f2):=up q.1 w g3
  exact⟨g1,by rw[f2];exact g2,w,f1⟩
 ·let(z4,y4):=look j w h4
  rw[y4]
  exact I.tie j k x C dx fs w h1 h2 (look k _ h3).1 z4
theorem Iv.take {n:Nat}{σ2:L2.St}(I:Iv K c md L σ2 S H)(hmd:md.length<=n)(hs:σ.length=n)(hl:n<=σ2.length)(e:∀ j,j<n->σ2[j]?=σ[j]?):Iv K c md (L.take n) σ S H:=by
 have look:∀ j w,(L.take n)[j]?=some (some w)->L[j]?=some (some w)/\σ[j]?=σ2[j]?:=λj w z=>by
  have h:=(aN.mp z).1
  rw[gk] at h
  rw[bc ⋯] at z
  exact⟨z,(e j ⋯).symm⟩
 have up:∀ j w,nq md j≠.imm->L[j]?=some (some w)->(L.take n)[j]?=some (some w)/\σ[j]?=σ2[j]?:=λj w hm z=>by
  have h:j<n:=by
   by_cases h:j<n
   ·exact h
   ·exact absurd (wW ⋯) hm
  exact⟨by rw[bc h];exact z,(e j h).symm⟩
 refine⟨by rw[gk,I.len,hs];lia,λj w hm z=>?_,λj w hm z=>?_,λj k w u b m1 m2 z1 z2 y1 y2=>?_,I.sub,I.frame,I.s0,I.grow,λb hb=>?_,λp hp=>?_,λj w hm z=>I.fzm j w hm (look j w z).1,I.fzp,λp hp=>?_,I.ntp,λq hq=>?_,λj k x C dx fs w h1 h2 h3 h4=>?_⟩
 ·let(z,y):=look j w z;rw[y];exact I.imm j w hm z
 ·let(z,y):=look j w z;rw[y];exact I.own j w hm z
 ·let(z1,q1):=look j w z1
  let(z2,q2):=look k u z2
  rw[q1] at y1;rw[q2] at y2
  exact I.dis j k w u b m1 m2 z1 z2 y1 y2
 ·let(g1,g2,w,g3):=I.lent b hb
  let(f1,f2):=up 0 w g1 g3
  exact⟨g1,by rw[f2];exact g2,w,f1⟩
 ·let(g1,g2,w,g3):=I.fzs p hp
  let(f1,f2):=up p.1 w (λz=>by rw[g1] at z;cases z) g3
  exact⟨g1,by rw[f2];exact g2,w,f1⟩
 ·let(g1,g2,g3):=I.prs p hp
  refine⟨g1,g2,λj w hm z=>?_⟩
  let(z,y):=look j w z
  rw[y];exact g3 j w hm z
 ·let(g1,g2,w,g3):=I.lnt1 q hq
  let(f1,f2):=up q.1 w (λz=>by rw[z] at g1;cases g1) g3
  exact⟨g1,by rw[f2];exact g2,w,f1⟩
 ·let(z4,y4):=look j w h4
  rw[y4]
  exact I.tie j k x C dx fs w h1 h2 (look k _ h3).1 z4
theorem wj {α β:Type}{J:It}{xs:List FV}{n m:Nat}{tg:Tg}{t:BW}{QH:Hp->Prop}{fr:β->Cn}{P:α->β->Hp->Prop}{N:α->Nat}{Cm:List FV->α->m7->Prop}{em:α->m7->(α->m7->Prop)->Prop}{eh:L2.St->Hp->(Hp->Prop)->Prop}{a0:α}{b0:β}
  (I:Iv K (fr b0) md L σ S H)(hJ:Cq K c md J xs S)(hL:L.length=n)(hmd:md.length<=n)(ht:pE md tg=true)(hg:rN n tg=true)(p0:P a0 b0 S)(n0:N a0=0)(h:Cm xs a0 L)
  (hU:∀ a b L σ S H,Iv K (fr b) md L σ S H->P a b S->Iv K c md L σ S H)(hP:∀ a b S S',P a b S->Same S S'->P a b S')
  (hC:∀ x xs a L,Cm (x :: xs) a L->gW tg x (L++jf m none) λL1=>t L1 λb L2=>if b=true then em a L2 (λa' L4=>Cm xs a' (L4.take n)) else Cm xs a (L2.take n))
  (hE:∀ a b L3 σ2 S3 H3 K' Z,N a<xs.length->Iv K (fr b) md L3 σ2 S3 H3->P a b S3->em a L3 K'->(∀ a' b' L4 S4 H4,K' a' L4->Iv K (fr b') md L4 σ2 S4 H4->P a' b' S4->Same S3 S4->N a'<=N a+1->Z H4)->eh σ2 H3 Z)
  (k:∀ a b L' S' H',Cm [] a L'->Iv K (fr b) md L' σ S' H'->P a b S'->Same S S'->QH H') :
  ∃ W:Nat->Nat->Hp->Prop,(∃ m,W 0 m H)/\∀ i j H,W i j H ->
   (J.stop i H/\QH H) ∨ (J.go i H/\∀ x H',J.yld i H x H'->gT K tg x (σ++jf m none) H' λσ2 H2=>Wk (σ++jf m none) σ2/\lb K md t σ2 H2 λb H3 =>
    if b=true then eh σ2 H3 λH4=>∃ m',m'<j/\W (i+1) m' H4 else ∃ m',m'<j/\W (i+1) m' H3):=by
 have hl:σ.length=n:=by rw[<- I.len];exact hL
 refine⟨λi j H1=>∃ L S1 a b,j=(xs.drop i).length/\Iv K (fr b) md L σ S1 H1/\P a b S1/\Same S S1/\L.length=n/\N a<=i/\Cm (xs.drop i) a L,⟨_,L,S,a0,b0,rfl,I,p0,Same.refl S,hL,kC n0,by rw[jk];exact h⟩,?_⟩
 rintro i j H1 ⟨L,S1,a,b,rfl,I,r,s,hL,hps,hc⟩
 let(j1,j2):=hJ i L σ S1 H1 (hU _ _ _ _ _ _ I r) s
 cases hd:xs.drop i with
 | nil =>
  left
  rw[hd] at hc
  exact⟨j1 (aO.mpr (cP.mp hd)),k a b L S1 H1 hc I r s⟩
 | cons p rest =>
  right
  rw[hd] at hc
  have hi:xs[i]?=some p:=by
   have:=congrArg (·[0]?) hd
   simpa using this
  have hd':xs.drop (i+1)=rest:=by
   have:=congrArg lO hd
   simpa[je] using this
  have hix:i<xs.length:=(aN.mp hi).1
  let(go,yl):=j2 p hi
  refine⟨go,λx H2 y=>?_⟩
  let(S2,s2,tr,rx):=yl x H2 y
  have I2:=(tr _ _ _ _ I).more m
  let(σ2,L2,gq,q2,I2,len2,far):=uS ht I2 rx (hC _ _ _ _ hc)
  have l2:n<=σ2.length:=by rw[len2,dY,hl];lia
  have far':∀ q,q<n->σ2[q]?=σ[q]?:=λq hq=>by rw[far n hg q hq,aP (by rw[hl];exact hq)]
  refine gq _ ⟨⟨len2,λq v hv=>?_⟩,?_⟩
  ·have hq:q<n:=by
    by_cases h:q<σ.length
    ·rw[<- hl];exact h
    ·rw[aB ⋯,bu] at hv
     split at hv<;>cases hv
   rw[far n hg q hq];exact hv
  ·refine⟨_,L2,S2,_,I2,q2,λb1 L3 hb3 S3 H3 I3 s3=>?_⟩
   have ln:∀ {c':Cn}{L4:m7}{S4 H4:Hp},Iv K c' md L4 σ2 S4 H4->(L4.take n).length=n:=λI4=>by rw[gk,I4.len];lia
   show ite _ _ _
   cases b1 with
   | false =>
    rw[if_neg eB] at hb3 ⊢
    exact⟨rest.length,by simp,L3.take n,S3,a,b,by rw[hd'],I3.take hmd hl l2 far',hP _ _ _ _ r (s2.trans s3),s.trans (s2.trans s3),ln I3,by lia,by rw[hd'];exact hb3⟩
   | true =>
    rw[if_pos rfl] at hb3 ⊢
    exact hE a b L3 σ2 S3 H3 _ _ ⋯ I3 (hP _ _ _ _ r (s2.trans s3)) hb3 λa' b' L4 S4 H4 hv I4 r4 s4 n4=>⟨rest.length,by simp,L4.take n,S4,a',b',by rw[hd'],I4.take hmd hl l2 far',r4,s.trans (s2.trans (s3.trans s4)),ln I4,by lia,by rw[hd'];exact hv⟩
theorem Iv.newPr {Z8:m4}{o:HO}(I:Iv K { c with pr:=(Z8,o) :: c.pr } md L σ S H)(h0:c.H0 Z8=none)(hp:∀ p∈c.pr,p.1≠Z8)(hz:∀ p∈c.fz,∃ o,(p.2,o)∈c.pr):H Z8=some o/\S Z8=none/\rz c md L σ Z8:=by
 let(g1,g2,g3):=I.prs (Z8,o) dX
 refine⟨g1,g2,h0,hp,λq w hm hq hs=>?_⟩
 by_cases mo:(nq md q).w=true
 ·exact g3 q w mo hq hs
 ·have mo:nq md q=.frz:=by cases z:nq md q with|imm=>exact absurd z hm|frz=>rfl|_=>rw[z] at mo;exact absurd rfl mo
  let(b,f1):=I.fzm q w mo hq
  let(_,f2,_):=I.fzs _ f1
  rw[hs] at f2;cases f2
  let(ys,f3):=hz _ f1
  exact hp _ f3 rfl
theorem Ej {J:It}{xs:List FV}{n m:Nat}{tg:Tg}{t:BW}{e:EW}{Q:VK}{Q1:List FV->m7->Prop}(I:Iv K c md L σ S H)(hJ:Cq K c md J xs S)(hL:L.length=n)(hmd:md.length<=n)(ht:pE md tg=true)(hg:rN n tg=true)(hb:xs.length<=big)(h:pR n m tg t e xs [] L Q1)
  (k:∀ Z8 ps L' S' H',H Z8=none->Q1 ps L'->OwnAt K S' H' Z8 (.lst ps)->rz c md L' σ Z8->Iv K c md L' σ S' H'->Same S S'->Q (.ref Z8) H') :
  ∀ Z8,H Z8=none->∃ W:Nat->Nat->Hp->Prop,(∃ m,W 0 m (oj H Z8 (.lst [])))/\∀ i j H,W i j H ->
   (J.stop i H/\Q (.ref Z8) H) ∨ (J.go i H/\∀ x H',J.yld i H x H'->gT K tg x (σ++jf m none) H' λσ2 H2=>Wk (σ++jf m none) σ2/\lb K md t σ2 H2 λb H3 =>
    if b=true then P7 (lv K md e) Z8 σ2 H3 λH4=>∃ m',m'<j/\W (i+1) m' H4 else ∃ m',m'<j/\W (i+1) m' H3):=by
 intro Z8 hacc
 have h0:=I.h0 hacc
 have hp:∀ p∈c.pr,p.1≠Z8:=(I.fresh hacc).2.1
 have hz:=I.fzp
 have hbl:=oW
 refine wj (fr:=λus=>{ c with pr:=(Z8,.lst us) :: c.pr }) (P:=λps us S=>RVs K S ps us) (N:=kW) (Cm:=λxs ps L=>pR n m tg t e xs ps L Q1) (em:=λps L3 K'=>e L3 λv L4=>K' (ps++[v]) L4) (a0:=[]) (b0:=[]) ((I.lay hacc _).prot nD (I.sn hacc) λj w hm hj=>(I.fresh hacc).2.2 j w (Mo.w_imm hm) hj) hJ hL hmd ht hg rfl rfl h (λ_ _ _ _ _ _ I _=>I.unprot hz) (λ_ _ _ _ r s=>r.mono s) (λ_ _ _ _ h=>h) (λps us L3 σ2 S3 H3 K' Z hn I3 r hv kz=>?_) λps us L' S' H' q I' r s'=>?_
 ·refine⟨_,L3,S3,_,I3,hv,λv L4 hv u S4 H4 r4 I4 s4=>?_⟩
  have lr:=r.length
  exact⟨us,(I4.prs (Z8,.lst us) dX).1,by lia,kz _ (us++[u]) L4 S4 _ hv (I4.regrow h0 hp hz) ((r.mono s4).append (RVs.one r4)) s4 (by simp)⟩
 ·let(g1,g2,f):=I'.newPr h0 hp hz
  exact k Z8 ps L' S' H' hacc q ⟨g2,ps,us,rfl,g1,r⟩ f (I'.unprot hz) s'
end
def yp:Expr->Bool
 | .Set ..=>true
 | _=>false
theorem uT {x:Expr}{env:Env}(h:yp x=false):∀ v,foldedSetIterable x env v=pure v:=by
 intro v
 cases x<;>first|rfl|(cases h;done)
def CC.tn (C:CC) (i:Nat)(x:Str):Bool:=decide (C.N[i]?=some x) && C.loc x
def HF (outer:List (Str×me))(names:List (Str×me)):List (Str×me) :=
 names.map λ(n,k)=>if (k == NameKind.free && outer.lookup n == some .cell) then (n,NameKind.cell) else (n,k)
def CC.sub (C:CC)(scope:mN)(own:List Str)(md:Md):CC:=⟨C.N.map (sF own)++own,HF C.sc scope.names,C.fns,md,false,scope.names,C.ms,C.fl⟩
def CC.scOk (C:CC)(scope:mN)(own:List Str):Bool :=
 decide (scope.kind=.function) && scope.names.all (λp=>decide (p.2=.cell->scope.names.lookup p.1=some .cell)) && scope.names.all (λp=>decide (p.2=.local->scope.names.lookup p.1=some .local)) &&
 scope.names.all (λp=>decide (p.2=.free->(C.sc.lookup p.1=some .cell ∨ C.sc.lookup p.1=some .free))) && C.N.all (λx=>if own.contains x then decide (scope.names.lookup (F2 x)=none) else decide (scope.names.lookup x≠some .local/\scope.names.lookup x≠some .cell)) && decide ((C.N.map (sF own)++own).Nodup)
def DC:Md->Md->Bool
 | [],_=>true
 | a :: md,[]=>decide (a=.imm) && DC md []
 | a :: md,b :: md'=>(decide (a=.imm) || !decide (b=.imm)) && DC md md'
theorem tX:∀ {md md':Md},DC md md'=true->∀ j,nq md j≠.imm->nq md' j≠.imm
 | [],_,_,j,h=>absurd rfl h
 | a :: md,[],h,0,h0=>absurd (de (b2 h).1) h0
 | a :: md,[],h,j+1,h0=>tX (md:=md) (md':=[]) (b2 h).2 j h0
 | a :: md,b :: md',h,0,h0=>λz=>by
  have h:=(b2 h).1
  have h0:a≠.imm:=h0
  have z:b=.imm:=z
  simp[h0,z] at h
 | a :: md,b :: md',h,j+1,h0=>tX (md:=md) (md':=md') (b2 h).2 j h0
def Kb (X:Cx)(es:List Expr)(is:List Nat):Prop:=Mz X.nox es (LU is)/\(assignEach es X.env).length=is.length/\(assignEach es X.env).findIdx? (·.1)=none
def MJ (X:Cx)(C:CC)(xs:List Expr)(t:BW):Prop:=PTs X.nox xs (lb X.K C.md t)
section
variable {X:Cx}{C:CC}{n:Nat}{sp:kj->Nat->Sp}{a x:Expr}{xs:List Expr}{pos p:Pos}{i k:Nat}{nx:Str}{is:List Nat}{t u:BW}
theorem Good.ix (G:Good X C n sp){y:Str}(h:decide (C.N[i]?=some y)=true):X.N[i]?=some y:=by rw[G.N];exact de h
theorem Good.nd' (G:Good X C n sp):X.N.Nodup:=by rw[G.N];exact G.nd
theorem G5 (G:Good X C n sp)(h:C.tn i nx=true):FG X (.Name nx p) (.nm i):=by
 have h:=b2 h
 let(l1,l2):=G.loc h.2
 exact Fc (X:=X.nox) G.nd' (G.ix h.1) l1 l2
theorem NB:Kb X [] []:=⟨As,rfl,rfl⟩
theorem LX (G:Good X C n sp)(h:C.tn i nx=true)(r:Kb X xs is):Kb X (.Name nx p :: xs) (i :: is):=by
 let(h1,h2,h3):=r
 refine⟨uu (G5 G h) h1 rfl,?_,?_⟩
 ·show (assignEach xs X.env).length+1=is.length+1
  rw[h2]
 ·show ((false,assign (.Name nx p) X.env) :: assignEach xs X.env).findIdx? (·.1)=none
  rw[List.findIdx?_cons]
  simp[h3]
theorem D2 (G:Good X C n sp)(r:Kb X xs is):FG X (.Tuple xs k p) (.tp is):=Dg (X:=X.nox) G.calm r.1 r.2.1 r.2.2
theorem fg_tn (G:Good X C n sp){k2:Nat}{p2 p3:Pos}(h:C.tn i nx=true)(r:Kb X xs is):FG X (.Tuple [.Name nx p3,.Tuple xs k2 p2] k p) (.tn i is) :=
 Dg (X:=X.nox) G.calm (uu (G5 G h) (uu (D2 G r) As rfl) rfl) rfl rfl
theorem PTs.imp {e:List Expr}{t u:TT}(h:PTs X e t)(f:∀ σ H Q,u σ H Q->t σ H Q):PTs X e u:=λZ9 s σ H Q I hu=>h Z9 s σ H Q I (f σ H Q hu)
theorem Nl:MJ X C [] nR:=PTs.imp Ao λσ H Q q1=>by let(c,L,S,Q0,I,h,k):=q1;exact k true L h S H I (Same.refl S)
theorem Nk (h1:FB X C a t):MJ X C [a] t:=PTs.imp (C5 h1 (Ao (X:=X.nox))) λσ H Q q1=>by let(c,L,S,Q0,I,h,k):=q1;exact
 ⟨c,L,S,_,I,h,λr L1 q S1 H1 I1 s1=>by
  cases r with
  | true=>rw[if_pos rfl];exact k true L1 q S1 H1 I1 s1
  | false=>rw[if_neg eB];exact k false L1 q S1 H1 I1 s1⟩
theorem Good.sub (G:Good X C n sp){scope:mN}{own:List Str}(h:C.scOk scope own=true)(md:Md):CScope X scope own/\∀ fp D s H,Good (pH X scope own fp D s H) (C.sub scope own md) n sp:=by
 simp only[CC.scOk,gG,decide_eq_true_eq,gB] at h
 let(((((h1,h2),h3),h4),h5),h6):=h
 refine⟨⟨h1,λp hp=>by simpa using h2 p hp,λp hp=>by simpa using h3 p hp,λp hp hk=>?_,λx hx hw=>?_,λx hx hw=>?_⟩,λfp D s H=>⟨?_,?_,h1,h6,G.calm,(λx z=>z),G.room,G.fns,G.blt,G.mts,G.fls⟩⟩
 ·have:=h4 p hp
  show X.env.scope.names.lookup p.1=_ ∨ X.env.scope.names.lookup p.1=_
  rw[G.sc];exact this hk
 ·have:=h5 x (by rw[<- G.N];exact hx)
  rw[if_neg (by rw[hw];exact eB)] at this
  exact de this
 ·have:=h5 x (by rw[<- G.N];exact hx)
  rw[if_pos hw] at this
  exact de this
 ·show X.N.map (sF own)++own=C.N.map (sF own)++own
  rw[G.N]
 ·show (relabel scope X.env).names=HF C.sc scope.names
  unfold relabel HF
  simp only
  refine db λp hp=>?_
  let(nm,kd):=p
  show (if (kd == NameKind.free && X.env.scope.kind == .function && X.env.scope.names.lookup nm == some .cell)=true then (nm,NameKind.cell) else (nm,kd))=_
  rw[G.kind,G.sc]
  simp
variable {scope:mN}{own:List Str}{Z3 ZY Z5:Expr}{Z4:List Expr}{it:AW}{tg:Tg}{e:EW}{nn m:Nat}{md':Md}
structure CompOk (X:Cx)(C:CC) (n:Nat)(sp:kj->Nat->Sp)(scope:mN)(own:List Str)(Z3 ZY Z5:Expr)(Z4:List Expr) (nn m:Nat)(md':Md)(it:AW)(tg:Tg)(t:BW)(e:EW):Prop where
 st:(C.scOk scope own && decide (C.N.length=nn) && decide (own.length=m) && decide (md'.length<=nn) && DC C.md md' && pE md' tg && rN nn tg && !yp Z5)=true
 it:FI X C md' ZY Z5 it
 tg:∀ X',Good X' (C.sub scope own md') n sp->FG X' ZY tg
 ts:∀ X',Good X' (C.sub scope own md') n sp->MJ X' (C.sub scope own md') Z4 t
 el:∀ X',Good X' (C.sub scope own md') n sp->FE X' (C.sub scope own md') Z3 e
theorem CompOk.run (G:Good X C n sp)(h:CompOk X C n sp scope own Z3 ZY Z5 Z4 nn m md' it tg t e){σ:L2.St}{H:Hp}{Q:VK}(hq:lf X.K C.md (oD nn m it tg t e) σ H Q):CH (li X.K C.md md' it) (gT X.K tg) (lb X.K md' t) (lv X.K md' e) own.length σ H Q:=by
 have h0:=b2 h.st;have h1:=b2 h0.1;have h2:=b2 h1.1;have h3:=b2 h2.1;have h4:=b2 h3.1;have h5:=b2 h4.1;have h6:=b2 h5.1
 let(c,L,S,Q0,I,hh,k):=hq
 refine⟨c,L,S,_,I,hh,λxs L1 hx J c' S1 H1 I1 un e0 hJ s1=>?_⟩
 let(hl,hb,hc):=hx
 rw[de h5.2]
 refine Ej I1 hJ hl (de h4.2) h2.2 h1.2 hb hc λZ8 ps L' S' H' hn q o fr I' s'=>k _ L' q Z8 S' H' o ⟨by rw[<- e0];exact fr.1,((un _ _ _ _ I1).fresh hn).2.1,λj w hm=>fr.2.2 j w (tX h3.2 j hm)⟩ (un _ _ _ _ I') (s1.trans s')
theorem CompOk.blk (G:Good X C n sp)(h:CompOk X C n sp scope own Z3 ZY Z5 Z4 nn m md' it tg t e):CScope X scope own/\(∀ fp D s H,PG (pH X scope own fp D s H) ZY (gT X.K tg)/\PTs (pH X scope own fp D s H) Z4 (lb X.K md' t)/\PE (pH X scope own fp D s H) Z3 (lv X.K md' e))/\∀ v,foldedSetIterable Z5 X.env v=pure v:=by
 have h0:=b2 h.st;have h1:=b2 h0.1;have h2:=b2 h1.1;have h3:=b2 h2.1;have h4:=b2 h3.1;have h5:=b2 h4.1;have h6:=b2 h5.1
 let(s1,s2):=G.sub h6.1 md'
 exact⟨s1,λfp D s H=>⟨h.tg _ (s2 fp D s H),h.ts _ (s2 fp D s H),h.el _ (s2 fp D s H)⟩,uT (nb h0.2)⟩
theorem oA (G:Good X C n sp)(h:CompOk X C n sp scope own Z3 ZY Z5 Z4 nn m md' it tg t e):FF X C (.ListComp Z3 [⟨ZY,Z5,Z4,0⟩] scope pos) (oD nn m it tg t e):=by
 let(s1,s2,s3):=h.blk G
 exact PE.imp (Au G.calm s1 h.it s2 s3) λσ H Q q=>h.run G q
end
def Mv (K:kj)(c:Cn)(S H:Hp)(v:FV)(x:V):Bool->Prop
 | false=>RV K S v x
 | true=>∃ a,x=.ref a/\OwnAt K S H a v/\c.H0 a=none
def MK (K:kj)(c:Cn)(fr:Bool)(D:Ends)(σ:L2.St)(S H:Hp):FFl->Prop
 | .next=>D.nx σ H
 | .brk=>D.bk σ H
 | .cont=>D.ct σ H
 | .ret v=>∀ x,Mv K c S H v x fr->D.rt x H
inductive ls (K:kj)(md:Md)(fr:Bool)(s:SW)(D:Ends)(σ:L2.St)(H:Hp):Prop
 | mk (c:_)(L:_)(S:_)(Q0:_)(_:Iv K c md L σ S H)(_:s L Q0)(_:∀ fl L',Q0 fl L'->∀ σ' S' H',Iv K c md L' σ' S' H'->Same S S'->MK K c fr D σ' S' H' fl):ls K md fr s D σ H
def FS (X:Cx)(C:CC)(fr:Bool)(x:mX)(s:SW):Prop:=PS X.nox x (ls X.K C.md fr s)
def wA (X:Cx)(C:CC)(fr:Bool)(x:List mX)(s:SW):Prop:=PSs X.nox x (ls X.K C.md fr s)
def CC.wmd (C:CC)(md:Md):CC:=⟨C.N,C.sc,C.fns,md,C.top,C.oc,C.ms,C.fl⟩
section
variable {X:Cx}{C:CC}{n:Nat}{sp:kj->Nat->Sp}{fr:Bool}{a b x y:Expr}{e ea eb:EW}{pos p px py:Pos}{i j k:Nat}{nx ny:Str}{is:List Nat}{st:mX}{sts:List mX}{s r:SW}
variable {K:kj}{c:Cn}{md:Md}{L:m7}{σ:L2.St}{S H:Hp}
theorem Good.wmd (G:Good X C n sp)(md:Md):Good X (C.wmd md) n sp:=⟨G.N,G.sc,G.kind,G.nd,G.calm,G.fn,G.room,G.fns,G.blt,G.mts,G.fls⟩
theorem PS.imp {e:mX}{t u:TS}(h:PS X e t)(f:∀ D σ H,u D σ H->t D σ H):PS X e u:=λZ9 s σ H D I hu=>h Z9 s σ H D I (f D σ H hu)
theorem PSs.imp {e:List mX}{t u:TS}(h:PSs X e t)(f:∀ D σ H,u D σ H->t D σ H):PSs X e u:=λZ9 s σ H D I hu=>h Z9 s σ H D I (f D σ H hu)
theorem O2:wA X C fr [] oN:=PSs.imp E6 λD σ H q1=>by let(c,L,S,Q0,I,h,k):=q1;exact k .next L h σ S H I (Same.refl S)
theorem rY (h:FS X C fr st s):wA X C fr [st] s:=E5 h
theorem nG (h:FS X C fr st s)(h2:wA X C fr sts r):wA X C fr (st :: sts) (nj s r):=PSs.imp (C8 h h2) λD σ H q1=>by let(c,L,S,Q0,I,h,k):=q1;exact
 ⟨c,L,S,_,I,h,λfl L1 q σ1 S1 H1 I1 s1=>by
  cases fl with
  | next=>exact⟨c,L1,S1,_,I1,q,λfl L2 q σ2 S2 H2 I2 s2=>k fl L2 q σ2 S2 H2 I2 (s1.trans s2)⟩
  | brk=>exact k _ L1 q σ1 S1 H1 I1 s1
  | cont=>exact k _ L1 q σ1 S1 H1 I1 s1
  | ret v=>exact k _ L1 q σ1 S1 H1 I1 s1⟩
def tf:Expr->Bool
 | .ListComp ..=>true
 | .SetComp ..=>true
 | .DictComp ..=>true
 | _=>false
theorem qR {e:Expr}{t:Option Expr}{n:Nat}{env:Env}(h:tf e=false):swapsWith e t n env=pure false:=by
 cases e<;>first|rfl|(cases h;done)
theorem Nr (hc:tf a=false)(h:FE X C a e):FS X C fr (.Expr a pos) (vw e):=PS.imp (E7 h (qR hc)) λD σ H q1=>by let(c,L,S,Q0,I,h,k):=q1;exact
 ⟨c,L,S,_,I,h,λv L1 q x S1 H1 r I1 s1=>k .next L1 q σ S1 H1 I1 s1⟩
theorem O0 (h:FE X C a e):FS X C false (.Return (some a) pos) (nO e):=PS.imp (zp h) λD σ H q1=>by let(c,L,S,Q0,I,h,k):=q1;exact
 ⟨c,L,S,_,I,h,λv L1 q x S1 H1 r I1 s1=>k (.ret v) L1 q σ S1 H1 I1 s1 x r⟩
theorem Nq (h:FF X C a e):FS X C true (.Return (some a) pos) (nO e):=PS.imp (zp h) λD σ H q1=>by let(c,L,S,Q0,I,h,k):=q1;exact
 ⟨c,L,S,_,I,h,λv L1 q l S1 H1 o fr I1 s1=>k (.ret v) L1 q σ S1 H1 I1 s1 _ ⟨l,rfl,o,fr.1⟩⟩
theorem Iv.mine (I:Iv K c md L σ S H){v:FV}{a:m4}(hi:i≠0)(m:nq md i≠.imm)(e:L[i]?=some (some v))(e1:σ[i]?=some (some (.ref a)))(ng:(nq md i).g=false:=by first|rfl|(simp only[*];rfl)):c.H0 a=none:=by
 let(b,e2,_,h):=I.own i v m e
 rw[e1] at e2;cases e2
 rcases h with h|h|⟨j,h⟩
 ·let(g1,g2,w,g3):=I.lent a h
  exact absurd (I.dis i 0 v w a m g1 e g3 e1 g2) hi
 ·exact h
 ·let(g1,g2,w,g3):=I.lnt1 _ h
  have:=I.dis i j v w a m (λz=>by rw[z] at g1;cases g1) e g3 e1 g2
  subst this
  rw[ng] at g1;cases g1
theorem Np (G:Good X C n sp)(h:C.nm i nx=true)(m:(decide (nq C.md i=.own) && decide (i≠0))=true):FS X C true (.Return (some (.Name nx p)) pos) (nO (m5 i)):=PS.imp (zp (oR G h)) λD σ H q1=>by
 let(c,L,S,Q0,I,h,k):=q1
 have m:=b2 m
 have mi:nq C.md i≠.imm:=λz=>by rw[de m.1] at z;cases z
 let(v,e,q):=oE h
 have e:=(o8 _ _ _).mp e
 let(l,e1,o,_):=I.own i v mi e
 exact⟨_,e1,k (.ret v) L q σ S H I (Same.refl S) _ ⟨l,rfl,o,I.mine (de m.2) mi e e1 (by rw[de m.1];rfl)⟩⟩
theorem fs_if {t:BW}{xa xb:List mX}(h:FB X C a t)(ha:wA X C fr xa s)(hb:wA X C fr xb r):FS X C fr (.If a xa xb pos) (qL t s r):=PS.imp (La h ha hb) λD σ H q1=>by let(c,L,S,Q0,I,h,k):=q1;exact
 ⟨c,L,S,_,I,h,λv L1 q S1 H1 I1 s1=>by
  cases v with
  | true=>rw[if_pos rfl] at q ⊢;exact⟨c,L1,S1,_,I1,q,λfl L2 q σ2 S2 H2 I2 s2=>k fl L2 q σ2 S2 H2 I2 (s1.trans s2)⟩
  | false=>rw[if_neg eB] at q ⊢;exact⟨c,L1,S1,_,I1,q,λfl L2 q σ2 S2 H2 I2 s2=>k fl L2 q σ2 S2 H2 I2 (s1.trans s2)⟩⟩
theorem xA {tg:Tg}{te:TE}(ht:pE C.md tg=true)(hte:∀ σ H Q,lv X.K C.md e σ H Q->te σ H Q)(h:PS X.nox st (wK te (gT X.K tg))):FS X C fr st (nB e tg):=PS.imp h λD σ H ⟨c,L,S,Q0,I,h,k⟩=>hte _ _ _
 ⟨c,L,S,_,I,h,λv L1 q x S1 H1 r I1 s1=>by
  let(σ',L',g,q,I2,_):=uS ht I1 r q
  exact g _ (k .next L' q σ' S1 H1 I2 s1)⟩
theorem GJ {te:TE}(m:nq C.md i=.imm)(hte:∀ σ H Q,lf X.K C.md e σ H Q->te σ H Q)(h:PS X.nox st (wK te (qJ i))):FS X C fr st (nB e (.nm i)):=PS.imp h λD σ H ⟨c,L,S,Q0,I,h,k⟩=>hte _ _ _
 ⟨c,L,S,_,I,h,λv L1 q l S1 H1 o f I1 s1=>by
  let(u,hu,I2,r):=Ay I1 o f
  exact k .next _ q _ _ H1 (I2.setI m r) (s1.trans (nX o.1))⟩
theorem GI {te:TE}(m:(decide (nq C.md i=.own) && decide (i≠0))=true)(hte:∀ σ H Q,lf X.K C.md e σ H Q->te σ H Q)(h:PS X.nox st (wK te (qJ i))):FS X C fr st (nB e (.nm i)):=PS.imp h λD σ H ⟨c,L,S,Q0,I,h,k⟩=>hte _ _ _
 ⟨c,L,S,_,I,h,λv L1 q l S1 H1 o f I1 s1=>by
  have m:=b2 m
  exact k .next _ q _ _ H1 (I1.set (λ_ _=>de m.2) (λz=>by rw[de m.1] at z;cases z) (.inr ⟨de m.1,l,rfl,o,f.1,f.2.1,λj w _ hm hj=>f.2.2 j w hm hj⟩)) s1⟩
theorem Da (G:Good X C n sp){te:TE}(ht:C.tn i nx=true)(hs:swapsWith a (some (.Name nx px)) pos.line X.env=pure false)(h:PE X.nox a te):PS X.nox (.Assign [.Name nx px] a pos) (wK te (qJ i)):=by
 have ht:=b2 ht
 let(l1,l2):=G.loc ht.2
 exact HN (X:=X.nox) G.nd' (G.ix ht.1) l1 h hs l2
theorem OZ (G:Good X C n sp)(ht:C.tn i nx=true)(m:nq C.md i=.imm)(hc:tf a=false)(h:FE X C a e):FS X C fr (.Assign [.Name nx px] a pos) (nB e (.nm i)) :=
 xA (tg:=.nm i) (by simpa[pE] using m) (λ_ _ _ z=>z) (Da G ht (qR hc) h)
theorem No (G:Good X C n sp)(ht:C.tn i nx=true)(m:(decide (nq C.md i=.own) && decide (i≠0))=true)(hc:tf a=false)(h:FF X C a e):FS X C fr (.Assign [.Name nx px] a pos) (nB e (.nm i)) :=
 GI m (λ_ _ _ z=>z) (Da G ht (qR hc) h)
def swC (C:CC)(x:Str)(px:Pos)(scope:mN)(p:Pos):Bool:=decide (C.sc.lookup x=some .local) && (px.line == p.line) && !(scope.names.any λ(n,k)=>n == x && (k == .local || k == .cell))
theorem EJ {Z3:Expr}{gs:List jX}{scope:mN}{p px:Pos}{x:Str}{n:Nat}{env:Env}(hk:env.scope.kind=.function) :
  swapsWith (.ListComp Z3 gs scope p) (some (.Name x px)) n env=pure (decide (env.scope.names.lookup x=some .local) && (px.line == p.line) && !(scope.names.any λ(n,k)=>n == x && (k == .local || k == .cell))):=by
 have hb:env.blockKind=.function:=by unfold jV;rw[hk];rfl
 have:(env.kindOf x == some .local)=decide (env.scope.names.lookup x=some .local):=by
  rw[iL];simp[Env.kindOf]
 unfold swapsWith
 simp only[hb,this]
 rfl
variable {scope:mN}{own:List Str}{Z3 ZY Z5:Expr}{Z4:List Expr}{it:AW}{tg:Tg}{t:BW}{nn m:Nat}{md':Md}
theorem Ei (G:Good X C n sp)(ht:C.tn i nx=true)(h:CompOk X C n sp scope own Z3 ZY Z5 Z4 nn m md' it tg t e):∃ te:TE,(∀ σ H Q,lf X.K C.md (oD nn m it tg t e) σ H Q->te σ H Q)/\PS X.nox (.Assign [.Name nx px] (.ListComp Z3 [⟨ZY,Z5,Z4,0⟩] scope p) pos) (wK te (qJ i)):=by
 have hsw:swapsWith (.ListComp Z3 [⟨ZY,Z5,Z4,0⟩] scope p) (some (.Name nx px)) pos.line X.env=pure (swC C nx px scope p):=by rw[EJ G.kind,G.sc];rfl
 let(s1,s2,s3):=h.blk G
 cases hb:swC C nx px scope p with
 | false =>
  rw[hb] at hsw
  exact⟨_,λσ H Q q=>h.run G q,Da G ht hsw (Au G.calm s1 h.it s2 s3)⟩
 | true =>
  rw[hb] at hsw
  have hlo:X.env.scope.names.lookup nx=some .local:=by
   rw[G.sc]
   have hb:=b2 hb
   exact de (b2 hb.1).1
  exact⟨_,λσ H Q q=>h.run G q,zn G.calm s1 G.nd' (G.ix (b2 ht).1) hlo h.it s2 hsw s3⟩
theorem rC (G:Good X C n sp)(ht:C.tn i nx=true)(hm:nq C.md i=.imm)(h:CompOk X C n sp scope own Z3 ZY Z5 Z4 nn m md' it tg t e):FS X C fr (.Assign [.Name nx px] (.ListComp Z3 [⟨ZY,Z5,Z4,0⟩] scope p) pos) (nB (oD nn m it tg t e) (.nm i)) :=
 let ⟨te,h1,h2⟩:=Ei G ht h
 GJ hm h1 h2
def Oi:Expr->Bool
 | .Tuple ..=>true
 | _=>false
def tE:Expr->Bool
 | .Starred ..=>true
 | _=>false
theorem OY (G:Good X C n sp){ts:List Expr}(hm:pE C.md (.tp is)=true)(hn:Oi a=false)(hg:Kb X ts is)(h:FE X C a e):FS X C fr (.Assign [.Tuple ts k p] a pos) (nB e (.tp is)) :=
 xA (tg:=.tp is) hm (λ_ _ _ z=>z) (zq (X:=X.nox) h (D2 G hg) (by cases a<;>rfl) (by cases a<;>first|rfl|(cases hn;done)) rfl)
def zw (sc:List (Str×me))(t:Expr):Bool:=match t with
 | .Name x _=>!(decide (sc.lookup x=some .local))
 | _=>true
def M8 (env:Env) (l:Nat):Expr->Option Str
 | .Name id pos=>if env.kindOf id == some .local && pos.line == l then some id else none
 | _=>none
def KM (ts vs:List Expr)(env:Env):Bool:=!(ts.length == 2 || ts.length == 3) || vs.length != ts.length || env.blockKind != .function
def KL (ts:List Expr)(ns:List Str):Bool:=ns.length != ts.length || ns.eraseDups.length != ns.length
def MR (ts:List Expr)(env:Env):List Str:=ts.filterMap (M8 env ((ts.head?.map (·.pos.line)).getD 0))
theorem GP (ts vs:List Expr) (k k2:Nat)(tp tp2:Pos)(env:Env):∃ z,swappedStores [.Tuple ts k tp] (.Tuple vs k2 tp2) env=if KM ts vs env then pure none else if vs.any tE then pure none else if KL ts (MR ts env) then pure none else if vs.all (foldedForSure 8) then pure none else if vs.all (constantsAlone 8) then z else pure (some (MR ts env)):=⟨_,rfl⟩
theorem KJ {ts vs:List Expr}{k k2:Nat}{tp tp2:Pos}{env:Env}(h:4<=ts.length ∨ ∃ t∈ts,zw env.scope.names t=true):swappedStores [.Tuple ts k tp] (.Tuple vs k2 tp2) env=pure none:=by
 let(z,e):=GP ts vs k k2 tp tp2 env
 have c:KM ts vs env=true ∨ KL ts (MR ts env)=true:=by
  rcases h with h|⟨t,ht,hn⟩
  ·left
   have a:(ts.length == 2 || ts.length == 3)=false:=by
    rw[Bool.or_eq_false_iff,beq_eq_false_iff_ne,beq_eq_false_iff_ne];lia
   unfold KM;rw[a];rfl
  ·right
   have lt:∀ (l:List Expr)(f:Expr->Option Str),t∈l->f t=none->(l.filterMap f).length<l.length:=by
    intro l f
    induction l with
    | nil=>intro h;cases h
    | cons a r ih =>
     intro hm hf
     have le:=aY f r
     rcases jP.mp hm with rfl|hm
     ·rw[dh,hf,gp];show (jj f r).length<_;lia
     ·have:=ih hm hf
      rw[dh,gp]
      cases f a with
      | none=>show (jj f r).length<_;lia
      | some b=>show (jj f r).length+1<_;lia
   have:=lt ts (M8 env ((ts.head?.map (·.pos.line)).getD 0)) ht (by
    cases t with
    | Name x p =>
     have hx:(env.kindOf x == some NameKind.local)=false:=by
      rw[beq_eq_false_iff_ne]
      intro q
      have:(!(decide (env.scope.names.lookup x=some .local)))=true:=hn
      rw[show env.scope.names.lookup x=some .local from q] at this
      exact absurd this (by decide)
     show (if env.kindOf x == some .local && _ then some x else none)=none
     rw[hx];rfl
    | _=>rfl)
   unfold KL
   rw[iK,bne_iff_ne]
   exact .inl (kq this)
 rw[e]
 rcases c with c|c
 ·rw[if_pos c]
 ·rw[c];simp only[if_true,ite_self]
theorem Nn (G:Good X C n sp){ts vs:List Expr}{k2:Nat}{p2:Pos}(hm:pE C.md (.tp is)=true)(hn:(decide (4<=ts.length) || ts.any λt=>zw C.sc t)=true)(hg:Kb X ts is)(h:FE X C (.Tuple vs k2 p2) e):FS X C fr (.Assign [.Tuple ts k p] (.Tuple vs k2 p2) pos) (nB e (.tp is)) :=
 xA (tg:=.tp is) hm (λ_ _ _ z=>z) (zq (X:=X.nox) h (D2 G hg) rfl (KJ (by
  show 4<=ts.length ∨ ∃ t∈ts,zw X.env.scope.names t=true
  rw[G.sc]
  simpa using hn)) rfl)
theorem KI {ts vs:List Expr}{k k2:Nat}{tp tp2:Pos}{env:Env}{ns:List Str}(h1:KM ts vs env=false)(h2:vs.any tE=false)(h3:MR ts env=ns)(h4:KL ts ns=false)(h5:vs.all (foldedForSure 8)=false)(h6:vs.all (constantsAlone 8)=false):swappedStores [.Tuple ts k tp] (.Tuple vs k2 tp2) env=pure (some ns):=by
 let(z,e):=GP ts vs k k2 tp tp2 env
 rw[e,h1,h2,h3,h4,h5,h6];rfl
theorem DK {env:Env}{l:Nat}{x:Str}{p:Pos}(hx:env.scope.names.lookup x=some .local)(hl:(p.line == l)=true):M8 env l (.Name x p)=some x:=by
 show (if env.kindOf x == some .local && p.line == l then some x else none)=some x
 rw[hl,show env.kindOf x=some .local from hx];rfl
theorem FM {env:Env}(hk:env.scope.kind=.function):env.blockKind=.function:=by unfold jV;rw[hk];rfl
theorem sw2 {x y:Str}{px py pt pt2:Pos}{kt k2:Nat}{a b:Expr}{env:Env}(hk:env.scope.kind=.function)(hx:env.scope.names.lookup x=some .local)(hy:env.scope.names.lookup y=some .local)(hxy:x≠y)(hl:(py.line == px.line)=true)
  (sa:tE a=false)(sb:tE b=false)(hf:(foldedForSure 8 a && foldedForSure 8 b)=false)(hc:(constantsAlone 8 a && constantsAlone 8 b)=false) :
  swappedStores [.Tuple [.Name x px,.Name y py] kt pt] (.Tuple [a,b] k2 pt2) env=pure (some [x,y]):=by
 refine KI (by unfold KM;rw[FM hk];rfl) ?_ ?_ ?_ ?_ ?_
 ·show (tE a || (tE b || false))=false;rw[sa,sb];rfl
 ·show jj (M8 env px.line) [.Name x px,.Name y py]=_
  rw[dh,DK hx (beq_self_eq_true _),dh,DK hy hl];rfl
 ·unfold KL;simp[List.eraseDups_cons,mq hxy]
 ·show (_ && (_ && true))=false;rw[j0];exact hf
 ·show (_ && (_ && true))=false;rw[j0];exact hc
def Lh (C:CC) (i j:Nat)(x y:Str)(px py:Pos)(a b:Expr):Bool:=decide (C.N[i]?=some x) && decide (C.N[j]?=some y) && decide (i≠j) && decide (x≠y) && decide (C.sc.lookup x=some .local) && decide (C.sc.lookup y=some .local) && (py.line == px.line) && !tE a && !tE b && !(foldedForSure 8 a && foldedForSure 8 b) && !(constantsAlone 8 a && constantsAlone 8 b)
theorem O1 (G:Good X C n sp){kt k2:Nat}{pt p2:Pos}(hm:pE C.md (.tp [i,j])=true)(h:Lh C i j nx ny px py a b=true)(ha:FE X C a ea)(hb:FE X C b eb):FS X C fr (.Assign [.Tuple [.Name nx px,.Name ny py] kt pt] (.Tuple [a,b] k2 p2) pos) (nB (oQ (m6 ea (m6 eb m9))) (.tp [i,j])):=by
 have g0:=b2 h;have g1:=b2 g0.1;have g2:=b2 g1.1;have g3:=b2 g2.1;have g4:=b2 g3.1;have g5:=b2 g4.1;have g6:=b2 g5.1;have g7:=b2 g6.1;have g8:=b2 g7.1;have g9:=b2 g8.1
 have lx:X.env.scope.names.lookup nx=some .local:=by rw[G.sc];exact de g6.2
 have ly:X.env.scope.names.lookup ny=some .local:=by rw[G.sc];exact de g5.2
 have sa:nC a=false:=by cases a<;>first|rfl|(exact nb g3.2)
 have sb:nC b=false:=by cases b<;>first|rfl|(exact nb g2.2)
 refine PS.imp (HP (X:=X.nox) G.calm G.nd' (G.ix g9.1) (G.ix g9.2) (de g8.2) lx ly (nE ha (nE hb oM (m8 sb)) (m8 sa)) (sw2 (env:=X.env) G.kind lx ly (de g7.2) g4.2 (nb g3.2) (nb g2.2) (nb g1.2) (nb g0.2))) λD σ H q1=>?_;let(c,L,S,Q0,I,h,k):=q1
 have hm:=b2 (show (decide (nq C.md i=.imm) && (decide (nq C.md j=.imm) && true))=true from hm)
 refine⟨c,L,S,_,I,h,λv L1 q x S1 H1 r1 I1 s1=>⟨c,L1,S1,_,I1,q,λw L2 q y S2 H2 r2 I2 s2=>⟨x,y,rfl,?_⟩⟩⟩
 exact k .next _ q.2 _ S2 H2 ((I2.setI (de hm.1) (r1.mono s2)).setI (de (b2 hm.2).1) r2) (s1.trans s2)
theorem CS {xo xi : Expr} {p : Pos} {env : Env} (h : qF xi = false) : ∀ v, assign (.Subscript xo xi p) env v = (do
      let ov <- holding [v] (eval xo env)
      let iv <- holding [v,ov] (eval xi env)
      standAt p
      holding [v,ov,iv] (setItem ov iv v)
      release [v,ov,iv] []):=by
  intro v
  cases xi<;>first|rfl|(cases h;done)
theorem fs_ix (G:Good X C n sp)(hn:C.nm i nx=true)(m:nq C.md i=.own)(hc:(!tf a && !qF b)=true)(ha:FE X C a ea)(hb:FE X C b eb):FS X C fr (.Assign [.Subscript (.Name nx px) b p] a pos) (BA i eb ea):=by
 have hc:=b2 hc
 refine PS.imp (zq (X:=X.nox) ha (HU (oR (pos:=px) G hn) hb CT (CS (nb hc.2))) (by simp only[swapsWithSole];exact qR (nb hc.1)) rfl rfl) λD σ H ⟨c,L,S,Q0,I,h,k⟩=>?_
 have mi:nq C.md i≠.imm:=λz=>by rw[m] at z;cases z
 let(v0,e,h):=oE h
 let(l,e1,_):=I.own i v0 mi ((o8 _ _ _).mp e)
 refine⟨c,L,S,_,I,h,λv L1 q x S1 H1 r1 I1 s1=>⟨_,e1,c,L1,S1,_,I1,q,λw L2 q y S2 H2 r2 I2 s2=>?_⟩⟩
 let(v1,e2,q2):=oE q
 let(z,e3,q3):=oE q2
 have e2:=(o8 _ _ _).mp e2
 let(l',f1,(o1,ps,us,e9,o2,o3),_):=I2.own i v1 mi e2
 rw[e1] at f1;cases f1
 let(xs,g1,e3):=oY e3
 let(nn,g2,e3):=oY e3
 let(pp,g3,rfl):=sm e3
 cases qE g1
 cases e9
 obtain rfl:w=.int nn:=by cases w<;>cases g2;rfl
 obtain rfl:y=.int nn:=r2
 refine⟨l,us,nn,pp,rfl,rfl,o2,by rw[<- o3.length];exact g3,?_⟩
 exact k .next _ q3 σ S2 _ (I2.write m e2 e1 (o3.set pp (r1.mono s2))) (s1.trans s2)
def Ck (f:Int->Int->Int):FV->FV->Option FV
 | .int a,.int b=>some (.int (f a b))
 | _,_=>none
theorem GF {f:Int->Int->Int}{v w z:FV}(h:Ck f v w=some z):∃ a b,v=.int a/\w=.int b/\z=.int (f a b):=by
 obtain⟨a,rfl⟩:∃ a,v=.int a:=by cases v<;>first|exact⟨_,rfl⟩|cases h
 cases w<;>first|(cases h;exact⟨_,_,rfl,rfl,rfl⟩)|cases h
theorem J6 {f:Int->Int->Int}(m:nq C.md i=.imm)(h:PS X.nox st (tAug i (lv X.K C.md e) (ipI f))):FS X C fr st (CV (Ck f) i e):=PS.imp h λD σ H q1=>by
 let(c,L,S,Q0,I,h,k):=q1
 let(v,e0,h):=oE h
 let(x,e1,r):=I.imm i v m ((o8 _ _ _).mp e0)
 refine⟨x,e1,c,L,S,_,I,h,λw L1 q y S1 H1 r1 I1 s1=>?_⟩
 let(z,e2,q):=oE q
 let(a,b,rfl,rfl,rfl):=GF e2
 exact⟨a,b,r,r1,k .next _ q _ S1 H1 (I1.setI (v:=.int _) m rfl) s1⟩
theorem O5 (G:Good X C n sp)(ht:C.tn i nx=true)(m:nq C.md i=.imm)(h:FE X C a e):FS X C fr (.AugAssign (.Name nx px) .Add a pos) (CV (Ck λi j=>i+j) i e):=by
 have ht:=b2 ht
 let(l1,l2):=G.loc ht.2
 exact J6 m (HR (X:=X.nox) G.nd' (G.ix ht.1) l1 h IB l2)
theorem F8 {J:It}{xs:List FV}{D:Ends}{Q0:FFl->m7->Prop}(I:Iv K c md L σ S H)(hJ:Cq K c md J xs S)(ht:pE md tg=true)(h:zK tg s xs L Q0)
  (k:∀ fl L',Q0 fl L'->∀ σ' S' H',Iv K c md L' σ' S' H'->Same S S'->MK K c fr D σ' S' H' fl) :
  ∃ W:Nat->Nat->L2.St->Hp->Prop,(∃ m,W 0 m σ H)/\∀ i m σ H,W i m σ H ->
   (J.stop i H/\D.nx σ H) ∨ (J.go i H/\∃ N:L2.St->Hp->Prop,(∀ σ' H',N σ' H'->∃ m',m'<m/\W (i+1) m' σ' H')/\∀ x H',J.yld i H x H'->gT K tg x σ H' λσ2 H2=>ls K md fr s { D with nx:=N,ct:=N,bk:=D.nx } σ2 H2):=by
 let W:Nat->Nat->L2.St->Hp->Prop:=λi j σ1 H1=>∃ L S1,j=(xs.drop i).length/\Iv K c md L σ1 S1 H1/\Same S S1/\zK tg s (xs.drop i) L Q0
 refine⟨W,⟨_,L,S,rfl,I,Same.refl S,by rw[jk];exact h⟩,?_⟩
 rintro i m σ1 H1 ⟨L,S1,rfl,I,s1,h⟩
 let(j1,j2):=hJ i L σ1 S1 H1 I s1
 cases hd:xs.drop i with
 | nil =>
  rw[hd] at h
  exact .inl ⟨j1 (aO.mpr (cP.mp hd)),k .next L h σ1 S1 H1 I s1⟩
 | cons p rest =>
  right
  rw[hd] at h
  have hi:xs[i]?=some p:=by
   have:=congrArg (·[0]?) hd
   simpa using this
  have hd':xs.drop (i+1)=rest:=by
   have:=congrArg lO hd
   simpa[je] using this
  let(go,yl):=j2 p hi
  refine⟨go,λσ' H'=>∃ m',m'<rest.length+1/\W (i+1) m' σ' H',λσ' H' h=>h,λx H2 y=>?_⟩
  let(S2,s2,tr,rx):=yl x H2 y
  have I2:=tr _ _ _ _ I
  let(σ2,L2,g,q,I3,_):=uS ht I2 rx h
  refine g _ ⟨c,L2,S2,_,I3,q,λfl L3 q σ3 S3 H3 I4 s3=>?_⟩
  have ss:=s1.trans (s2.trans s3)
  cases fl with
  | next=>exact⟨_,f8 _,L3,S3,by rw[hd'],I4,ss,by rw[hd'];exact q⟩
  | cont=>exact⟨_,f8 _,L3,S3,by rw[hd'],I4,ss,by rw[hd'];exact q⟩
  | brk=>exact k .next L3 q σ3 S3 H3 I4 ss
  | ret v=>exact k (.ret v) L3 q σ3 S3 H3 I4 ss
theorem pM (G:Good X C n sp){body:List mX}(hc:(pE md' tg && !yp Z5)=true)(hi:FI X C md' ZY Z5 it)(hg:FG X ZY tg)(hb:Good X (C.wmd md') n sp->wA X (C.wmd md') fr body s):FS X C fr (.For ZY Z5 body [] pos) (sA it tg s):=by
 have hc:=b2 hc
 refine PS.imp (HQ (X:=X.nox) gZ G.calm hi hg (hb (G.wmd md')) (uT (nb hc.2))) λD σ H q1=>?_;let(c,L,S,Q0,I,h,k):=q1
 refine⟨c,L,S,_,I,h,λxs L1 q J c' S1 H1 I1 un e0 hJ s1=>?_⟩
 refine F8 I1 hJ hc.1 q λfl L2 q σ2 S2 H2 I2 s2=>?_
 have:=k fl L2 q σ2 S2 H2 (un _ _ _ _ I2) (s1.trans s2)
 cases fl with
 | next=>exact this
 | brk=>exact this
 | cont=>exact this
 | ret v =>
  intro x r
  refine this x ?_
  cases fr with
  | false=>exact r
  | true =>
   let(a,r1,r2,r3):=r
   exact⟨a,r1,r2,by rw[<- e0];exact r3⟩
theorem OX {body:List mX}(hc:FB X C a t)(hb:wA X C fr body s):FS X C fr (.While a body [] pos) (zl t s):=by
 refine PS.imp (C9 (X:=X.nox) gZ hc hb) λD σ H q1=>?_;let(c,L,S,Q0,I,(m,h),k):=q1
 refine⟨λm σ1 H1=>∃ L S1,Iv X.K c C.md L σ1 S1 H1/\Same S S1/\Bq t s m L Q0,⟨m,L,S,I,Same.refl S,h⟩,?_⟩
 rintro m σ1 H1 ⟨L,S1,I1,s1,h⟩
 cases m with
 | zero=>exact h.elim
 | succ m =>
  refine⟨c,L,S1,_,I1,h,λv L1 q S2 H2 I2 s2=>?_⟩
  cases v with
  | false =>
   rw[if_neg eB] at q ⊢
   exact k .next L1 q σ1 S2 H2 I2 (s1.trans s2)
  | true =>
   rw[if_pos rfl] at q ⊢
   refine⟨λσ' H'=>∃ m',m'<m+1/\∃ L S1,Iv X.K c C.md L σ' S1 H'/\Same S S1/\Bq t s m' L Q0,λσ' H' h=>h,c,L1,S2,_,I2,q,λfl L3 q σ3 S3 H3 I4 s3=>?_⟩
   have ss:=s1.trans (s2.trans s3)
   cases fl with
   | next=>exact⟨m,f8 _,L3,S3,I4,ss,q⟩
   | cont=>exact⟨m,f8 _,L3,S3,I4,ss,q⟩
   | brk=>exact k .next L3 q σ3 S3 H3 I4 ss
   | ret v=>exact k (.ret v) L3 q σ3 S3 H3 I4 ss
end
structure Df where
 name:String
 st:mX
 ps:List Str
 N:List Str
 md:Md
structure Fns where
 f:List Str
 ms:List (Str×m4×Str)
 fl:List (m4×Str)
def Df.cc (d:Df)(fns:Fns):CC:=⟨d.N,(nV d.st).names,fns.f,d.md,true,[],fns.ms,fns.fl⟩
def Li (io:Bool)(md:Md) (np:Nat):Bool:=(lK np).all λi=>decide (nq md i=if (io && decide (i=0))=true then .own else .imm)
def Df.ok (d:Df) (np ns:Nat)(io:Bool):Bool :=
 decide ((nV d.st).kind=.function) && !(nV d.st).isCoroutine && !(nV d.st).isGenerator && decide (d.N.Nodup) && decide (d.N.take d.ps.length=d.ps) && d.ps.all (λx=>decide ((nV d.st).names.lookup x=some .local ∨ (nV d.st).names.lookup x=some .cell)) &&
 (nV d.st).names.all (λp=>decide (p.2≠.free)) && decide (np=d.ps.length) && decide (ns=d.N.length) && Li io d.md np
def spT (K:kj)(tb:List FD)(call:CW) (f:Nat):Sp:=match tb[f]? with
 | some fd=>Ex K call fd.io fd.fr f
 | none=>λ_ _ _ _=>False
def Hr (tb:List FD)(call:CW)(K:kj):Nat->Sp:=spT K tb call
theorem Df.sc {d:Df}{np ns:Nat}{io:Bool}(h:d.ok np ns io=true):FnScope d.N d.ps (nV d.st)/\np=d.ps.length/\ns=d.N.length/\∀ i,i<np->nq d.md i=if (io && decide (i=0))=true then .own else .imm:=by
 have h0:=b2 h;have h1:=b2 h0.1;have h2:=b2 h1.1;have h3:=b2 h2.1;have h4:=b2 h3.1;have h5:=b2 h4.1;have h6:=b2 h5.1;have h7:=b2 h6.1;have h8:=b2 h7.1
 exact⟨⟨de h8.1,nb h8.2,nb h7.2,de h6.2,de h5.2,λx hx=>de (gB.mp h4.2 x hx),λy hy=>de (gB.mp h3.2 y hy)⟩,de h2.2,de h1.2,λi hi=>de (gB.mp h0.2 i (jh.mpr hi))⟩
section
variable {P:mm}{w:mL}{K:kj}{mg:Str->Option mM}{base:mY}{tb:List FD}{fns:Fns}
theorem ArgsOk.len {S H:Hp}{args:List FV}{vs:List V}{io:Bool}(h:ArgsOk K S H args vs io):args.length=vs.length:=by
 cases io with
 | false=>exact RVs.length h
 | true =>
  let(v,r,a,us,rfl,rfl,_,h):=h
  rw[gp,gp,h.length]
theorem DP {S H:Hp}{args:List FV}{vs:List V}{io:Bool}{md:Md}{N:List Str}{np ns:Nat}(h:ArgsOk K S H args vs io)(hs:Same S H)(hn:args.length=np)(hN:ns=N.length)(hm:∀ i,i<np->nq md i=if (io && decide (i=0))=true then .own else .imm) :
  Iv K ⟨H,S,w5 vs io,[],[],[]⟩ md (args.map some++jf (ns-np) none) (L2.start N vs) S H:=by
 have hl:=h.len
 have look:∀ i v,(args.map some++jf (ns-np) none)[i]?=some (some v)->args[i]?=some v/\i<np:=λi v e=>by
  by_cases hi:i<args.length
  ·rw[aP (by rw[iz];exact hi),fx] at e
   cases ea:args[i]? with
   | none=>rw[ea] at e;cases e
   | some q=>rw[ea] at e;cases e;exact⟨rfl,by lia⟩
  ·rw[aB (by rw[iz];lia),bu] at e
   split at e<;>cases e
 have st:∀ i,i<np->(L2.start N vs)[i]?=vs[i]?.map some:=λi hi=>by
  unfold L2.start
  rw[aP (by rw[iz];lia),fx]
 have own:∀ i v,nq md i≠.imm->(args.map some++jf (ns-np) none)[i]?=some (some v)->i=0/\io=true/\nq md 0=.own:=λi v hm' e=>by
  let(_,hi):=look i v e
  have:=hm i hi
  cases io with
  | false=>exact absurd (by simpa using this) hm'
  | true =>
   by_cases h0:i=0
   ·subst h0;exact⟨rfl,rfl,by simpa using this⟩
   ·exact absurd (by simpa[h0] using this) hm'
 have lent:∀ a,w5 vs io=some a->io=true/\0<np/\nq md 0=.own/\vs[0]?=some (.ref a)/\∃ v,args[0]?=some v/\OwnAt K S H a v:=λa e=>by
  cases io with
  | false=>cases e
  | true =>
   let(v,r,a',us,rfl,rfl,o,_):=h
   cases e
   have hp:0<np:=by rw[<- hn];exact Nat.succ_pos _
   exact⟨rfl,hp,by simpa using hm 0 hp,rfl,v,rfl,o⟩
 refine⟨?_,λi v hm' e=>?_,λi v hm' e=>?_,λi j v w a m1 m2 e1 e2 _ _=>?_,hs,λa o e _ _=>e,Same.refl S,λa o e=>.inl e,λa e=>?_,λp hp=>absurd hp gh,λi v hf e=>?_,λp hp=>absurd hp gh,λp hp=>absurd hp gh,λp hp=>absurd hp gh,λq hq=>absurd hq gh,λj i x C dx fs v h1 h2 h3 h4=>?_⟩
 ·unfold L2.start
  rw[dY,dY,iz,iz,cm,cm,hN]
  lia
 ·let(ea,hi):=look i v e
  rw[st i hi]
  cases io with
  | false =>
   let(x,e1,r):=RVs.get (show RVs K S args vs from h) ea
   exact⟨x,by rw[e1];rfl,r⟩
  | true =>
   let(v0,r,a',us,rfl,rfl,o,hr):=h
   cases i with
   | zero=>rw[show nq md 0=.own by simpa using hm 0 hi] at hm';cases hm'
   | succ i =>
    let(x,e1,r1):=RVs.get hr (by simpa using ea)
    exact⟨x,by simp[e1],r1⟩
 ·let(rfl,rfl,m0):=own i v hm' e
  let(ea,hi):=look 0 v e
  let(v0,r,a',us,rfl,rfl,o,hr):=h
  cases ea
  exact⟨a',by rw[st 0 hi];rfl,o,.inl rfl⟩
 ·rw[(own i v m1 e1).1,(own j w m2 e2).1]
 ·let(rfl,hp,m0,e1,v,ea,_):=lent a e
  refine⟨λz=>(nomatch (m0.symm.trans z)),by rw[st 0 hp,e1];rfl,v,?_⟩
  rw[aP (by rw[iz];lia),fx,ea];rfl
 ·have:=own i v (λz=>by rw[z] at hf;cases hf) e
  rw[this.1,this.2.2] at hf;cases hf
 ·have:=own j v (λz=>by rw[z] at h1;cases h1) h4
  rw[this.1,this.2.2] at h1;cases h1
theorem xj {d f:Nat}{fa:m4}{fdd:mh}{df:Df}{fd:FD}{nm qu:Str}(F:Fun K nm qu df.st fa fdd)(hf:tb[f]?=some fd)(hok:df.ok fd.np fd.ns fd.io=true)
  (hb:∀ X call n,Good X (df.cc fns) n (Hr tb call)->wA X (df.cc fns) fd.fr (oT df.st) (fd.body call))
  (fnsOk:∀ (f:Nat)(x:Str),fns.f[f]?=some x->∃ fa fd ps,mg x=some (.ref fa)/\ja K (.ref fa)=true/\Binds K fd ps []/\FnOk P w K mg base Ew d fa fd ps (spT K tb (callW tb d) f))
  (blt:∀ b∈bltNames,mg (ke b)=none)(mtsOk:∀ (k:Nat)(c:Str)(Ca:m4)(m:Str),fns.ms[k]?=some (c,Ca,m)->MtOk P w K mg base d (spT K tb (callW tb d) (fns.f.length+k)) c Ca m)(fl:∀ p∈fns.fl,Cls K p.1/\xE K p.1 p.2):FnOk P w K mg base Ew (d+1) fa fdd df.ps (spT K tb (callW tb (d+1)) f):=by
 let(S,hnp,hns,hmd):=Df.sc hok
 have e0:spT K tb (callW tb (d+1)) f=Ex K (callW tb (d+1)) fd.io fd.fr f:=by unfold spT;rw[hf]
 have run:∀ {args:List FV}{Q:FV×FV->Prop},callW tb (d+1) f args Q->args.length=fd.np/\fd.body (callW tb d) (args.map some++jf (fd.ns-fd.np) none) (vB fd.io fd.fr Q):=λ{args Q} h=>by
  have h:(match tb[f]? with
   | none=>False
   | some fd=>args.length=fd.np/\fd.body (callW tb d) (args.map some++jf (fd.ns-fd.np) none) (vB fd.io fd.fr Q)):=h
  rw[hf] at h;exact h
 rw[e0]
 refine F.ok S (λvs H Q E h=>?_) (λcdv A outer s H vs Q E hr h=>?_)
 ·let(S0,args,Q0,_,ao,hc,_):=h
  rw[<- ao.len,(run hc).1,hnp]
 ·let(S0,args,Q0,hs,ao,hc,k):=h
  let(hl,hc):=run hc
  have G:Good (zY Ew P w K mg base df.N qu (nV df.st) fa cdv A outer s H E) (df.cc fns) d (Hr tb (callW tb d)) :=
   ⟨rfl,rfl,S.kind,S.nd,rfl,λ_ _=>rfl,hr,fnsOk,blt,mtsOk,fl⟩
  refine⟨_,hb _ _ _ G,_,_,S0,_,DP ao hs hl hns hmd,hc,λfl L' q σ' S' H' I s'=>?_⟩
  have kp:∀ w,(fd.io=true->lk L' 0=some w)->Kept K S0 H S' H' (w5 vs fd.io) w:=λw hw=>⟨s',I.sub,I.grow,λa o e n=>I.frame a o e n (λ_=>gh),λa e=>by
   have hio:fd.io=true:=by
    cases z:fd.io with
    | true=>rfl
    | false=>rw[z] at e;cases e
   let(m0,e1,v,e2):=I.lent a e
   let(b,e3,o,_):=I.own 0 v m0 e2
   rw[e1] at e3;cases e3
   have:=(o8 _ _ _).mp (hw hio)
   rw[e2] at this;cases this
   exact o⟩
  have fin:∀ v x,vB fd.io fd.fr Q0 (.ret v) L'->Eu K S' H' H v x fd.fr->Q x H':=λv x q r=>by
   cases hio:fd.io with
   | true =>
    rw[hio] at q
    let(w,e1,q):=oE q
    exact k _ q x S' H' (kp w λ_=>e1) r
   | false =>
    rw[hio] at q
    exact k (v,.non) q x S' H' (kp .non λz=>by rw[hio] at z;cases z) r
  cases fl with
  | next =>
   cases hfr:fd.fr with
   | true=>rw[hfr] at q;exact q.elim
   | false=>rw[hfr] at q;exact fin .non .non (by rw[hfr];exact q) (by rw[hfr];exact rfl)
  | ret v =>
   intro x r
   refine fin v x q ?_
   cases hfr:fd.fr with
   | true=>rw[hfr] at r;exact r
   | false=>rw[hfr] at r;exact r
  | brk=>exact q.elim
  | cont=>exact q.elim
theorem Bj (blt:∀ b∈bltNames,mg (ke b)=none)(fl:∀ p∈fns.fl,Cls K p.1/\xE K p.1 p.2)
  (D:∀ (f:Nat)(x:Str),fns.f[f]?=some x->∃ df fd fa fdd,tb[f]?=some fd/\Df.ok df fd.np fd.ns fd.io=true/\(∀ X call n,Good X (df.cc fns) n (Hr tb call)->wA X (df.cc fns) fd.fr (oT df.st) (fd.body call))/\Fun K (ke df.name) (ke df.name) df.st fa fdd/\mg x=some (.ref fa)/\Binds K fdd df.ps [])
  (DM:∀ (k:Nat)(c:Str)(Ca:m4)(m:Str),fns.ms[k]?=some (c,Ca,m)->∃ df fd fa fdd nm qu,tb[fns.f.length+k]?=some fd/\Df.ok df fd.np fd.ns fd.io=true/\(∀ X call n,Good X (df.cc fns) n (Hr tb call)->wA X (df.cc fns) fd.fr (oT df.st) (fd.body call))/\Fun K nm qu df.st fa fdd/\mg c=some (.ref Ca)/\Cls K Ca/\(m=("__init__":Str)->Mk K Ca fa)/\(m≠("__init__":Str)->Meth K Ca m fa)/\Binds K fdd df.ps []) :
  ∀ d:Nat,(∀ (f:Nat)(x:Str),fns.f[f]?=some x->∃ fa fd ps,mg x=some (.ref fa)/\ja K (.ref fa)=true/\Binds K fd ps []/\FnOk P w K mg base Ew d fa fd ps (spT K tb (callW tb d) f))/\∀ (k:Nat)(c:Str)(Ca:m4)(m:Str),fns.ms[k]?=some (c,Ca,m)->MtOk P w K mg base d (spT K tb (callW tb d) (fns.f.length+k)) c Ca m
 | 0=>by
  have no:∀ {f fd} vs H Q E,tb[f]?=some fd->¬ spT K tb (callW tb 0) f vs H Q E:=λvs H Q E h1 z=>by
   unfold spT at z
   rw[h1] at z
   let(_,_,_,_,_,k,_):=z
   exact k
  refine⟨λf x h=>?_,λk c Ca m h=>?_⟩
  ·let(df,fd,fa,fdd,h1,h2,h6,h3,h4,h5):=D f x h
   exact⟨fa,fdd,df.ps,h4,h3.kp,h5,λvs H Q E z=>absurd z (no vs H Q E h1),λA outer s H args us vs Q E _ _ _ _ z=>absurd z (no vs H Q E h1)⟩
  ·let(df,fd,fa,fdd,nm,qu,h1,h2,h6,h3,h4,h5,h7,h8,h9):=DM k c Ca m h
   exact⟨fa,fdd,df.ps,h4,h5,h7,h8,h9,λvs H Q E z=>absurd z (no vs H Q E h1),λA outer s H args us vs Q E _ _ _ _ z=>absurd z (no vs H Q E h1)⟩
 | d+1=>by
  let(r1,r2):=Bj blt fl D DM d
  refine⟨λf x h=>?_,λk c Ca m h=>?_⟩
  ·let(df,fd,fa,fdd,h1,h2,h6,h3,h4,h5):=D f x h
   exact⟨fa,fdd,df.ps,h4,h3.kp,h5,xj h3 h1 h2 h6 r1 blt r2 fl⟩
  ·let(df,fd,fa,fdd,nm,qu,h1,h2,h6,h3,h4,h5,h7,h8,h9):=DM k c Ca m h
   exact⟨fa,fdd,df.ps,h4,h5,h7,h8,h9,xj h3 h1 h2 h6 r1 blt r2 fl⟩
theorem law_sp {d f:Nat}{H:Hp}{a:m4}{ns:List Int}{fd:FD}(hf:tb[f]?=some fd)(hio:fd.io=false)(hfr:fd.fr=false)(hO:GM H)(hS:SqL K H a (ns.map V.int))(h:callW tb d f [.scr ns] λz=>z.1=.bl true) :
  spT K tb (callW tb d) f [.ref a] H (λv _=>v=.bl true) λ_ _ _=>False:=by
 have e0:spT K tb (callW tb d) f=Ex K (callW tb d) false false f:=by unfold spT;rw[hf];show Ex K (callW tb d) fd.io fd.fr f=_;rw[hio,hfr]
 rw[e0]
 refine⟨H,[.scr ns],_,Same.refl H,RVs.one ⟨a,rfl,?_⟩,h,λz e x S' H' _ r=>?_⟩
 ·rcases hS with (h|⟨o,h⟩)|h
  ·rcases hO a with z|⟨o,xs,z⟩
   ·rw[z] at h;cases h
   ·rw[z] at h;cases h
  ·exact .inl ⟨o,h⟩
  ·exact .inr (.inr h)
 ·have r:RV K S' z.1 x:=r
  rw[e] at r;exact r
end
def EachI {α:Type}(P:Nat->α->Prop):Nat->List α->Prop
 | _,[]=>True
 | i,x :: xs=>P i x/\EachI P (i+1) xs
theorem EachI.get {α:Type}{P:Nat->α->Prop}:∀ {xs:List α}{k:Nat},EachI P k xs->∀ (f:Nat)(x:α),xs[f]?=some x->P (k+f) x
 | _ :: _,_,h,0,x,e=>(hW e) ▸ h.1
 | _ :: xs,k,h,f+1,x,e=>by
  have:=EachI.get h.2 f x e
  rw[jL,Nat.add_comm 1 f] at this
  exact this
theorem MP {P:List mM->Prop}{us:List mM}{n:Nat}(h:us.length=n+1)(H:∀ a r,r.length=n->P (a :: r)):P us:=by
 cases us with
 | nil=>cases h
 | cons a r=>exact H a r (Nat.succ.inj h)
theorem Kv {P:List mM->Prop}{us:List mM}(h:us.length=1)(H:∀ a,P [a]):P us:=MP h λa r hr=>by rw[List.length_eq_zero_iff.mp hr];exact H a
theorem ud {P:List mM->Prop}{us:List mM}(h:us.length=2)(H:∀ a b,P [a,b]):P us:=MP h λa r hr=>Kv (P:=λr=>P (a :: r)) hr λb=>H a b
theorem GO {P:List mM->Prop}{us:List mM}(h:us.length=3)(H:∀ a b c,P [a,b,c]):P us:=MP h λa r hr=>ud (P:=λr=>P (a :: r)) hr λb c=>H a b c
theorem Og {P:List mM->Prop}{us:List mM}(h:us.length=4)(H:∀ a b c d,P [a,b,c,d]):P us:=MP h λa r hr=>GO (P:=λr=>P (a :: r)) hr λb c d=>H a b c d
end Kq
namespace Kq
open PySem PySem.Spec PySem.Calls PyProof.Rows L2 PySem.W
theorem uE:∀ {K:mZ}{a:m4}{o:Obj},K.lookup a=some o->(a,o)∈K
 | [],a,o,h=>by simp at h
 | (b,u) :: K,a,o,h=>by
  rw[gj] at h
  split at h
  ·rename_i e;cases h;rw[beq_iff_eq.mp e];exact dX
  ·exact cM _ (uE h)
theorem BS {K:mZ}{a:m4}{o:Obj}(h:(a,o)∈K):∃ u,K.lookup a=some u:=by
 induction K with
 | nil=>exact absurd h gh
 | cons p K ih =>
  let(b,u):=p
  rw[gj]
  split
  ·exact⟨_,rfl⟩
  ·rename_i e
   rcases jP.mp h with z|z
   ·rw[(Prod.mk.inj z).1,beq_self_eq_true] at e;cases e
   ·exact ih z
def AllIn (K:mZ)(h:mY):Prop:=∀ p∈K,h.get? p.1=some p.2
theorem AllIn.to {K:mZ}{h:mY}(x:AllIn K h):K.In h:=λa o e=>x _ (uE e)
theorem AllIn.look {K:mZ}{h:mY}(x:AllIn K h){a:m4}{o:Obj}(m:(a,o)∈K):K.lookup a=some o:=by
 let(u,e):=BS m
 have h1:=x _ (uE e)
 rw[show h.get? a=some o from x _ m] at h1
 cases h1;exact e
def CIn (K:mZ)(cd:mM)(q:Str):Prop:=∃ c oc vs t,cd=.ref c/\(c,oc)∈K/\oc.data=.fields vs/\vs[1]?=some (.str q t)
def DIn (K:mZ)(mg:Str->Option mM)(d:mJ):Prop:=∃ fa o pm cd doc,mg d.name=some (.ref fa)/\(fa,o)∈K/\o.data=.func (docDef d.name d.params d.body d.scope pm cd doc)/\CIn K cd d.name
theorem DIn.more {K K':mZ}{mg:Str->Option mM}{d:mJ}(s:∀ p∈K,p∈K')(x:DIn K mg d):DIn K' mg d:=by
 let(fa,o,pm,cd,doc,h1,h2,h3,c,oc,vs,t,h4,h5,h6):=x
 exact⟨fa,o,pm,cd,doc,h1,s _ h2,h3,c,oc,vs,t,h4,s _ h5,h6⟩
theorem A4 {q:mm}{loose:List Str}{mean:ExcName->Option mM}{mg mb:Str->Option mM}{h:mY}(T:Top q loose mean mg mb h):∀ ds:List mJ,(∀ d∈ds,d∈recsOf q)->∃ K:mZ,AllIn K h/\∀ d∈ds,DIn K mg d
 | [],_=>⟨[],λ_ m=>absurd m gh,λ_ m=>absurd m gh⟩
 | d :: ds,hm=>by
  let(K,h1,h2):=A4 T ds λe m=>hm e (cM _ m)
  let(a,o,pm,cd,doc,g1,g2,g3,c,oc,vs,t,g4,g5,g6):=T.fn d (hm d dX)
  refine⟨(a,o) :: (c,oc) :: K,λp m=>?_,λe m=>?_⟩
  ·rcases jP.mp m with z|z
   ·cases z;exact g2
   ·rcases jP.mp z with z|z
    ·cases z;exact g5
    ·exact h1 p z
  ·rcases jP.mp m with z|z
   ·cases z
    exact⟨a,o,pm,cd,doc,g1,dX,g3,c,oc,vs,t,g4,cM _ dX,g6⟩
   ·exact (h2 e z).more λp m=>cM _ (cM _ m)
theorem DIn.fn {K:mZ}{h:mY}(A:AllIn K h){mg:Str->Option mM}{x:Str}{st:mX}{pos:Pos}(D:DIn K mg ⟨x,rE st,oT st,nV st,pos⟩):∃ fa fd,mg x=some (.ref fa)/\Fun K x x st fa fd:=by
 let(fa,o,pm,cd,doc,h1,h2,h3,c,oc,vs,t,rfl,h5,h6,h7):=D
 have l:=A.look h2
 have lc:=A.look h5
 let(k1,k2,k3,k4):=o
 let(j1,j2,j3,j4):=oc
 cases h3;cases h6
 refine⟨fa,_,h1,IH (kV:=.none) (doc:=doc) (pm:=pm) (an:=none) (cdv:=.ref c) (ct:=.none) l ?_ ?_⟩
 ·show (match K.lookup c with|some ⟨_,_,.fields vs,_⟩=>_|_=>_)=true
  rw[lc]
  let⟨l⟩:=vs
  match l,h7 with
  | [],h7=>simp at h7
  | [a],h7=>simp at h7
  | a :: b :: r,h7 =>
   simp at h7;subst h7
   exact beq_self_eq_true _
 ·show (match K.lookup fa with|some ⟨_,_,.func _,_⟩=>true|some ⟨_,_,.cls _,_⟩=>_|_=>false)=true
  rw[l]
theorem F7 {q:mm}{loose:List Str}{mean:ExcName->Option mM}{mg mb:Str->Option mM}{h:mY}(T:Top q loose mean mg mb h){x:Str}(e:freeIn q loose x=true):mg x=none:=by
 unfold freeIn at e
 simp only[gG,fJ,List.contains_eq_mem,decide_eq_false_iff_not] at e
 exact T.free x e.1.1.1.1 e.1.1.1.2 e.1.1.2 e.1.2 e.2
theorem walk2 {l:mn}{n k:Nat}{q:mm}{XP:(Str->Option mM)->mY->Prop}{YP:mL->mY->Prop}{d:mJ}{ds:List mJ}{x:Str}{sp:mZ->Sp}
  (hn:l.most=some n)(hn2:n<=sizeLine)(hdf:d.params.defaults=[])(hr:Room k callerA)(hds:ds=recsOf q)(hfree:(bltNames.all λb=>freeIn q (looseW q []) (ke b))=true)
  (F:∀ (w:mL)(K:mZ)(mg:Str->Option mM)(fa:m4)(h:mY),AllIn K h->(∀ d∈ds,DIn K mg d)->(∀ b∈bltNames,mg (ke b)=none)->mg d.name=some (.ref fa) ->
   ∃ fd:mh,(∀ (s:mD)(u:mM),mz s fd ⟨[u],[]⟩ [(x,u)])/\∀ base:mY,FnOk l.prog w K mg base Ew k fa fd [x] (sp K))
  (hsp:∀ (K:mZ)(H:Hp)(a:m4)(ns:List Int),ns.length<=n->GM H->SqL K H a (ns.map V.int)->sp K [.ref a] H (λv _=>v=.bl true) λ_ _ _=>False) :
  WalkO q [] XP YP l.row.toRowW d [] (λf vs=>lE f vs):=by
 refine Att.attach_call hn hdf λw s₀ s₁ mg mb fa o pm cd doc a vs ns G Y ho hd hcd hmg hobj hints hlen hg=>?_
 let(K,hK,hD):=A4 G.T ds λd m=>hds ▸ m
 let(fd,hb,hF):=F w K mg fa _ hK hD (λb hb=>F7 G.T (gB.mp hfree b hb)) hmg
 exact DN hK.to G.T.g G.T.b G.T.builtins G.T.nolimit hg hobj hints (kA hlen hn2) hr (λbase _ _=>hF base) hb (λH hO hS=>hsp K H a ns hlen hO hS) λH e s' z=>z
theorem row_holds {l:mn}{q:mm}{d:mJ}{N:Nat}(said:l.wellSaid=true)(left:LeftO l.prog q [] (λs=>xlAt q [] s && recOk (RowW.records l.row.toRowW) s) (λ_=>()) (λ_=>()) N)
  (hdef:defOf q l.name=some (d,[]))(hp:l.prog.theDef l.name=some (d.params,d.body,d.scope))(hk:kwWritten? d.params.kwonlyargs d.params.kw_defaults=some [])(hwr:(!l.writes || l.row.records.isEmpty)=true)
  (ok:(chainsOk q && opensWell l.prog && (frees l.row.toRowW && l.row.within.isEmpty))=true)(hb:l.prog.bare)(hw:l.row.toRowW.promised)
  (call:WalkO q [] (XL q []) (λ_ _=>True) l.row.toRowW d [] λf vs=>lE f vs):l.Holds :=
 holds_law said λk1=>holds_open (r:=l.row) left (λ_ _ _=>trivial) (λ_ _ _ _ _=>trivial) (λs e=>xl_of s (cU.mp e).1) XL.keeps hdef hp hk (λs e=>recFacts_of (cU.mp e).2) hwr k1 ok hb hw call
end Kq
set_option maxHeartbeats 1000000
namespace Kq
@[scoped simp ↓] theorem nT {α:Type}(x:α)(Q:α->Prop):wp (some x) Q=Q x:=propext mx
@[scoped simp ↓] theorem MO {α:Type}(Q:α->Prop):wp (none:Option α) Q=False:=propext mx
theorem pC {α β:Type}(r:Option α)(f:α->Option β)(Q:β->Prop):wp (r.bind f) Q↔wp r (λx=>wp (f x) Q):=by cases r<;>rfl
@[scoped simp ↓] theorem pB {α β:Type}(r:Option α)(f:α->β)(Q:β->Prop):wp (r.map f) Q↔wp r (λx=>Q (f x)):=by cases r<;>rfl
@[scoped simp ↓] theorem pK {α:Type}(c:Prop) [Decidable c] (a:α)(Q:α->Prop):wp (if c then some a else none) Q↔c/\Q a:=by
 by_cases h:c<;>simp[h]
@[scoped simp ↓] theorem Go (i:Nat)(L:m7)(Q:FV->m7->Prop):m5 i L Q=(wp (lk L i) λx=>Q x L):=propext mx
@[scoped simp ↓] theorem eC_eq (v:FV)(L:m7)(Q:FV->m7->Prop):eC v L Q=(Q v L):=propext mx
@[scoped simp ↓] theorem Jr (f:FV->Option FV)(a:EW)(L:m7)(Q:FV->m7->Prop):oh f a L Q=(a L λx L1=>wp (f x) λz=>Q z L1):=propext mx
@[scoped simp ↓] theorem Qc (f:FV->FV->Option FV)(a b:EW)(L:m7)(Q:FV->m7->Prop):nh f a b L Q=(a L λx L1=>b L1 λy L2=>wp (f x y) λz=>Q z L2):=propext mx
@[scoped simp ↓] theorem NW (f:FV->FV->Option FV) (i:Nat)(b:EW)(L:m7)(Q:FV->m7->Prop):pU f i b L Q=(wp (lk L i) λ_=>b L λy L1=>wp (lk L1 i) λx=>wp (f x y) λz=>Q z L1):=propext mx
@[scoped simp ↓] theorem NY (a b:EW)(L:m7)(Q:FV->m7->Prop):Ju a b L Q=(a L λx L1=>wp (tN x) λr=>if r=true then b L1 Q else Q x L1):=propext mx
@[scoped simp ↓] theorem Qa (a b:EW)(L:m7)(Q:FV->m7->Prop):Qb a b L Q=(a L λx L1=>wp (tN x) λr=>if r=true then Q x L1 else b L1 Q):=propext mx
@[scoped simp ↓] theorem Qd (c:BW)(a b:EW)(L:m7)(Q:FV->m7->Prop):Ki c a b L Q=(c L λr L1=>if r=true then a L1 Q else b L1 Q):=propext mx
@[scoped simp ↓] theorem N4 (a:EW)(L:m7)(Q:Bool->m7->Prop):nL a L Q=(a L λx L1=>wp (tN x) λb=>Q b L1):=propext mx
@[scoped simp ↓] theorem N6 (a b:BW)(L:m7)(Q:Bool->m7->Prop):Cj a b L Q=(a L λr L1=>if r=true then b L1 Q else Q false L1):=propext mx
@[scoped simp ↓] theorem Rg (a b:BW)(L:m7)(Q:Bool->m7->Prop):Ko a b L Q=(a L λr L1=>if r=true then Q true L1 else b L1 Q):=propext mx
@[scoped simp ↓] theorem N5 (a:BW)(L:m7)(Q:Bool->m7->Prop):GE a L Q=(a L λr L1=>Q (!r) L1):=propext mx
@[scoped simp ↓] theorem Ms (L:m7)(Q:Bool->m7->Prop):nR  L Q=(Q true L):=propext mx
@[scoped simp ↓] theorem Oa (L:m7)(Q:List FV->m7->Prop):m9  L Q=(Q [] L):=propext mx
@[scoped simp ↓] theorem Mt (a:EW)(r:AW)(L:m7)(Q:List FV->m7->Prop):m6 a r L Q=(a L λx L1=>r L1 λxs L2=>Q (x :: xs) L2):=propext mx
@[scoped simp ↓] theorem NT (a:AW)(L:m7)(Q:FV->m7->Prop):oQ a L Q=(a L λxs L1=>xs.length<=big/\Q (.tup xs) L1):=propext mx
@[scoped simp ↓] theorem NX (a:AW)(L:m7)(Q:FV->m7->Prop):qg a L Q=(a L λxs L1=>xs.length<=big/\Q (.lst xs) L1):=propext mx
@[scoped simp ↓] theorem Lr (L:m7)(Q:Option Int->m7->Prop):ux  L Q=(Q none L):=propext mx
@[scoped simp ↓] theorem Lq (a:EW)(L:m7)(Q:Option Int->m7->Prop):qr a L Q=(a L λx L1=>wp (o9 x) λi=>Q (some i) L1):=propext mx
@[scoped simp ↓] theorem P9 (a:EW)(l h:OW)(L:m7)(Q:FV->m7->Prop):Gq a l h L Q=(a L λx L1=>l L1 λi L2=>h L2 λj L3=>wp (qT x i j) λz=>Q z L3):=propext mx
@[scoped simp ↓] theorem NU (k:Nat)(l h:OW)(L:m7)(Q:FV->m7->Prop):Gp k l h L Q=(wp (lk L k) λ_=>l L λi L2=>h L2 λj L3=>wp (lk L3 k) λx=>wp (qT x i j) λz=>Q z L3):=propext mx
@[scoped simp ↓] theorem Mi (call:CW) (f:Nat)(a:AW)(L:m7)(Q:FV->m7->Prop):nF call f a L Q=(a L λxs L1=>call f xs λz=>Q z.1 L1):=propext mx
@[scoped simp ↓] theorem Km (call:CW) (f i:Nat)(a:AW)(L:m7)(Q:FV->m7->Prop):nH call f i a L Q=(wp (lk L i) λ_=>a L λxs L1=>wp (lk L1 i) λx=>call f (x :: xs) λz=>Q z.1 (L1.set i (some z.2))):=propext mx
@[scoped simp ↓] theorem Mf (f:FV->FV->Option FV) (i:Nat)(a:EW)(L:m7)(Q:FV->m7->Prop):sN f i a L Q=(wp (lk L i) λv=>wp (tQ v) λ_=>a L λy L1=>wp (lk L1 i) λx=>wp (f x y) λz=>Q .non (L1.set i (some z))):=propext mx
@[scoped simp ↓] theorem Nd (a:EW)(L:m7)(Q:List FV->m7->Prop):tS a L Q=(a L λx L1=>wp (oG x) λxs=>Q xs L1):=propext mx
@[scoped simp ↓] theorem Nf (a:EW)(L:m7)(Q:List FV->m7->Prop):rL a L Q=(a L λx L1=>wp (o9 x) λj=>ou j=true/\Q (tU 0 j.toNat) L1):=propext mx
@[scoped simp ↓] theorem LJ (a b:EW)(L:m7)(Q:List FV->m7->Prop):iRng2 a b L Q=(a L λx L1=>b L1 λy L2=>wp (o9 x) λi=>wp (o9 y) λj=>(ou i && ou j)=true/\Q (tU i (j-i).toNat) L2):=propext mx
@[scoped simp ↓] theorem Nc (a b:EW)(L:m7)(Q:List FV->m7->Prop):IE a b L Q=(a L λx L1=>b L1 λy L2=>wp (oG x) λxs=>wp (oG y) λys=>Q (pY xs ys) L2):=propext mx
@[scoped simp ↓] theorem LM (a:EW)(L:m7)(Q:List FV->m7->Prop):AL a L Q=(a L λx L1=>wp (oG x) λxs=>Q (pY (tU 0 xs.length) xs) L1):=propext mx
@[scoped simp ↓] theorem Mh (n m:Nat)(it:AW)(tg:Tg)(t:BW)(e:EW)(L:m7)(Q:FV->m7->Prop):oD n m it tg t e L Q=(it L λxs L1=>L1.length=n/\xs.length<=big/\pR n m tg t e xs [] L1 λys L2=>Q (.lst ys) L2):=propext mx
@[scoped simp ↓] theorem MV (L:m7)(Q:FFl->m7->Prop):oN  L Q=(Q .next L):=propext mx
@[scoped simp ↓] theorem MT (s r:SW)(L:m7)(Q:FFl->m7->Prop):nj s r L Q=(s L (N7 (λL1=>r L1 Q) Q)):=propext mx
@[scoped simp ↓] theorem M4 (e:EW)(tg:Tg)(L:m7)(Q:FFl->m7->Prop):nB e tg L Q=(e L λx L1=>gW tg x L1 λL2=>Q .next L2):=propext mx
@[scoped simp ↓] theorem ES (k:Nat)(i e:EW)(L:m7)(Q:FFl->m7->Prop):BA k i e L Q=(wp (lk L k) λ_=>e L λx L1=>i L1 λj L2=>wp (lk L2 k) λy=>wp (Hv y j x) λz=>Q .next (L2.set k (some z))):=propext mx
@[scoped simp ↓] theorem M3 (f:FV->FV->Option FV) (i:Nat)(e:EW)(L:m7)(Q:FFl->m7->Prop):CV f i e L Q=(wp (lk L i) λa=>e L λx L1=>wp (f a x) λz=>Q .next (L1.set i (some z))):=propext mx
@[scoped simp ↓] theorem MU (e:EW)(L:m7)(Q:FFl->m7->Prop):nO e L Q=(e L λx L1=>Q (.ret x) L1):=propext mx
@[scoped simp ↓] theorem MZ (e:EW)(L:m7)(Q:FFl->m7->Prop):vw e L Q=(e L λ_ L1=>Q .next L1):=propext mx
@[scoped simp ↓] theorem OA (c:BW)(a b:SW)(L:m7)(Q:FFl->m7->Prop):qL c a b L Q=(c L λr L1=>if r=true then a L1 Q else b L1 Q):=propext mx
@[scoped simp ↓] theorem MY (it:AW)(tg:Tg)(b:SW)(L:m7)(Q:FFl->m7->Prop):sA it tg b L Q=(it L λxs L1=>zK tg b xs L1 Q):=propext mx
@[scoped simp ↓] theorem MS (c:BW)(b:SW)(L:m7)(Q:FFl->m7->Prop):zl c b L Q=(∃ n,Bq c b n L Q):=propext mx
@[scoped simp ↓] theorem LD (x:Option FV)(L:m7)(Q:FV->Prop):wp (lk (x :: L) 0) Q=wp x Q:=propext mx
@[scoped simp ↓] theorem LF (x:Option FV)(L:m7) (n:Nat)(Q:FV->Prop):wp (lk (x :: L) (n+1)) Q=wp (lk L n) Q:=propext mx
@[scoped simp ↓] theorem gw_nm (i:Nat)(v:FV)(L:m7)(Q:m7->Prop):gW (.nm i) v L Q=Q (L.set i (some v)):=propext mx
@[scoped simp ↓] theorem gw_tp (is:List Nat)(v:FV)(L:m7)(Q:m7->Prop):gW (.tp is) v L Q=wp (qp v) λxs=>wp (sv L is xs) Q:=propext mx
@[scoped simp ↓] theorem gw_tn (i:Nat)(is:List Nat)(v:FV)(L:m7)(Q:m7->Prop):gW (.tn i is) v L Q=wp (qp v) λxs=>wp (Dq xs) λp=>wp (qp p.2) λys=>wp (sv (L.set i (some p.1)) is ys) Q:=propext mx
@[scoped simp ↓] theorem pr_2 (a b:FV)(Q:FV×FV->Prop):wp (Dq [a,b]) Q=Q (a,b):=propext mx
@[scoped simp ↓] theorem sa_n (L:m7)(Q:m7->Prop):wp (sv L [] []) Q=Q L:=propext mx
@[scoped simp ↓] theorem sa_c (L:m7) (i:Nat)(is:List Nat)(v:FV)(vs:List FV)(Q:m7->Prop):wp (sv L (i :: is) (v :: vs)) Q=wp (sv (L.set i (some v)) is vs) Q:=propext mx
section
variable (L:m7)(k:m7->Prop)(Q:FFl->m7->Prop)
@[scoped simp ↓] theorem N8:N7 k Q .next L=k L:=propext mx
@[scoped simp ↓] theorem Rj (v:FV):N7 k Q (.ret v) L=Q (.ret v) L:=propext mx
@[scoped simp ↓] theorem tq_n:ue k Q .next L=k L:=propext mx
@[scoped simp ↓] theorem tq_r (v:FV):ue k Q (.ret v) L=Q (.ret v) L:=propext mx
end
@[scoped simp ↓] theorem en_rt (fr:Bool)(Q:FV×FV->Prop)(v:FV)(L:m7):vB true fr Q (.ret v) L=wp (lk L 0) λx=>Q (v,x):=propext mx
@[scoped simp ↓] theorem en_rf (fr:Bool)(Q:FV×FV->Prop)(v:FV)(L:m7):vB false fr Q (.ret v) L=Q (v,.non):=propext mx
section
variable (Q:FV->Prop)(B:Bool->Prop)(i j:Int)
@[scoped simp ↓] theorem Oj (b:Bool):wp (tN (.bl b)) B=B b:=propext mx
@[scoped simp ↓] theorem tr_l (xs:List FV):wp (tN (.lst xs)) B=B (!xs.isEmpty):=propext mx
@[scoped simp ↓] theorem in_i (Q:Int->Prop):wp (o9 (.int i)) Q=Q i:=propext mx
@[scoped simp ↓] theorem tp_t (xs:List FV)(Q:List FV->Prop):wp (qp (.tup xs)) Q=Q xs:=propext mx
@[scoped simp ↓] theorem ls_l (xs:List FV)(Q:List FV->Prop):wp (tQ (.lst xs)) Q=Q xs:=propext mx
@[scoped simp ↓] theorem sq_t (xs:List FV)(Q:List FV->Prop):wp (oG (.tup xs)) Q=Q xs:=propext mx
@[scoped simp ↓] theorem sq_l (xs:List FV)(Q:List FV->Prop):wp (oG (.lst xs)) Q=Q xs:=propext mx
@[scoped simp ↓] theorem sq_s (ns:List Int)(Q:List FV->Prop):wp (oG (.scr ns)) Q=Q (ns.map .int):=propext mx
@[scoped simp ↓] theorem OL (xs:List FV)(Q:List FV->Prop):wp (pP (.lst xs)) Q=Q xs:=propext mx
@[scoped simp ↓] theorem b_add:wp (nJ (.int i) (.int j)) Q=Q (.int (i+j)):=propext mx
@[scoped simp ↓] theorem b_sub:wp (rJ (.int i) (.int j)) Q=Q (.int (i-j)):=propext mx
@[scoped simp ↓] theorem b_mul:wp (qt (.int i) (.int j)) Q↔(small i || small j)=true/\Q (.int (i*j)):=pK _ _ _
@[scoped simp ↓] theorem Rb:wp (tI (.int i) (.int j)) Q↔(0<j/\j<1073741824)/\Q (.int (i / j)):=pK _ _ _
@[scoped simp ↓] theorem b_mod:wp (tP (.int i) (.int j)) Q↔0<j/\Q (.int (i % j)):=pK _ _ _
@[scoped simp ↓] theorem b_pow:wp (wQ (.int i) (.int j)) Q↔(0<=j/\j<=1000/\small i=true)/\Q (.int (i ^ j.toNat)):=pK _ _ _
@[scoped simp ↓] theorem Re (xs ys:List FV):wp (nJ (.tup xs) (.tup ys)) Q↔xs.length+ys.length<=big/\Q (.tup (xs++ys)):=pK _ _ _
@[scoped simp ↓] theorem Rf (xs ys:List FV):wp (nJ (.lst xs) (.lst ys)) Q↔xs.length+ys.length<=big/\Q (.lst (xs++ys)):=pK _ _ _
@[scoped simp ↓] theorem b_rep (xs:List FV) (k:Int):wp (qt (.lst xs) (.int k)) Q↔(-(2 ^ 63)<=k/\k<2 ^ 63/\xs.length*k.toNat<=big)/\Q (.lst (jf k.toNat xs).flatten):=pK _ _ _
@[scoped simp ↓] theorem M7 {f:FV->FV->Option FV}(v w:FV):wp (qj f v w) Q↔wp (f v w) λz=>wp (tQ z) λxs=>Q (.lst xs):=by unfold qj;rw[pC];simp only[pB]
@[scoped simp ↓] theorem k_eq (a b:FV):wp (tJ a b) Q↔wp (xk a b) λr=>Q (.bl r):=pB _ _ _
@[scoped simp ↓] theorem k_ne (a b:FV):wp (Cp a b) Q↔wp (xk a b) λr=>Q (.bl (!r)):=pB _ _ _
@[scoped simp ↓] theorem k_lt:wp (Fu (.int i) (.int j)) Q=Q (.bl (decide (i<j))):=propext mx
@[scoped simp ↓] theorem k_le:wp (Ey (.int i) (.int j)) Q=Q (.bl (decide (i<=j))):=propext mx
@[scoped simp ↓] theorem k_gt:wp (Kf (.int i) (.int j)) Q=Q (.bl (decide (j<i))):=propext mx
@[scoped simp ↓] theorem k_ge:wp (Ni (.int i) (.int j)) Q=Q (.bl (decide (j<=i))):=propext mx
@[scoped simp ↓] theorem e_ii:wp (xk (.int i) (.int j)) B=B (i == j):=propext mx
@[scoped simp ↓] theorem e_ss (a b:String):wp (xk (.str a) (.str b)) B=B (a == b):=propext mx
@[scoped simp ↓] theorem e_sh (d:D):wp (xk (.shn d) (.shn d)) B=B true:=by rw[show xk (.shn d) (.shn d) = @ite _ (d=d) (bx _) (some true) none from rfl,if_pos rfl];rfl
@[scoped simp ↓] theorem ix_eq (v:FV):wp (nY v (.int i)) Q↔wp (oG v) λxs=>wp (tM xs i) Q:=by
 show wp ((oG v).bind _) Q↔_;rw[pC]
@[scoped simp ↓] theorem f_min:wp (x6 (.int i) (.int j)) Q=Q (.int (if j<i then j else i)):=propext mx
@[scoped simp ↓] theorem f_max:wp (Az (.int i) (.int j)) Q=Q (.int (if j > i then j else i)):=propext mx
@[scoped simp ↓] theorem f_neg:wp (wT (.int i)) Q=Q (.int (-i)):=propext mx
@[scoped simp ↓] theorem f_len (v:FV):wp (pS v) Q↔wp (oG v) λxs=>Q (.int xs.length):=pB _ _ _
@[scoped simp ↓] theorem f_abs:wp (Er (.int i)) Q=Q (.int (if i<0 then -i else i)):=propext mx
@[scoped simp ↓] theorem P4 (b:Bool):wp (ug (.bl b)) Q=Q (.int (if b then 1 else 0)):=propext mx
@[scoped simp ↓] theorem f_all (v:FV):wp (GK v) Q↔wp (pP v) λxs=>wp (sj xs) λbs=>Q (.bl (bs.all id)):=by
 show wp ((pP v).bind _) Q↔_;rw[pC];simp only[pB]
@[scoped simp ↓] theorem Jn (v:FV):wp (x5 v) Q↔wp (pP v) λxs=>wp (BR xs) Q:=pC _ _ _
@[scoped simp ↓] theorem NR (v:FV):wp (oZ v) Q↔wp (oG v) λxs=>Q (.tup xs):=pB _ _ _
@[scoped simp ↓] theorem f_isi (t:Ty)(v:FV):wp (FQ t v) Q↔wp (sJ v t) λb=>Q (.bl b):=pB _ _ _
@[scoped simp ↓] theorem iN_n:wp (pT .non) Q=Q (.bl true):=propext mx
@[scoped simp ↓] theorem iN_i:wp (pT (.int i)) Q=Q (.bl false):=propext mx
@[scoped simp ↓] theorem nN_n:wp (ph .non) Q=Q (.bl false):=propext mx
@[scoped simp ↓] theorem nN_i:wp (ph (.int i)) Q=Q (.bl true):=propext mx
@[scoped simp ↓] theorem nN_t (xs:List FV):wp (ph (.tup xs)) Q=Q (.bl true):=propext mx
@[scoped simp ↓] theorem m_app (xs:List FV)(v:FV):wp (xD (.lst xs) v) Q↔xs.length<big/\Q (.lst (xs++[v])):=pK _ _ _
@[scoped simp ↓] theorem s_t (xs:List FV)(lo hi:Option Int):wp (qT (.tup xs) lo hi) Q=Q (.tup (qh xs lo hi)):=propext mx
@[scoped simp ↓] theorem s_l (xs:List FV)(lo hi:Option Int):wp (qT (.lst xs) lo hi) Q=Q (.lst (qh xs lo hi)):=propext mx
@[scoped simp ↓] theorem st_l (xs:List FV)(v:FV):wp (Hv (.lst xs) (.int j) v) Q↔wp (ixN xs.length j) λp=>Q (.lst (xs.set p v)):=pB _ _ _
@[scoped simp ↓] theorem au_f (f:Int->Int->Int):wp (Ck f (.int i) (.int j)) Q=Q (.int (f i j)):=propext mx
end
theorem oC {xs:List FV}{i:Int}{n:Nat}{v:FV}{Q:FV->Prop}(h:i=n)(hv:xs[n]?=some v):wp (tM xs i) Q↔Q v:=by
 subst h
 have:=(aN.mp hv).1
 simp only[tM,ixN,Int.natCast_nonneg,if_true,Int.ofNat_lt,this,fX,fC,hv,nT]
@[scoped simp ↓] theorem Rh (x:FV)(r:List FV)(Q:FV->Prop):wp (tM (x :: r) 0) Q↔Q x:=oC (n:=0) rfl rfl
@[scoped simp ↓] theorem at_1 (x y:FV)(r:List FV)(Q:FV->Prop):wp (tM (x :: y :: r) 1) Q↔Q y:=oC (n:=1) rfl rfl
@[scoped simp ↓] theorem at_2 (x y z:FV)(r:List FV)(Q:FV->Prop):wp (tM (x :: y :: z :: r) 2) Q↔Q z:=oC (n:=2) rfl rfl
theorem DO {n:Nat}{i:Int}{j:Nat}{Q:Nat->Prop}(h:i=j)(hj:j<n):wp (ixN n i) Q↔Q j:=by
 subst h;simp[ixN,hj]
theorem xy {xs:List FV}{u:Int}{Q:FV->Prop}(h0:0<=u)(h1:u<xs.length)(h:∀ x∈xs,Q x):wp (tM xs u) Q:=by
 have hu:u.toNat<xs.length:=by lia
 rw[oC (show u=u.toNat by lia) (bd hu)]
 exact h _ (gu hu)
theorem wu {α:Type}(p:α->Bool):∀ xs:List α,sj (xs.map λx=>.bl (p x))=some (xs.map p)
 | []=>rfl
 | x :: r=>by show (sj (r.map λx=>.bl (p x))).map (p x :: ·)=_;rw[wu p r];rfl
theorem ints_map:∀ ns:List Int,oq (ns.map .int)=some ns
 | []=>rfl
 | x :: r=>by show (oq (r.map .int)).map (x :: ·)=_;rw[ints_map r];rfl
theorem nr {tb:List FD}{d f:Nat}{args:List FV}{fd:FD}{Q:FV×FV->Prop}(h:tb[f]?=some fd)(hl:args.length=fd.np)
  (H:fd.body (callW tb d) (args.map some++jf (fd.ns-fd.np) none) (vB fd.io fd.fr Q)):callW tb (d+1) f args Q:=by
 show (match tb[f]? with
  | none=>False
  | some fd=>args.length=fd.np/\fd.body (callW tb d) (args.map some++jf (fd.ns-fd.np) none) (vB fd.io fd.fr Q))
 rw[h];exact⟨hl,H⟩
theorem Ek {tb:List FD}{d f:Nat}{args:List FV}{fd:FD}{Q:FV×FV->Prop}(h:tb[f]?=some fd)(hl:args.length=fd.np) :
  callW tb (d+1) f args Q↔fd.body (callW tb d) (args.map some++jf (fd.ns-fd.np) none) (vB fd.io fd.fr Q):=by
 show (match tb[f]? with
  | none=>False
  | some fd=>args.length=fd.np/\fd.body (callW tb d) (args.map some++jf (fd.ns-fd.np) none) (vB fd.io fd.fr Q))↔_
 rw[h];exact⟨λz=>z.2,λz=>⟨hl,z⟩⟩
theorem p9 {α:Type}{tg:Tg}{b:SW}{f:α->FV}{I:List α->m7->Prop}{Q:FFl->m7->Prop}(all:List α) :
  ∀ (rest done:List α)(L:m7),all=done++rest->I done L ->
  (∀ d x r L (K:m7->Prop),all=d++x :: r->I d L->(∀ L',I (d++[x]) L'->K L')->gW tg (f x) L λL1=>b L1 (ue K Q)) ->
  (∀ L,I all L->Q .next L)->zK tg b (rest.map f) L Q
 | [],done,L,e,h,_,E=>by
  rw[iE] at e
  exact E L (e ▸ h)
 | x :: rest,done,L,e,h,B,E=>B done x rest L _ e h λL' h'=>p9 all rest (done++[x]) L' (by simp[e]) h' B E
theorem p8 {tg:Tg}{b:SW}{I:Nat->m7->Prop}{Q:FFl->m7->Prop}:∀ (n i:Nat)(L:m7),I i L ->
  (∀ j L (K:m7->Prop),i<=j->j<i+n->I j L->(∀ L',I (j+1) L'->K L')->gW tg (.int (j:Int)) L λL1=>b L1 (ue K Q)) ->
  (∀ L,I (i+n) L->Q .next L)->zK tg b (tU (i:Int) n) L Q
 | 0,i,L,h,_,E=>E L h
 | n+1,i,L,h,B,E=>B i L _ (kT _) ⋯ h λL' h'=>by
  have:=p8 n (i+1) L' h' (λj L K hj hj'=>B j L K ⋯ ⋯) (λL h=>E L (by rw[show i+(n+1)=i+1+n by lia];exact h))
  simpa using this
theorem so {c:BW}{b:SW}{I:Nat->m7->Prop}{Q:FFl->m7->Prop}(B:∀ m L (K:m7->Prop),I m L->(∀ m' L',m'<m->I m' L'->K L')->c L λt L1=>if t=true then b L1 (ue K Q) else Q .next L1){m:Nat}{L:m7}(h:I m L):zl c b L Q:=by
 have go:∀ n m L,m<n->I m L->Bq c b n L Q:=by
  intro n
  induction n with
  | zero=>intro m L hm;lia
  | succ n ih=>intro m L hm h;exact B m L _ h λm' L' h1 h2=>ih m' L' ⋯ h2
 exact⟨m+1,go _ m L (f8 _) h⟩
theorem pV {α:Type}{tg:Tg}{n m:Nat}{t:BW}{e:EW}{f:α->FV}{I:List α->List FV->m7->Prop}{Q:List FV->m7->Prop}(all:List α) :
  ∀ (rest done:List α)(Z8:List FV)(L:m7),all=done++rest->I done Z8 L ->
  (∀ d x r Z8 L (K:List FV->m7->Prop),all=d++x :: r->I d Z8 L->(∀ acc' L',I (d++[x]) acc' L'->K acc' L')->gW tg (f x) (L++jf m none) λL1=>t L1 λb L2=>if b=true then e L2 λv L3=>K (Z8++[v]) (L3.take n) else K Z8 (L2.take n)) ->
  (∀ ys L,I all ys L->Q ys L)->pR n m tg t e (rest.map f) Z8 L Q
 | [],done,Z8,L,e,h,_,E=>by
  rw[iE] at e
  exact E Z8 L (e ▸ h)
 | x :: rest,done,Z8,L,e,h,B,E=>B done x rest Z8 L (λacc' L'=>pR _ _ _ _ _ (rest.map f) acc' L' Q) e h λacc' L' h'=>pV all rest (done++[x]) acc' L' (by simp[e]) h' B E
theorem or {α:Type}{tg:Tg}{n m:Nat}{e:EW}{f:α->FV}{g:α->FV}{Q:List FV->m7->Prop}{L:m7}:∀ (xs:List α)(Z8:List FV),
  (∀ x∈xs,∀ K:FV->m7->Prop,K (g x) L->gW tg (f x) (L++jf m none) λL1=>e L1 λv L3=>K v (L3.take n))->Q (Z8++xs.map g) L->pR n m tg nR e (xs.map f) Z8 L Q
 | [],Z8,_,E=>by
  show Q Z8 L
  simpa using E
 | x :: xs,Z8,B,E=>B x dX (λv L'=>pR n m tg nR e (xs.map f) (Z8++[v]) L' Q) (or xs (Z8++[g x]) (λy hy=>B y (cM _ hy)) (by simpa using E))
theorem pI {α:Type}{tg:Tg}{n m:Nat}{t:BW}{e:EW}{f:α->FV}{g:α->FV}{p:α->Bool}{Q:List FV->m7->Prop}{L:m7}:∀ (xs:List α)(Z8:List FV),
  (∀ x∈xs,∀ (K:FV->m7->Prop)(N:m7->Prop),(p x=true->K (g x) L)->(p x=false->N L)->gW tg (f x) (L++jf m none) λL1=>t L1 λb L2=>if b=true then e L2 λv L3=>K v (L3.take n) else N (L2.take n))->Q (Z8++(xs.filter p).map g) L->pR n m tg t e (xs.map f) Z8 L Q
 | [],Z8,_,E=>by
  show Q Z8 L
  simpa using E
 | x :: xs,Z8,B,E=>B x dX (λv L'=>pR n m tg t e (xs.map f) (Z8++[v]) L' Q) (λL'=>pR n m tg t e (xs.map f) Z8 L' Q)
   (λhp=>pI xs (Z8++[g x]) (λy hy=>B y (cM _ hy)) (by rw[List.filter_cons_of_pos hp] at E;simpa using E))
   (λhp=>pI xs Z8 (λy hy=>B y (cM _ hy)) (by rw[List.filter_cons_of_neg (by simp[hp])] at E;exact E))
theorem yX:∀ n lo:Nat,tU (lo:Int) n=(kU lo n).map λi:Nat=>FV.int i
 | 0,lo=>rfl
 | n+1,lo=>by simp only[tU,gf,jS];rw[<- yX n (lo+1)];simp
theorem ol (n:Nat):tU 0 n=(lK n).map λi:Nat=>FV.int i:=by
 have:=yX n 0
 rw[cG];exact_mod_cast this
theorem rK {c A B:Prop} [Decidable c] (h1:c->A)(h2:¬ c->B):if c then A else B:=by
 by_cases h:c
 ·rw[if_pos h];exact h1 h
 ·rw[if_neg h];exact h2 h
end Kq
set_option maxHeartbeats 4000000
namespace Kq
open PySem PySem.Spec PyProof.Rows L2
def MF (lo:Int) (n:Nat):It:=⟨λi _=>i<n,λi H x H'=>H'=H/\x=.int (lo-i),λi _=>n<=i⟩
theorem vF {P:mm}{w:mL}{K:kj}{tg:Expr}(it:m4) (lo:Int) (n:Nat):Turn P w K tg (MF lo n) [it] it (λi h=>kX h it (lo+(i:Nat)*(-1)) ((n:Int)-(i:Nat)) (-1)) where
 mem:=by simp
 obj:=λi h st b hb=>by
  have e:b=it:=by simpa using hb
  subst e
  exact⟨_,st,λv z=>by
   have z':Data.fields _=Data.cell v:=z
   cases z'⟩
 keep:=λi h h' st k=>k it (by simp) _ st
 item:=by
  intro X hP hw hK hc i Z9 s σ H E I hf st hg
  subst hP hw hK
  let(f0,f1,f2,f3,f4,f5):=hf it (by simp)
  have W:=Walks.range (prog:=X.prog) (w:=X.w) (I.ok.hd hc) it lo (-1) n
  refine W.item i s _ _ hg st λv h' tk hv st' kk=>?_
  let(t,rfl):=hv
  have I1:Inv X Z9 σ H { s with heap:=h',toks:=tk }:=I.turned (λb o hb e=>kk b o (by simpa using hb) e) f0 f1 f3 f4 f5
  refine⟨_,rfl,AO (s:={ s with heap:=h',toks:=tk }) (n:="range_iterator") st' rfl rfl (by decide) ⟨.int (lo-i),H,I1,⟨t,?_⟩,⟨rfl,rfl⟩,st',λb hb=>(hf b hb).1⟩⟩
  rw[Int.mul_neg,Int.mul_one,Int.sub_eq_add_neg]
 done:=by
  intro X hP hw hK hc i Z9 s σ H E I hf st hg
  subst hP hw hK
  let(f0,f1,f2,f3,f4,f5):=hf it (by simp)
  exact bB (I.ok.hd hc) st (by have:n<=i:=hg;lia) λh' eb=>⟨rfl,I.turned (t':=s.toks) (λb o hb e=>eb b o hb e) f0 f1 f3 f4 f5⟩
 self:=λ_ _ _ _ _ st h=>bC st h
theorem rangeSize_down (a b:Int):bA a b (-1)=if b<a then a-b else 0:=by
 unfold bA
 simp only[show ¬ (-1:Int) > 0 by decide,if_false,show (-(-1):Int)=1 by decide,Int.ediv_one,gt_iff_lt]
 split<;>lia
theorem small_down {a b:Int}(ha:-(2 ^ 62)<=a)(ha':a<2 ^ 62)(hb:-(2 ^ 62)<=b)(hb':b<2 ^ 62):du a b (-1)=true:=by
 unfold du
 rw[rangeSize_down]
 simp only[ap,gG,iK,decide_eq_true_eq,beq_iff_eq,show ¬ (-1:Int) > 0 by decide,if_false]
 split<;>lia
section
variable {X:Cx}{tg:Expr}
theorem Gr {Z9:List (m4×Obj)}{σ:L2.St}{H:Hp}{s:mD}{R:It->Hp->Prop}{E:mM->mD->Prop}{lo hi:Int}{t u v:Tok}{tk:Nat}(I:Inv X Z9 σ H s)(h1:-(2 ^ 62)<=lo)(h2:lo<2 ^ 62)(h3:-(2 ^ 62)<=hi)(h4:hi<2 ^ 62)
  (q:R (MF lo (lo-hi).toNat) H):wpAny (model X.prog X.w) X.A (pyIter (.ref s.heap.objs.size)) (PIE X Z9 σ tg R) E { s with heap:=s.heap.push { cls:=.type "range",data:=.fields #[.int lo t,.int hi u,.int (-1) v] },toks:=tk }:=by
 refine dB (kY ..) (small_down h1 h2 h3 h4) ?_
 have I1:Inv X Z9 σ H { s with heap:=s.heap.push { cls:=.type "range",data:=.fields #[.int lo t,.int hi u,.int (-1) v] },toks:=tk }:=I.kept λb o e=>bR _ e
 refine⟨(s.heap.push { cls:=.type "range",data:=.fields #[.int lo t,.int hi u,.int (-1) v] }).objs.size,[(s.heap.push { cls:=.type "range",data:=.fields #[.int lo t,.int hi u,.int (-1) v] }).objs.size],_,_,H,rfl,
  I1.kept (t':=tk) λb o e=>bR _ e,vF _ lo (lo-hi).toNat,?_,λb hb=>?_,q⟩
 ·have e1:lo+((0:Nat):Int)*(-1)=lo:=by simp
  have e2:(((lo-hi).toNat:Nat):Int)-((0:Nat):Int)=bA lo hi (-1):=by rw[rangeSize_down];split<;>lia
  show kX _ _ (lo+((0:Nat):Int)*(-1)) ((((lo-hi).toNat:Nat):Int)-((0:Nat):Int)) (-1)
  rw[e1,e2]
  exact dj _ rfl
 ·have e:b=(s.heap.push { cls:=.type "range",data:=.fields #[.int lo t,.int hi u,.int (-1) v] }).objs.size:=by simpa using hb
  subst e
  exact I1.fpOk (kT _) (I1.hok.fresh (kT _))
theorem BI {a b d:Expr}{ta:TA}{p pos:Pos}(hg:Gl X "range")(hm:X.mg "range" = none)(ha:PA X [a,b,d] ta)(hs:starEach [a,b,d] X.env=(false,eval a X.env) :: starEach [b,d] X.env)(hs2:(backTo pos (starEach [b,d] X.env)).any (·.1)=false) :
  PI X tg (.Call (.Name "range" p) [a,b,d] [] pos) (λσ H R=>ta σ H λvs H1=>∃ i j:Int,vs=[.int i,.int j,.int (-1)]/\(-(2 ^ 62)<=i/\i<2 ^ 62/\-(2 ^ 62)<=j/\j<2 ^ 62)/\R (MF i (i-j).toNat) H1):=by
 intro Z9 s σ H R I h
 refine mW (pL I hg hm lz (ak (nW (ha pos Z9 s σ H _ I h) λus s1 ⟨vs,H1,I1,r1,q1⟩=>?_) hs hs2))
 let(i,j,e,(q1,q2,q3,q4),q):=q1
 subst e
 cases r1 with
 | cons r rr =>
  cases rr with
  | cons r' rr =>
   cases rr with
   | cons r'' rr =>
    cases rr
    let(t,rfl):=r
    let(t',rfl):=r'
    let(t'',rfl):=r''
    exact call_range_3 (by decide) (Gr I1 q1 q2 q3 q4 q) (.inl (bK ⋯))
end
def qy (hi:Int):Nat->List FV
 | 0=>[]
 | n+1=>.int hi :: qy (hi-1) n
def AM (a b:EW):AW:=λL Q=>a L λx L1=>b L1 λy L2=>wp (o9 x) λi=>wp (o9 y) λj=>(ou i && ou j)=true/\Q (qy i (i-j).toNat) L2
@[scoped simp ↓] theorem LN (a b:EW)(L:m7)(Q:List FV->m7->Prop):AM a b L Q=(a L λx L1=>b L1 λy L2=>wp (o9 x) λi=>wp (o9 y) λj=>(ou i && ou j)=true/\Q (qy i (i-j).toNat) L2):=propext mx
theorem wf:∀ (n:Nat) (lo:Int) (i:Nat),(qy lo n)[i]?=if i<n then some (.int (lo-i)) else none
 | 0,lo,i=>by simp[qy]
 | n+1,lo,0=>by simp[qy]
 | n+1,lo,i+1=>by
  show (qy (lo-1) n)[i]?=_
  rw[wf n (lo-1) i]
  have e:lo-1-(i:Int)=lo-((i+1:Nat):Int):=by lia
  simp[e]
section
variable {X:Cx}{C:CC}{n:Nat}{sp:kj->Nat->Sp}{a b tg:Expr}{ea eb:EW}{p p3 p4 pos:Pos}{kk:Nat}
variable {K:kj}{c:Cn}{md:Md}
theorem AH {lo:Int}{m:Nat}{S1:Hp}:Cq K c md (MF lo m) (qy lo m) S1:=by
 intro i L σ S H I s
 rw[wf]
 by_cases h:i<m
 ·rw[if_pos h]
  refine⟨λe=>(nomatch e),λp e=>?_⟩
  cases e
  exact⟨h,λv H' q1=>by let(e1,e2):=q1;exact⟨S,Same.refl S,by rw[e1];exact λ_ _ _ _ I=>I,e2⟩⟩
 ·rw[if_neg h]
  exact⟨λ_=>show m<=i by lia,λp e=>(nomatch e)⟩
theorem NA (G:Good X C n sp)(hg:C.gl (ke "range")=true)(hs:nC a=false)(hs2:nC b=false)(ha:FE X C a ea)(hb:FE X C b eb):FI X C C.md tg (.Call (.Name (ke "range") p) [a,b,.UnaryOp .USub (.Constant (.int 1) kk p3) p4] [] pos) (AM ea eb) :=
 PI.imp (BI (G.gl hg) (G.blt "range" (by decide)) (nE ha (nE hb (nE (IL (X:=X) (C:=C) (ea:=eC (.int 1)) IM) oM rfl) (m8 hs2)) (m8 hs)) (m8 hs) (by rw[m8 hs2];rfl)) λσ H R q1=>by let(c,L,S,Q0,I,h,k):=q1;exact
 ⟨c,L,S,_,I,h,λv L1 hv x S1 H1 r1 I1 s1=>⟨c,L1,S1,_,I1,hv,λw L2 hw y S2 H2 r2 I2 s2=>by
  let(j,e,hw):=oE hw
  let(j',e',hb,q):=oE hw
  cases nN e;cases nN e'
  have hb:=b2 hb
  have h1:=de hb.1
  have h2:=de hb.2
  refine⟨c,L2,S2,λz L3=>z=.int (-1)/\L3=L2,I2,⟨rfl,rfl⟩,?_⟩
  rintro z L3 ⟨rfl,rfl⟩ u S3 H3 r3 I3 s3
  exact⟨j,j',by rw[show x=.int j from r1,show y=.int j' from r2,show u=.int (-1) from r3],⟨h1.1,h1.2,h2.1,h2.2⟩,k _ L3 q _ c S3 H3 I3 (λ_ _ _ _ I=>I) rfl AH (s1.trans (s2.trans s3))⟩⟩⟩
end
end Kq
namespace PySem
open PySem.Spec
theorem F.sub_rit_reversed:isSubtype (.type "range_iterator") (.type "reversed")=pure false:=by rw[iX];kernel_rfl
theorem BD (r:m4) (a b c:Int)(t u v:Tok)(hc0:¬(!(ap a && ap b && ap c && ap (-c) && ap (a-c) && ap (bA a b c)))=true) :
  mQ (my.«range.__reversed__» ⟨[.ref r],[]⟩) (λ_ R s=>s.heap.get? r=some { cls:=.type "range",dict:=none,data:=.fields #[.int a t,.int b u,.int c v],slots:=#[] }/\R (.ok (.ret (Value.ref s.heap.objs.size))) { s with heap:=s.heap.push { cls:=Value.type (if (ap a && ap b && ap c && ap (-c) && ap (a-c) && ap (bA a b c))=true then "range_iterator" else "longrange_iterator"),data:=Data.fields #[rawInt (a+(bA a b c-1)*c),rawInt (bA a b c),rawInt (-c)] },toks:=s.toks }) :=
 .of_wp λprog w A R s h=>by let(hp,g,d,tk,os):=s;let(hl,h):=h;wp_walk;exact⟨_,rfl,h⟩
section
variable {prog:mm}{w:mL}{A:mK}{E:mM->mD->Prop}{s:mD}
def sB (a n:Int):Obj:={ cls:=.type "range_iterator",data:=.fields #[rawInt a,rawInt n,rawInt (-1)] }
theorem vg {r:m4}{b:Int}{t u v:Tok}{Q:mM->mD->Prop}(hr:IsRange s.heap r 0 b 1 t u v)(h1:-(2 ^ 62)<=b)(h2:b<2 ^ 62)
  (h:Q (.ref s.heap.objs.size) { s with heap:=s.heap.push (sB ((b.toNat:Int)-1) b.toNat) }):wpAny (model prog w) A (call (.builtin "range.__reversed__") [.ref r]) Q E s:=by
 have hT:s.TypeIs (.ref r) "range":=⟨_,hr,rfl⟩
 have hn:bA 0 b 1=(b.toNat:Int):=by rw[jz];split<;>lia
 have hs:(ap 0 && ap b && ap 1 && ap (-1) && ap (0-1) && ap (bA 0 b 1))=true:=by
  rw[hn]
  simp only[ap,gG,decide_eq_true_eq]
  lia
 refine lw cy hT F.entry_range_reversed (F.args_range_reversed_1 _) (BD r 0 b 1 t u v (by rw[hs];decide)) ⟨hr,?_⟩
 rw[hs,if_pos rfl,hn]
 have e:(0:Int)+((b.toNat:Int)-1)*1=(b.toNat:Int)-1:=by lia
 rw[e]
 exact h
theorem u8 {r:m4}{b:Int}{t u v:Tok}{Q₁:mM->mD->Prop}(hr:IsRange s.heap r 0 b 1 t u v)(h1:-(2 ^ 62)<=b)(h2:b<2 ^ 62)
  (h:Q₁ (.ref s.heap.objs.size) { s with heap:=s.heap.push (sB ((b.toNat:Int)-1) b.toNat) }) :
  codeAny (model prog w) A (.call (.builtin "reversed.__new__") ⟨[.type "reversed",.ref r],[]⟩) (wants Q₁ E) s:=by
 have hT:s.TypeIs (.ref r) "range":=⟨_,hr,rfl⟩
 refine gR ?_
 show wpAny _ A.in1 (do checkBuiltinCall "reversed.__new__" ⟨[.type "reversed",.ref r],[]⟩;again (.builtin "reversed.__new__" ⟨[.type "reversed",.ref r],[]⟩)) _ _ s
 refine lj (kK (F.newCall_reversed_1 _) (k9 ⟨jA cR _,gS F.entry_reversed_new ?_⟩))
 rw[cY cR _]
 unfold my.«reversed.__new__»
 refine lj (kK (newClass_reversed _) ?_)
 try dsimp only
 refine lj (kK (a:=()) (by first|rfl|kernel_rfl) ?_)
 refine lj (kK (a:=()) (by first|rfl|kernel_rfl) ?_)
 try dsimp only
 refine lj (gJ hT cy.lookup ?_)
 try dsimp only
 refine lj (kK (cy.bind _) ?_)
 try dsimp only
 first
 | rw[if_neg (show ¬ ((Value.builtin "range.__reversed__" == Value.none)=true) from eB)]
 | (show wpAny _ _ (if (Value.builtin "range.__reversed__" == Value.none)=true then _ else _) _ _ _;rw[if_neg (show ¬ ((Value.builtin "range.__reversed__" == Value.none)=true) from eB)])
 refine lj (k8 ?_)
 refine lj (m:=runValue (.call (.builtin "range.__reversed__") ⟨[.ref r],[]⟩)) (show wpAny _ _ (call (.builtin "range.__reversed__") [.ref r]) _ _ _ from vg hr h1 h2 ?_)
 first
 | exact k9 h
 | exact lj (k9 (k9 h))
theorem vf {r:m4}{b:Int}{t u v:Tok}{Q:mM->mD->Prop}(hr:IsRange s.heap r 0 b 1 t u v)(h1:-(2 ^ 62)<=b)(h2:b<2 ^ 62)
  (h:Q (.ref s.heap.objs.size) { s with heap:=s.heap.push (sB ((b.toNat:Int)-1) b.toNat) }):wpAny (model prog w) A (call (.type "reversed") [.ref r]) Q E s:=by
 refine callType_other (U:="range_iterator") (Q₁:=λobj s₁=>obj=.ref s.heap.objs.size/\s₁ = { s with heap:=s.heap.push (sB ((b.toNat:Int)-1) b.toNat) }) (by nofun) F.create_reversed ⟨_,_,F.mro_reversed⟩ F.made_reversed F.sub_rit_reversed (F.typeCall_reversed_1 _) (u8 hr h1 h2 ⟨rfl,rfl⟩) ?_
 rintro obj s₁ ⟨rfl,rfl⟩
 exact⟨⟨_,dj _ rfl,rfl⟩,h⟩
end
end PySem
namespace Kq
open PySem PySem.Spec PyProof.Rows L2
section
variable {X:Cx}{tg:Expr}
theorem Fb {a:Expr}{ta:TA}{p p2 pos pos2:Pos}(hg:Gl X "range")(hm:X.mg "range" = none)(hg2:Gl X "reversed")(hm2:X.mg "reversed" = none)(ha:PA X [a] ta)(hs:starEach [a] X.env=[(false,eval a X.env)]) :
  PI X tg (.Call (.Name "reversed" p) [.Call (.Name "range" p2) [a] [] pos2] [] pos) (λσ H R=>ta σ H λvs H1=>∃ j:Int,vs=[.int j]/\-(2 ^ 62)<=j/\j<2 ^ 62/\R (MF ((j.toNat:Int)-1) j.toNat) H1):=by
 intro Z9 s σ H R I h
 refine mW (pL I hg2 hm2 (by nofun) (ak (T:="reversed") ?_ rfl rfl))
 show wpAny _ _ (spliced ((false,eval (.Call (.Name "range" p2) [a] [] pos2) X.env) :: backTo pos [])) _ _ s
 refine et (mW (pL I hg hm lz (ak (nW (ha pos2 Z9 s σ H _ I h) λus s1 ⟨vs,H1,I1,r1,q1⟩=>?_) hs rfl)))
 let(j,e,q1,q2,q):=q1
 subst e
 cases r1 with
 | cons r rr =>
  cases rr
  let(t,rfl):=r
  refine call_range_1 (fI (vf (kY ..) q1 q2 ?_))
  let h0:mY:=s1.heap.push { cls:=.type "range",data:=.fields #[.int 0 s1.toks,.int j t,.int 1 (s1.toks+1)] }
  have I2:Inv X Z9 σ H1 { s1 with heap:=h0,toks:=s1.toks+1+1 }:=I1.kept λb o e=>bR _ e
  have st:kX (h0.push (sB ((j.toNat:Int)-1) j.toNat)) h0.objs.size ((j.toNat:Int)-1) j.toNat (-1):=dj _ rfl
  refine bC st ?_
  refine⟨h0.objs.size,[h0.objs.size],_,_,H1,rfl,I2.kept (t':=s1.toks+1+1) λb o e=>bR _ e,vF _ ((j.toNat:Int)-1) j.toNat,?_,λb hb=>?_,q⟩
  ·have e1:((j.toNat:Int)-1)+((0:Nat):Int)*(-1)=(j.toNat:Int)-1:=by simp
   have e2:((j.toNat:Nat):Int)-((0:Nat):Int)=j.toNat:=by simp
   rw[e1,e2]
   exact st
  ·have e:b=h0.objs.size:=by simpa using hb
   subst e
   exact I2.fpOk (kT _) (I2.hok.fresh (kT _))
end
def AK (a:EW):AW:=λL Q=>a L λx L1=>wp (o9 x) λj=>ou j=true/\Q (qy ((j.toNat:Int)-1) j.toNat) L1
@[scoped simp ↓] theorem LL (a:EW)(L:m7)(Q:List FV->m7->Prop):AK a L Q=(a L λx L1=>wp (o9 x) λj=>ou j=true/\Q (qy ((j.toNat:Int)-1) j.toNat) L1):=propext mx
theorem Ny {X:Cx}{C:CC}{n:Nat}{sp:kj->Nat->Sp}{a tg:Expr}{ea:EW}{p p2 pos pos2:Pos}(G:Good X C n sp)(hg:(C.gl (ke "range") && C.gl (ke "reversed"))=true)(hs:nC a=false)(ha:FE X C a ea):FI X C C.md tg (.Call (.Name (ke "reversed") p) [.Call (.Name (ke "range") p2) [a] [] pos2] [] pos) (AK ea) :=
 PI.imp (Fb (G.gl (b2 hg).1) (G.blt "range" (by decide)) (G.gl (b2 hg).2) (G.blt "reversed" (by decide)) (nE ha oM (m8 hs)) (m8 hs)) λσ H R q1=>by let(c,L,S,Q0,I,h,k):=q1;exact
 ⟨c,L,S,_,I,h,λv L1 hv x S1 H1 r1 I1 s1=>by
  let(j,e,hb,q):=oE hv
  cases nN e
  have h1:=de hb
  exact⟨j,by rw[show x=.int j from r1],h1.1,h1.2,k _ L1 q _ c S1 H1 I1 (λ_ _ _ _ I=>I) rfl AH s1⟩⟩
theorem sO:∀ n:Nat,qy ((n:Int)-1) n=(lK n).reverse.map λi:Nat=>FV.int i
 | 0=>rfl
 | n+1=>by
  have:=sO n
  rw[ii,List.reverse_append,ir,<- this]
  simp[qy]
end Kq
namespace PySem
def Ka (A:mK)(s:mD)(x y:mM)(b:Bool):Prop :=
 ∀ (prog:mm)(w:mL)(E:mM->mD->Prop)(Q:mM->mD->Prop),Q (.bool b) s->wpAny (model prog w) A (richCompare .Lt x y) Q E s
inductive LexAt (A:mK)(s:mD):List mM->List mM->Bool->Prop
 | nn:LexAt A s [] [] false
 | nc {y ys}:LexAt A s [] (y :: ys) true
 | cn {x xs}:LexAt A s (x :: xs) [] false
 | eq {x y xs ys r}:lD A s x y true->LexAt A s xs ys r->LexAt A s (x :: xs) (y :: ys) r
 | ne {x y xs ys r}:lD A s x y false->Ka A s x y r->LexAt A s (x :: xs) (y :: ys) r
section
open PySem.SeqAt
open PySem.AutoSeq1 (wpAny_loadPart')
open PySem.MeetsSeq PySem.MeetsSeq2 PySem.MeetsSeq3
theorem wG (l b:m4)(items ZX:Array mM) (n n2:Nat)(dd dd2:Option m4)(sl sl2:Array (Option mM)) :
  mQ (my.«tuple.__lt__» ⟨[.ref l,.ref b],[]⟩)
   (λA R s=>s.heap.get? l=some { cls:=.type "tuple",dict:=dd,data:=.seq items n,slots:=sl }/\s.heap.get? b=some { cls:=.type "tuple",dict:=dd2,data:=.seq ZX n2,slots:=sl2 } /\
    ∃ r,LexAt A.in1 s items.toList ZX.toList r/\R (.ok (.ret (.bool r))) s) :=
 .of_wp λprog w A R s h=>by
  let(hp,g,d,tk,os):=s;let(hl,hb,r,hlex,h):=h
  have f2:=bm
  wp_walk using gL hl,gL hb,fN _ (λrest b s'=>b.1=none/\s'=⟨hp,g,d,tk,os⟩/\∃ (vs ws:List mM),rest=vs.zip ws /\
   LexAt A.in1 ⟨hp,g,d,tk,os⟩ vs ws r/\vs.length+ZX.size=ws.length+items.size) _
  case turn =>
   rintro⟨y,x⟩ rest b s' ⟨hb',rfl,vs,ws,hz,hlx,hlen⟩
   cases hlx with
   | nn=>cases hz
   | nc=>cases hz
   | cn=>rw[dO] at hz;cases hz
   | eq he hr =>
    rw[dP] at hz
    injection hz with hyx hrest
    injection hyx with hy hx
    subst hy hx
    simp only[gp] at hlen
    refine lj (he prog w _ _ ?_)
    wp_walk
    exact⟨rfl,rfl,_,_,hrest,hr,by lia⟩
   | ne he hr =>
    rw[dP] at hz
    injection hz with hyx hrest
    injection hyx with hy hx
    subst hy hx
    refine lj (he prog w _ _ ?_)
    have hri:=hr prog w
    wp_walk using hri
    exact⟨_,rfl,by simpa using h⟩
  case fin =>
   rintro⟨b1,b2⟩ s' ⟨hb',rfl,vs,ws,hz,hlx,hlen⟩
   simp only at hb'
   subst hb'
   have hv:r=decide (items.size<ZX.size):=by
    cases hlx with
    | nn=>simp only[iy] at hlen;exact (decide_eq_false ⋯).symm
    | nc=>simp only[iy,gp] at hlen;exact (decide_eq_true ⋯).symm
    | cn=>simp only[iy,gp] at hlen;exact (decide_eq_false ⋯).symm
    | eq=>rw[dP] at hz;cases hz
    | ne=>rw[dP] at hz;cases hz
   rw[hv] at h
   wp_walk
   exact⟨_,rfl,by simpa[ag] using h⟩
  case h =>
   exact⟨rfl,rfl,items.toList,ZX.toList,rfl,hlex,by simp;lia⟩
end
theorem DE {A:mK}{s:mD}{l b:m4}{o o2:Obj}{items ZX:Array mM}{n n2:Nat}{r:Bool}(h1:s.heap.get? l=some o)(h2:o.cls=.type "tuple")(h3:o.data=.seq items n)(g1:s.heap.get? b=some o2)(g2:o2.cls=.type "tuple")(g3:o2.data=.seq ZX n2)
  (hlex:LexAt A.in1 s items.toList ZX.toList r)(hu:A.units<cLine):Ka A s (.ref l) (.ref b) r:=by
 intro prog w E Q h
 let(cls,dd,data,sl):=o
 let(cls2,dd2,data2,sl2):=o2
 simp only at h2 h3 g2 g3
 subst h2 h3 g2 g3
 exact bE (op:=.Lt) ⟨_,h1,rfl⟩ ⟨_,g1,rfl⟩ bY bI (bq _ _) (wG l b items ZX n n2 dd dd2 sl sl2)
  ⟨h1,g1,r,hlex,show Value.bool r≠Value.notImplemented/\Q (.bool r) s from ⟨(λx=>nomatch x),h⟩⟩ hu
end PySem
namespace Kq
open PySem PySem.Spec PyProof.Rows L2
def strLt (a b:String):Bool:=decide ((ke a).cps.toList<(ke b).cps.toList)
mutual
noncomputable def DD:D->D->Option Bool
 | .int a,y=>match y with|.int b=>some (decide (a<b))|_=>none
 | .str a,y=>match y with|.str b=>some (strLt a b)|_=>none
 | .tup a,y=>match y with|.tup b=>ltDs a b|_=>none
 | .non,_=>none|.bl _,_=>none|.lst _,_=>none
noncomputable def ltDs:List D->List D->Option Bool
 | [],[]=>some false
 | [],_ :: _=>some true
 | _ :: _,[]=>some false
 | a :: r,b :: q=>if D.eqv a b=true then ltDs r q else DD a b
end
mutual
theorem DF:∀ (x y:D)(A:mK)(s:mD)(v u:mM)(as bs:List m4)(r:Bool),mO s.heap v (qc x) as->mO s.heap u (qc y) bs->DD x y=some r->A.units+(qc x).depth<cLine->Ka A s v u r
 | .int a,y,A,s,v,u,as,bs,r,h1,h2,e,hu=>by
  cases y with
  | int b =>
   cases e
   simp only[qc] at h1 h2
   cases h1;cases h2
   exact λprog w E Q h=>c8 h
  | _=>cases e
 | .str a,y,A,s,v,u,as,bs,r,h1,h2,e,hu=>by
  cases y with
  | str b =>
   cases e
   simp only[qc] at h1 h2
   cases h1;cases h2
   exact λprog w E Q h=>PySem.P.lt_str h
  | _=>cases e
 | .tup xs,y,A,s,v,u,as,bs,r,h1,h2,e,hu=>by
  cases y with
  | tup ys =>
   simp only[qc] at h1 h2
   simp only[qc,km] at hu
   cases h1 with
   | tuple a1 a2 a3 a4 =>
    cases h2 with
    | tuple b1 b2 b3 b4 =>
     exact DE a1 a2 a3 b1 b2 b3 (lexAt_D xs ys A.in1 s _ _ _ _ r a4 b4 e (by show A.units+1+_<_;lia)) ⋯
  | _=>cases e
 | .non,y,A,s,v,u,as,bs,r,h1,h2,e,hu=>by cases y<;>cases e
 | .bl _,y,A,s,v,u,as,bs,r,h1,h2,e,hu=>by cases y<;>cases e
 | .lst _,y,A,s,v,u,as,bs,r,h1,h2,e,hu=>by cases y<;>cases e
theorem lexAt_D:∀ (xs ys:List D)(A:mK)(s:mD)(vs us:List mM)(as bs:List m4)(r:Bool),l0 s.heap vs (dPys xs) as->l0 s.heap us (dPys ys) bs->ltDs xs ys=some r->A.units+gY (dPys xs)<cLine->LexAt A s vs us r
 | [],[],A,s,vs,us,as,bs,r,h1,h2,e,hu=>by cases h1;cases h2;cases e;exact .nn
 | [],y :: ys,A,s,vs,us,as,bs,r,h1,h2,e,hu=>by cases h1;cases h2;cases e;exact .nc
 | x :: xs,[],A,s,vs,us,as,bs,r,h1,h2,e,hu=>by cases h1;cases h2;cases e;exact .cn
 | x :: xs,y :: ys,A,s,vs,us,as,bs,r,h1,h2,e,hu=>by
  simp only[dPys] at h1 h2
  simp only[dPys,gY] at hu
  cases h1 with
  | cons a1 a2 =>
   cases h2 with
   | cons b1 b2 =>
    have he:=PySem.SeqAt.eqAt_reads _ _ A s _ _ _ _ a1 b1 (qK x) (qK y) ⋯
    rw[yM] at he
    replace e:(if D.eqv x y=true then ltDs xs ys else DD x y)=some r:=e
    split at e
    ·rename_i hq
     rw[hq] at he
     exact .eq he (lexAt_D xs ys A s _ _ _ _ r a2 b2 e ⋯)
    ·rename_i hq
     have hq:D.eqv x y=false:=by simpa using hq
     rw[hq] at he
     exact .ne he (DF x y A s _ _ _ _ r a1 b1 e ⋯)
end
end Kq
namespace Kq
open PySem PySem.Spec PyProof.Rows L2
theorem yc {α β:Type}{f:α->Option β}:∀ {xs:List α}{ys:List β},pq f xs=some ys->∀ (i:Nat)(x:α),xs[i]?=some x->∃ y,ys[i]?=some y/\f x=some y
 | [],ys,h,i,x,e=>by simp at e
 | a :: r,ys,h,i,x,e=>by
  let(b,h1,h2):=oY h
  let(q,h3,rfl):=sm h2
  cases i with
  | zero=>simp at e;subst e;exact⟨b,rfl,h1⟩
  | succ i=>exact yc h3 i x (by simpa using e)
def En (ds:List D) (i j:Nat):Bool:=(DD (ds.getD i .non) (ds.getD j .non)).getD false
open Classical in
def uB (v:FV):Option FV:=(pP v).bind λxs=>(pq (fD nA) xs).bind λds =>
 if 0<ds.length/\(∀ x∈ds,∀ y∈ds,(DD x y).isSome=true)/\∀ ps,xs[argBest (En ds) (ds.length-1)]?≠some (.lst ps) then xs[argBest (En ds) (ds.length-1)]? else none
section
variable {X:Cx}
theorem JC (hc:X.calm=true)(hu:X.A.units+64<cLine):og X (.builtin "min") (Rc X.K uB):=by
 rintro Z9 s σ H xs us Q I r ⟨S,v,x,z,rfl,hs,rv,e,k⟩
 let(qs,e1,e2):=oY e
 let(ds,e3,e4):=oY e2
 obtain⟨⟨hpos,hall,hnl⟩,e5⟩:(0<ds.length/\(∀ x∈ds,∀ y∈ds,(DD x y).isSome=true)/\∀ ps,qs[argBest (En ds) (ds.length-1)]?≠some (.lst ps))/\qs[argBest (En ds) (ds.length-1)]?=some z:=by
  split at e4
  ·rename_i h;exact⟨h,e4⟩
  ·cases e4
 let(a,ys,rfl,hq,ry):=rv.list hs e1
 let(u,rfl,ru):=vals1 r
 cases (show u=Value.ref a from ru)
 let(Z7,r',pl,hz'):=I.list hq
 have hh:X.A.in1.handled=none:=I.ok.hd hc
 have hlen:ys.length=Z7.length:=r'.length
 have hql:=ry.length
 have hdl:=yb e3
 have hl2:Z7.length=ds.length:=by rw[<- hlen,<- hql,hdl]
 have it:∀ (i:Nat)(v:mM),Z7.toArray[i]?=some v->∃ (p:FV)(y:V)(d:D),qs[i]?=some p/\ds[i]?=some d/\fD nA p=some d/\RV X.K S p y/\RelV y v:=λi v hv=>by
  have hv:Z7[i]?=some v:=by simpa using hv
  have hi:=(aN.mp hv).1
  have hi':i<qs.length:=by lia
  let(d,f3,f4):=yc e3 i qs[i] (bd hi')
  let(y,f1,f2):=ry.get (i:=i) (bd hi')
  let(u,g1,g2):=r'.get f1
  rw[hv] at g1;cases g1
  exact⟨_,y,d,bd hi',f3,f4,f2,g2⟩
 refine vh (bt:=En ds) hh pl.isList (by simp;lia) (λi j u v s1 Q1 E1 kp hi hj q1=>?_) λv h' tk hv hk=>?_
 ·let(p1,y1,d1,a1,a2,a3,a4,a5):=it i u hi
  let(p2,y2,d2,b1,b2,b3,b4,b5):=it j v hj
  let(as,ra):=pX I hs (.inl a4) a5 a3
  let(bs,rb):=pX I hs (.inl b4) b5 b3
  have hk:∀ b o,s.heap.get? b=some o->s1.heap.get? b=some o:=λb o e=>kp b o (kH e) e
  have hcmp:=hall d1 (cK a2) d2 (cK b2)
  cases hr:DD d1 d2 with
  | none=>rw[hr] at hcmp;cases hcmp
  | some c =>
   have hb:En ds i j=c:=by simp only[En,aC,a2,b2,fV,hr]
   rw[hb] at q1
   have hd:=qZ a3
   unfold nA at hd
   exact DF d1 d2 X.A.in1 s1 u v as bs c (aW hk ra) (aW hk rb) hr (by show X.A.units+1+_<_;lia) X.prog X.w _ _ q1
 ·have hv:Z7[argBest (En ds) (Z7.toArray.size-1)]?=some v:=by simpa using hv
  have hsz:Z7.toArray.size-1=ds.length-1:=by simp;lia
  rw[hsz] at hv
  let(p,y,d,a1,a2,a3,a4,a5):=it _ v (by simpa using hv)
  rw[e5] at a1;cases a1
  exact⟨y,H,I.kept (t':=tk) hk,a5,k.old _ (λps hz=>hnl ps (by rw[e5,hz])) a4⟩
end
section
variable {X:Cx}{C:CC}{n:Nat}{sp:kj->Nat->Sp}{a:Expr}{ea:EW}{pos p:Pos}
theorem NH (G:Good X C n sp)(hg:C.gl (ke "min")=true)(hs:nC a=false)(ha:FR X C a ea):FE X C (.Call (.Name (ke "min") p) [a] [] pos) (oh uB ea):=uX (JC G.calm G.room.units) G (by decide) (by nofun) (by nofun) (by nofun) hg hs ha
end
def n6 {α:Type}(lt:α->α->Bool):α->List α->α
 | b,[]=>b
 | b,x :: r=>n6 lt (if lt x b=true then x else b) r
theorem tG {α:Type}(lt:α->α->Bool):∀ (xs:List α)(b x:α),n6 lt b (xs++[x])=if lt x (n6 lt b xs)=true then x else n6 lt b xs
 | [],b,x=>rfl
 | y :: ys,b,x=>by
  show n6 lt (if lt y b=true then y else b) (ys++[x])=_
  rw[tG lt ys];rfl
theorem uL {α:Type}(lt:α->α->Bool)(bt:Nat->Nat->Bool)(n:α)(r:List α)(h:∀ i j x y,(n :: r)[i]?=some x->(n :: r)[j]?=some y->bt i j=lt x y):∀ k,k<=r.length->(n :: r)[argBest bt k]?=some (n6 lt n (r.take k))
 | 0,_=>rfl
 | k+1,hk=>by
  have ih:=uL lt bt n r h k ⋯
  have hk:k<r.length:=hk
  have e2:(n :: r)[k+1]?=some r[k]:=by simp[hk]
  rw[ae hk,tG]
  simp only[argBest,h (k+1) (argBest bt k) _ _ e2 ih]
  split
  ·exact e2
  ·exact ih
theorem Ft {α:Type}(enc:α->FV)(encD:α->D)(lt:α->α->Bool)(h1:∀ a,fD nA (enc a)=some (encD a))(h2:∀ a b,DD (encD a) (encD b)=some (lt a b))(h3:∀ a ps,enc a≠.lst ps)(n:α)(r:List α)(Q:FV->Prop):wp (uB (.lst ((n :: r).map enc))) Q↔Q (enc (n6 lt n r)):=by
 have hm:∀ xs:List α,pq (fD nA) (xs.map enc)=some (xs.map encD):=by
  intro xs
  induction xs with
  | nil=>rfl
  | cons x r ih=>rw[jS,jS,show pq (fD nA) (enc x :: r.map enc)=(fD nA (enc x)).bind λy=>(pq (fD nA) (r.map enc)).map (y :: ·) from rfl,h1,ih];rfl
 have hb:∀ i j x y,(n :: r)[i]?=some x->(n :: r)[j]?=some y->En ((n :: r).map encD) i j=lt x y:=λi j x y hx hy=>by
  simp only[En,aC,fx,hx,hy,hZ,fV,h2]
 have ha:=uL lt _ n r hb r.length (kT _)
 rw[ge] at ha
 have hx:((n :: r).map enc)[argBest (En ((n :: r).map encD)) (((n :: r).map encD).length-1)]?=some (enc (n6 lt n r)):=by
  rw[iz,gp,Nat.add_sub_cancel,fx,ha];rfl
 have he:uB (.lst ((n :: r).map enc))=some (enc (n6 lt n r)):=by
  show ((some ((n :: r).map enc)).bind λxs=>(pq (fD nA) xs).bind _)=_
  rw[fX,hm,fX,if_pos,hx]
  refine⟨by simp,?_,?_⟩
  ·intro x hx y hy
   obtain⟨a,-,rfl⟩:=kE.mp hx
   obtain⟨b,-,rfl⟩:=kE.mp hy
   rw[h2];rfl
  ·intro ps z
   rw[hx] at z
   exact h3 _ ps (hW z)
 rw[he];exact mx
def oS {κ α:Type} [DecidableEq κ] (ks:List κ)(vs:List α)(k:κ)(v:α):List κ×List α :=
 if k∈ks then (ks,kD (λk' v'=>if k'=k then v else v') ks vs) else (ks++[k],vs++[v])
def n9 {κ α:Type} [DecidableEq κ]:List κ->List α->κ->Option α
 | k' :: ks,v :: vs,k=>if k'=k then some v else n9 ks vs k
 | _,_,_=>none
theorem AI {a b:List Int}(h:a.map (Sum.inl:Int->Int ⊕ Option Str)=b.map Sum.inl):a=b:=by
 induction a generalizing b with
 | nil=>cases b with|nil=>rfl|cons=>cases h
 | cons x r ih=>cases b with
  | nil=>cases h
  | cons y q =>
   simp only[jS,iD,Sum.inl.injEq] at h
   rw[h.1,ih h.2]
theorem sL:∀ (ks:List (List Int))(us:List V)(k:List Int),rH ((oH ks).zip us) (k.map Sum.inl)=n9 ks us k
 | [],us,k=>by cases us<;>rfl
 | k' :: ks,[],k=>rfl
 | k' :: ks,u :: us,k=>by
  show rH ((k'.map Sum.inl,u) :: (oH ks).zip us) (k.map Sum.inl)=if k'=k then some u else n9 ks us k
  by_cases e:k'=k
  ·subst e;rw[qP rfl,if_pos rfl]
  ·rw[qQ λz=>e (AI z),if_neg e];exact sL ks us k
theorem pF {κ α:Type} [DecidableEq κ]:∀ {ks:List κ}{vs:List α}(k:κ),ks.length=vs.length->((n9 ks vs k).isSome=true↔k∈ks)
 | [],vs,k,h=>⟨λz=>gF (show false=true from z),λz=>nomatch z⟩
 | k' :: ks,[],k,h=>by simp at h
 | k' :: ks,v :: vs,k,h=>by
  show (if k'=k then some v else n9 ks vs k).isSome=true↔_
  by_cases e:k'=k
  ·simp[e]
  ·simp only[e,if_false,jP,mq e,false_or]
   rw[pF k (by simpa using h)]
theorem Am (ks:List (List Int))(us:List V)(k:List Int)(u:V)(hl:ks.length=us.length):qd ((oH ks).zip us) (k.map Sum.inl) u=(oH (oS ks us k u).1).zip (oS ks us k u).2:=by
 have hany:(((oH ks).zip us).any λkv=>decide (kv.1=k.map Sum.inl))=true↔k∈ks:=by
  rw[sr,sL,pF k hl]
 unfold qd oS
 by_cases e:k∈ks
 ·rw[if_pos (hany.mpr e),if_pos e]
  clear e hany
  induction ks generalizing us with
  | nil=>cases us<;>rfl
  | cons k' ks ih=>cases us with
   | nil=>rfl
   | cons u' us =>
    have:=ih us (by simpa using hl)
    show (if k'.map Sum.inl=k.map Sum.inl then (k'.map Sum.inl,u) else (k'.map Sum.inl,u')) :: ((oH ks).zip us).map _=(k'.map Sum.inl,if k'=k then u else u') :: (oH ks).zip _
    rw[this]
    congr 1
    by_cases e:k'=k
    ·subst e;simp
    ·rw[if_neg λz=>e (AI z),if_neg e]
 ·rw[if_neg λz=>e (hany.mp z),if_neg e]
  show _=(oH (ks++[k])).zip (us++[u])
  have:oH (ks++[k])=oH ks++[k.map Sum.inl]:=by simp[oH]
  rw[this,ic (by simpa[oH] using hl)];rfl
theorem qq {κ α:Type} [DecidableEq κ] (ks:List κ)(vs:List α)(k:κ)(v:α)(h:ks.length=vs.length):(oS ks vs k v).1.length=(oS ks vs k v).2.length/\(oS ks vs k v).1.length<=ks.length+1:=by
 unfold oS
 split
 ·simp[h]
 ·simp[h]
section
variable {K:kj}{S H:Hp}
theorem An {κ:Type} [DecidableEq κ] {k:κ}{v:FV}{u:V}(r2:RV K S v u):∀ {ks:List κ}{vs:List FV}{us:List V},RVs K S vs us->RVs K S (kD (λk' v'=>if k'=k then v else v') ks vs) (kD (λk' v'=>if k'=k then u else v') ks us)
 | [],vs,us,_=>rfl
 | k' :: ks,[],us,r=>by cases (show us=[] from r);rfl
 | k' :: ks,p :: vs,us,q1=>by
  let(x,q,e,h1,h2):=q1
  subst e
  refine⟨_,_,rfl,?_,An r2 h2⟩
  by_cases e:k'=k
  ·simp only[e,if_true];exact r2
  ·simp only[e,if_false];exact h1
theorem ur {κ:Type} [DecidableEq κ] {ks:List κ}{vs:List FV}{us:List V}{k:κ}{v:FV}{u:V}(r:RVs K S vs us)(r2:RV K S v u):(oS ks vs k v).1=(oS ks us k u).1/\RVs K S (oS ks vs k v).2 (oS ks us k u).2:=by
 unfold oS
 split
 ·exact⟨rfl,An r2 r⟩
 ·exact⟨rfl,r.append (RVs.one r2)⟩
theorem uQ {κ:Type} [DecidableEq κ]:∀ {ks:List κ}{vs:List FV}{us:List V}{k:κ}{v:FV},RVs K S vs us->n9 ks vs k=some v->∃ u,n9 ks us k=some u/\RV K S v u
 | [],vs,us,k,v,r,e=>by cases (show none=some v from e)
 | k' :: ks,[],us,k,v,r,e=>by cases (show none=some v from e)
 | k' :: ks,p :: vs,us,k,v,q1,e=>by
  let(x,q,e',h1,h2):=q1
  subst e'
  replace e:(if k'=k then some p else n9 ks vs k)=some v:=e
  show ∃ u,(if k'=k then some x else n9 ks q k)=some u/\_
  by_cases e0:k'=k
  ·rw[if_pos e0] at e ⊢;cases e;exact⟨x,rfl,h1⟩
  ·rw[if_neg e0] at e ⊢;exact uQ h2 e
theorem uO {ps:List FV}{k:List Int}{x:V}(r:RV K S (.tup ps) x)(e:oq ps=some k):∃ b,x=.ref b/\S b=some (.tup ((k.map (Sum.inl:Int->Int ⊕ Option Str)).map kV)):=by
 let(b,xs,rfl,h1,h2):=r
 refine⟨b,rfl,?_⟩
 rw[h1,oI h2 e,kG];rfl
variable {c:Cn}{md:Md}{L:m7}{σ:L2.St}
theorem Fq {q:m4}{ks:List (List Int)}{vs:List FV}{us:List V}(I:Iv K c md L σ S H)(h1:S q=none)(h2:H q=some (.dT ((oH ks).zip us)))(hl:ks.length=vs.length)(h3:RVs K S vs us)(fr:rz c md L σ q):∃ u,H q=some u/\Iv K c md L σ (oj S q u) H/\RV K (oj S q u) (.dct ks vs) (.ref q):=by
 have s:=nX (o:=.dT ((oH ks).zip us)) h1
 refine⟨_,h2,⟨I.len,λi v h e=>let ⟨x,e1,r⟩:=I.imm i v h e;⟨x,e1,r.mono s⟩,λi v h e=>?_,I.dis,λa u e=>?_,I.frame,I.s0.trans s,λa u e=>?_,I.lent,I.fzs,I.fzm,I.fzp,λp hp=>let ⟨g1,g2,g3⟩:=I.prs p hp;⟨g1,by rw[nv (fr.2.1 p hp)];exact g2,g3⟩,I.ntp,I.lnt1,I.tie⟩,q,us,rfl,hl,nD,h3.mono s⟩
 ·let(b,e1,(g1,rs,zs,g2,g3,g4),g5):=I.own i v h e
  have hb:b≠q:=λz=>by subst z;exact fr.2.2 i v h e e1
  exact⟨b,e1,⟨by rw[nv hb];exact g1,rs,zs,g2,g3,g4.mono s⟩,g5⟩
 ·by_cases z:a=q
  ·subst z;rw[nD] at e;cases e;exact h2
  ·rw[nv z] at e;exact I.sub a u e
 ·by_cases z:a=q
  ·subst z;exact .inr (.inl fr.1)
  ·rw[nv z] at e;exact I.grow a u e
end
def rh (n m:Nat)(tg:Tg)(t:BW)(ek ev:EW):List FV->List (List Int)->List FV->m7->(List (List Int)->List FV->m7->Prop)->Prop
 | [],ks,vs,L,Q=>Q ks vs L
 | x :: xs,ks,vs,L,Q=>gW tg x (L++jf m none) λL1=>t L1 λb L2=>if b=true then ek L2 λkx L3=>wp (qp kx) λps=>wp (oq ps) λk=>ev L3 λv L4=>rh n m tg t ek ev xs (oS ks vs k v).1 (oS ks vs k v).2 (L4.take n) Q else rh n m tg t ek ev xs ks vs (L2.take n) Q
def zV (n m:Nat)(it:AW)(tg:Tg)(t:BW)(ek ev:EW):EW:=λL Q=>it L λxs L1=>L1.length=n/\xs.length<=big/\rh n m tg t ek ev xs [] [] L1 λks vs L2=>Q (.dct ks vs) L2
section
variable {K:kj}{c:Cn}{md:Md}{L:m7}{σ:L2.St}{S H:Hp}
theorem Cc {J:It}{xs:List FV}{n m:Nat}{tg:Tg}{t:BW}{ek ev:EW}{Q:VK}{Q1:List (List Int)->List FV->m7->Prop}(I:Iv K c md L σ S H)(hJ:Cq K c md J xs S)(hL:L.length=n)(hmd:md.length<=n)(ht:pE md tg=true)(hg:rN n tg=true)(hb:xs.length<=big)(h:rh n m tg t ek ev xs [] [] L Q1)
  (k:∀ Z8 ks vs us L' S' H',H Z8=none->Q1 ks vs L'->S' Z8=none->H' Z8=some (.dT ((oH ks).zip us))->ks.length=vs.length->RVs K S' vs us->rz c md L' σ Z8->Iv K c md L' σ S' H'->Same S S'->Q (.ref Z8) H') :
  ∀ Z8,H Z8=none->∃ W:Nat->Nat->Hp->Prop,(∃ m,W 0 m (oj H Z8 (.dT [])))/\∀ i j H,W i j H ->
   (J.stop i H/\Q (.ref Z8) H) ∨ (J.go i H/\∀ x H',J.yld i H x H'->gT K tg x (σ++jf m none) H' λσ2 H2=>Wk (σ++jf m none) σ2/\lb K md t σ2 H2 λb H3 =>
    if b=true then P8 (lv K md ek) (lv K md ev) Z8 σ2 H3 λH4=>∃ m',m'<j/\W (i+1) m' H4 else ∃ m',m'<j/\W (i+1) m' H3):=by
 intro Z8 hacc
 have h0:=I.h0 hacc
 have hp:∀ p∈c.pr,p.1≠Z8:=(I.fresh hacc).2.1
 have hz:=I.fzp
 have hbl:=oW
 refine wj (α:=List (List Int)×List FV) (β:=List (List Int)×List V) (fr:=λb=>{ c with pr:=(Z8,.dT ((oH b.1).zip b.2)) :: c.pr }) (P:=λa b S=>a.1=b.1/\a.1.length=a.2.length/\RVs K S a.2 b.2) (N:=λa=>a.1.length) (Cm:=λxs a L=>rh n m tg t ek ev xs a.1 a.2 L Q1) (em:=λa L3 K'=>ek L3 λkx L4=>wp (qp kx) λps=>wp (oq ps) λk=>ev L4 λv L5=>K' (oS a.1 a.2 k v) L5) (a0:=([],[])) (b0:=([],[])) ((I.lay hacc _).prot nD (I.sn hacc) λj w hm hj=>(I.fresh hacc).2.2 j w (Mo.w_imm hm) hj) hJ hL hmd ht hg ⟨rfl,rfl,rfl⟩ rfl h (λ_ _ _ _ _ _ I _=>I.unprot hz) (λ_ _ _ _ ⟨e,l,r⟩ s=>⟨e,l,r.mono s⟩) (λ_ _ _ _ h=>h) (λ⟨ks,vs⟩ ⟨ks',us⟩ L3 σ2 S3 H3 K' Z hn I3 ⟨e,hkl,r⟩ hv kz=>?_) λ⟨ks,vs⟩ ⟨ks',us⟩ L' S' H' q I' ⟨e,hkl,r⟩ s'=>?_
 ·cases (show ks=ks' from e)
  dsimp only at hn hkl r
  refine⟨_,L3,S3,_,I3,hv,λkx L4 hk u S4 H4 r4 I4 s4=>?_⟩
  let(ps,e1,hk1):=oE hk
  let(kk,e2,hk2):=oE hk1
  cases oX e1
  let(b,rfl,hb4):=uO r4 e2
  refine⟨_,L4,S4,_,I4,hk2,λv L5 hv u S5 H5 r5 I5 s5=>?_⟩
  have lr:=r.length
  let(pe,pr):=ur (ks:=ks) (k:=kk) (r.mono (s4.trans s5)) r5
  let(pl1,pl2):=qq ks vs kk v hkl
  refine⟨_,kk.map Sum.inl,b,(I5.prs (Z8,_) dX).1,rfl,I5.sub _ _ (s5 _ _ hb4),by rw[List.length_zip,show (oH ks).length=ks.length by simp[oH]];lia,?_⟩
  rw[Am ks us kk u ⋯]
  exact kz _ (oS ks us kk u) L5 S5 _ hv (I5.regrow h0 hp hz) ⟨pe,pl1,pr⟩ (s4.trans s5) pl2
 ·cases (show ks=ks' from e)
  let(g1,g2,f):=I'.newPr h0 hp hz
  exact k Z8 ks vs us L' S' H' hacc q g2 g1 hkl r f (I'.unprot hz) s'
end
section
variable {X:Cx}{C:CC}{n:Nat}{sp:kj->Nat->Sp}{pos:Pos}{scope:mN}{own:List Str}{kx vx ZY Z5:Expr}{Z4:List Expr}{it:AW}{tg:Tg}{t:BW}{ek ev:EW}{nn m:Nat}{md':Md}
theorem D3 (G:Good X C n sp)(h:CompOk X C n sp scope own kx ZY Z5 Z4 nn m md' it tg t ek)(hv:∀ X',Good X' (C.sub scope own md') n sp->FE X' (C.sub scope own md') vx ev):FE X C (.DictComp kx vx [⟨ZY,Z5,Z4,0⟩] scope pos) (zV nn m it tg t ek ev):=by
 have h0:=b2 h.st;have h1:=b2 h0.1;have h2:=b2 h1.1;have h3:=b2 h2.1;have h4:=b2 h3.1;have h5:=b2 h4.1;have h6:=b2 h5.1
 let(s1,s2):=G.sub h6.1 md'
 have hu:X.A.units+1<cLine:=by have:=G.room.units;lia
 have blk:∀ fp D s H,PG (pH X scope own fp D s H) ZY (gT X.K tg)/\PTs (pH X scope own fp D s H) Z4 (lb X.K md' t)/\PE (pH X scope own fp D s H) kx (lv X.K md' ek)/\PE (pH X scope own fp D s H) vx (lv X.K md' ev):=λfp D s H=>⟨h.tg _ (s2 fp D s H),h.ts _ (s2 fp D s H),h.el _ (s2 fp D s H),hv _ (s2 fp D s H)⟩
 refine PE.imp (Do (X:=X) hu G.calm s1 h.it blk (uT (nb h0.2))) λσ H Q q1=>?_;let(c,L,S,Q0,I,hh,k):=q1
 refine⟨c,L,S,_,I,hh,λxs L1 hx J c' S1 H1 I1 un e0 hJ s1=>?_⟩
 let(hl,hb,hc):=hx
 rw[de h5.2]
 refine Cc I1 hJ hl (de h4.2) h2.2 h1.2 hb hc λZ8 ks vs us L' S' H' hn q g1 g2 g3 g4 fr I' s'=>?_
 let(u,hu,I2,r):=Fq (un _ _ _ _ I') g1 g2 g3 g4 ⟨by rw[<- e0];exact fr.1,((un _ _ _ _ I1).fresh hn).2.1,λj w hm=>fr.2.2 j w (tX h3.2 j hm)⟩
 exact k _ L' q _ _ H' r I2 ((s1.trans s').trans (nX g1))
end
def zJ (a b:FV):Option FV:=match b with
 | .dct ks _=>(qp a).bind λps=>(oq ps).bind λk=>some (.bl (decide (k∈ks)))
 | .dci ks _=>(o9 a).bind λk=>some (.bl (decide (k∈ks)))
 | b=>inB a b
def A2 (v w:FV):Option FV:=match v with
 | .dct ks vs=>(qp w).bind λps=>(oq ps).bind λk=>n9 ks vs k
 | _=>none
section
variable {X:Cx}
theorem RH.dct {K:kj}{S H:Hp}{ks:List (List Int)}{vs:List FV}{y:V}(hs:Same S H)(rq:RH K S H (.dct ks vs) y):∃ a us,y=.ref a/\ks.length=vs.length/\H a=some (.dT ((oH ks).zip us))/\RVs K S vs us:=by
 rcases rq with⟨a,us,e,hl,h1,h2⟩|⟨a,e,_,ps,us,e9,h1,h2⟩
 ·exact⟨a,us,e,hl,hs _ _ h1,h2⟩
 ·let(hl,rfl):=qM e9
  exact⟨a,us,e,hl,h1,h2⟩
theorem yK {S H:Hp}{ks:List (List Int)}{vs:List FV}{ps:List FV}{k:List Int}{x y:V}(hs:Same S H)(rp:RH X.K S H (.tup ps) x)(rq:RH X.K S H (.dct ks vs) y)(e:oq ps=some k):∃ a us,y=.ref a/\ks.length=us.length/\RVs X.K S vs us/\L2.DGet H a x (n9 ks us k):=by
 let(a,us,rfl,hl,h1,h2):=rq.dct hs
 let(b,rfl,hb):=uO (rp.val rfl) e
 refine⟨a,us,rfl,by rw[hl,h2.length],h2,?_⟩
 rw[<- sL]
 exact .t h1 (hs _ _ hb)
theorem sK:∀ (ks:List Int)(us:List V) (k:Int),rH ((pQ ks).zip us) (Sum.inl k)=n9 ks us k
 | [],us,k=>by cases us<;>rfl
 | k' :: ks,[],k=>rfl
 | k' :: ks,u :: us,k=>by
  show rH ((Sum.inl k',u) :: (pQ ks).zip us) (Sum.inl k)=if k'=k then some u else n9 ks us k
  by_cases e:k'=k
  ·subst e;rw[qP rfl,if_pos rfl]
  ·rw[qQ λz=>e (kP z),if_neg e];exact sK ks us k
theorem RH.dci {K:kj}{S H:Hp}{ks:List Int}{vs:List FV}{y:V}(hs:Same S H)(rq:RH K S H (.dci ks vs) y):∃ a us,y=.ref a/\ks.length=vs.length/\H a=some (.dK ((pQ ks).zip us))/\RVs K S vs us:=by
 rcases rq with⟨a,us,e,hl,h1,h2⟩|⟨a,e,_,ps,us,e9,h1,h2⟩
 ·exact⟨a,us,e,hl,hs _ _ h1,h2⟩
 ·let(hl,rfl):=qM e9
  exact⟨a,us,e,hl,h1,h2⟩
theorem B7 {S H:Hp}{ks:List Int}{vs:List FV}{k:Int}{y:V}(hs:Same S H)(rq:RH X.K S H (.dci ks vs) y):∃ a us,y=.ref a/\ks.length=us.length/\RVs X.K S vs us/\L2.DGet H a (.int k) (n9 ks us k):=by
 let(a,us,rfl,hl,h1,h2):=rq.dci hs
 refine⟨a,us,rfl,by rw[hl,h2.length],h2,?_⟩
 rw[<- sK]
 exact .k (k:=Sum.inl k) h1
theorem K7 (hu:X.A.units+64<cLine):pO X (compareOp .In) (Rq X.K zJ):=by
 intro Z9 s σ H x y v u Q I rx ry ⟨S,p,q,z,hs,rp,rq,e,k⟩
 cases q with
 | dct ks vs =>
  let(ps,e1,e2):=oY e
  let(kk,e3,e4):=oY e2
  cases oX e1
  cases e4
  let(a,us,rfl,hl,h2,g):=yK hs rp rq e3
  cases (show u=Value.ref a from ry)
  refine Ml ⋯ I g rx λs' I'=>⟨.bl _,H,I',rfl,?_⟩
  have:(n9 ks us kk).isSome=decide (kk∈ks):=by rw[iL,pF kk hl];simp
  rw[this]
  exact k.bl
 | dci ks vs =>
  let(kk,e1,e4):=oY e
  cases nN e1
  cases e4
  cases rp.int
  let(a,us,rfl,hl,h2,g):=B7 (k:=kk) hs rq
  cases (show u=Value.ref a from ry)
  refine Ml ⋯ I g rx λs' I'=>⟨.bl _,H,I',rfl,?_⟩
  have:(n9 ks us kk).isSome=decide (kk∈ks):=by rw[iL,pF kk hl];simp
  rw[this]
  exact k.bl
 | _=>exact OE hu Z9 s σ H x y v u Q I rx ry ⟨S,p,_,z,hs,rp,rq,e,k⟩
end
theorem Hi:sk zJ:=by
 intro v w z e
 cases w with
 | dct ks vs =>
  let(ps,_,e):=oY e
  let(k,_,e):=oY e
  cases e;exact⟨_,rfl⟩
 | dci ks vs =>
  let(k,_,e):=oY e
  cases e;exact⟨_,rfl⟩
 | _ =>
  let(b,_,rfl):=sm (show (Ez v _).map FV.bl=some z from e)
  exact⟨_,rfl⟩
section
variable {X:Cx}{C:CC}{n:Nat}{sp:kj->Nat->Sp}{a b:Expr}{ea eb:EW}{pos:Pos}
theorem PV (G:Good X C n sp)(ha:FE X C a ea)(hb:FR X C b eb)(hm:behindInMarks .In b=false):FB X C (.Compare a [.In] [b] pos) (nL (nh zJ ea eb)):=tw Hi (K7 G.room.units) ha hb hm
variable {es:List Expr}{k:Nat}{p2:Pos}
theorem NM (G:Good X C n sp)(ha:FE X C a ea)(hb:FE X C (.Tuple es k p2) eb):FE X C (.Subscript a (.Tuple es k p2) pos) (nh A2 ea eb) :=
 PE.imp (At (X:=X.nox) (by have:=G.room.units;show X.A.units+1<cLine;lia) ha hb λ_ _=>rfl) λσ H Q q1=>by let(c,L,S,Q0,I,h,k):=q1;exact
 ⟨c,L,S,_,I,h,λv L1 hv x S1 H1 r1 I1 s1=>⟨c,L1,S1,_,I1,hv,λw L2 hw y S2 H2 r2 I2 s2=>by
  let(z,e,q):=oE hw
  cases v with
  | dct ks vs =>
   let(ps,e1,e2):=oY e
   let(kk,e3,e4):=oY e2
   cases oX e1
   let(a,us,rfl,hl,h2,g):=yK (X:=X) I2.sub (.inl r2) (.inl (r1.mono s2)) e3
   let(u,e5,r5):=uQ h2 e4
   rw[e5] at g
   exact⟨a,u,rfl,g,k z L2 q u S2 H2 r5 I2 (s1.trans s2)⟩
  | _=>cases e⟩⟩
end
section
variable (Q:FV->Prop)
@[scoped simp ↓] theorem ON (k:Int)(ks:List Int)(vs:List FV):wp (zJ (.int k) (.dci ks vs)) Q=Q (.bl (decide (k∈ks))):=propext mx
@[scoped simp ↓] theorem OM (a:FV)(xs:List FV):wp (zJ a (.tup xs)) Q↔wp (Ez a (.tup xs)) λr=>Q (.bl r):=pB _ _ _
@[scoped simp ↓] theorem OO (ps:List FV)(ks:List (List Int))(vs:List FV):wp (A2 (.dct ks vs) (.tup ps)) Q↔wp (oq ps) λk=>wp (n9 ks vs k) Q:=by
 show wp ((oq ps).bind _) Q↔_;rw[pC]
@[scoped simp ↓] theorem OQ (Q:List Int->Prop):wp (oq []) Q=Q []:=propext mx
@[scoped simp ↓] theorem OR (i:Int)(r:List FV)(Q:List Int->Prop):wp (oq (.int i :: r)) Q↔wp (oq r) λns=>Q (i :: ns):=by
 show wp ((oq r).map (i :: ·)) Q↔_;rw[pB]
end
@[scoped simp ↓] theorem Kk (n m:Nat)(it:AW)(tg:Tg)(t:BW)(ek ev:EW)(L:m7)(Q:FV->m7->Prop):zV n m it tg t ek ev L Q=(it L λxs L1=>L1.length=n/\xs.length<=big/\rh n m tg t ek ev xs [] [] L1 λks vs L2=>Q (.dct ks vs) L2):=propext mx
theorem wn {α:Type}{tg:Tg}{n m:Nat}{ek ev:EW}{f:α->FV}{g:α->List Int}{h:α->FV}{Q:List (List Int)->List FV->m7->Prop}{L:m7}:∀ (xs:List α)(ks:List (List Int))(vs:List FV),
  (∀ x∈xs,g x ∉ ks)->(xs.map g).Nodup ->
  (∀ x∈xs,∀ K:List Int->FV->m7->Prop,K (g x) (h x) L->gW tg (f x) (L++jf m none) λL1=>ek L1 λkx L3=>wp (qp kx) λps=>wp (oq ps) λk=>ev L3 λv L4=>K k v (L4.take n))->Q (ks++xs.map g) (vs++xs.map h) L->rh n m tg nR ek ev (xs.map f) ks vs L Q
 | [],ks,vs,_,_,_,E=>by
  show Q ks vs L
  simpa using E
 | x :: xs,ks,vs,hn,hd,B,E=>by
  refine B x dX (λk v L'=>rh n m tg nR ek ev (xs.map f) (oS ks vs k v).1 (oS ks vs k v).2 L' Q) ?_
  have hk:=hn x dX
  simp only[jS,ik] at hd
  have e:oS ks vs (g x) (h x)=(ks++[g x],vs++[h x]):=by simp[oS,hk]
  rw[e]
  refine wn xs _ _ (λy hy hm=>?_) hd.2 (λy hy=>B y (cM _ hy)) (by simpa using E)
  rcases iq.mp hm with hm|hm
  ·exact hn y (cM _ hy) hm
  ·simp at hm
   exact hd.1 (by rw[<- hm];exact List.mem_map_of_mem hy)
end Kq
namespace PySem
theorem F.nolen_lri:typeLookup (.type "list_reverseiterator") "__len__" = pure none:=by rw[gO,bW];kernel_rfl
theorem F.slot_lri_hint:Slot "list_reverseiterator" "__length_hint__" "list_reverseiterator.__length_hint__" :=
 .of (owner:="list_reverseiterator") (n:="__length_hint__") (by rw[gO,bW];kernel_rfl) (by nofun) (by nofun) (by nofun)
  (by first|exact .inl (by decide +kernel)|exact .inr (by decide +kernel)) (by rw[iX];kernel_rfl)
section
variable {prog:mm}{w:mL}{A:mK}{E:mM->mD->Prop}{s:mD}
theorem yR {it l:m4}{items:Array mM}{Q:List mM->mD->Prop}(hh:A.handled=none)(hne:l≠it)(hit:s.heap.IsRevIter it l ((items.size:Int)-1))(hl:s.heap.IsList l items)(hz:items.size<=sizeLine)
  (hQ:∀ s' Z8,Moved [it] (λa b=>b=a) s s'->ItemsOf (λi v=>items[items.size-1-i]?=some v) Z8 items.size->Q Z8.toList s'):wpAny (model prog w) A (collect (.ref it)) Q E s:=by
 have W:=(Walks.listRev (prog:=prog) (w:=w) (A:=A.in1) (show A.in1.handled=none from hh) it l hne items).toS
 have l1:it<s.heap.objs.size:=by let(o,e,_):=hit;exact kH e
 have l2:l<s.heap.objs.size:=by let(o,e,_):=hl;exact kH e
 have hSf:s.heap.objs.size ∉ [it,l]:=λhm=>by
  simp only[jP,gh,or_false] at hm
  rcases hm with hm|hm
  ·exact jK _ (hm ▸ l1)
  ·exact jK _ (hm ▸ l2)
 have hSI:s.heap.objs.size≠it:=λe=>jK _ (e ▸ l1)
 unfold collect
 refine lj (iQ (gS F.entry_proto_collect ?_));rw[cY cA _]
 show wpAny _ A.in1 (newList [] >>= λZ8=>again (.builtin "list.__iadd__" ⟨[Z8,.ref it],[]⟩)) _ _ s
 refine lj (eP (k9 ⟨jA fG _,gS F.entry_list_iadd ?_⟩));rw[cY fG _]
 generalize hs1:({ s with heap:=s.heap.push { cls:=.type "list",data:=.seq ([]:List mM).toArray } }:mD)=s1
 have k1:∀ b o,s.heap.get? b=some o->s1.heap.get? b=some o:=λb o e=>by rw[<- hs1];exact bR _ e
 have it1:=hit.at λo e=>k1 it o e
 have li1:=hl.at λo e=>k1 l o e
 have S1:s1.heap.get? s.heap.objs.size=some { cls:=.type "list",data:=.seq ([]:List mM).toArray }:=by rw[<- hs1];exact dj _ rfl
 have st1:0<=items.size/\s1.heap.IsRevIter it l ((items.size:Int)-1-((0:Nat):Int))/\s1.heap.IsList l items:=⟨kR _,by simpa using it1,li1⟩
 have ty1:s1.TypeIs (.ref it) "list_reverseiterator":=it1.typeIs
 have h1:bi (.ref s.heap.objs.size) (.ref it)=false:=by simp[bi,hSI]
 show wpAny _ A.in1 (ar (.ref s.heap.objs.size) (.ref it) (.ref s.heap.objs.size)) _ _ s1
 unfold ar
 refine lj (j7 ty1 ?_)
 rw[if_neg (by rw[h1];decide)]
 refine lj (W.self 0 s1 _ _ st1 (lj (ju ?_)))
 unfold aq
 refine lj (gJ ty1 F.nolen_lri ?_)
 show wpAny _ A.in1 (specialOf (Value.ref it) (ke "__length_hint__") >>= _) _ _ _
 refine lj (gJ ty1 F.slot_lri_hint.lookup ?_)
 (generalize hid:("list_reverseiterator.__length_hint__":String)=id0;(fail_if_success (clear hid id0));wp_delta;rw[show splitId id0=some ("list_reverseiterator","__length_hint__") from by subst hid;nofun];subst hid)
 refine lj (fM (b:=true) ty1 (by rw[iX];kernel_rfl) ?_)
 refine k9 ?_
 rw[if_neg (by decide)]
 refine k9 ⟨jA dq _,cE W hz _ hSf _ items.size 0 _ _ _ rfl (kR _) st1 S1 (ItemsOf.nil _) λs' acc' c' hm hS' hacc=>?_⟩
 show wpAny _ A (load s.heap.objs.size >>= _) _ _ s'
 refine lj (lh hS' (k9 (hQ s' acc' ?_ hacc)))
 subst hs1
 exact Moved.drop_new (o:={ cls:=.type "list",data:=.seq ([]:List mM).toArray }) (tk:=s.toks) hm (kT _)
end
end PySem
namespace PySem
section
variable {prog:mm}{w:mL}{A:mK}{E:mM->mD->Prop}{s:mD}
theorem u7 {it l:m4}{items:Array mM}{Q₁:mM->mD->Prop}(hh:A.handled=none)(hne:l≠it)(hit:s.heap.IsRevIter it l ((items.size:Int)-1))(hl:s.heap.IsList l items)(hz:items.size<=sizeLine)
  (h:∀ s' Z8,Moved [it] (λa b=>b=a) s s'->ItemsOf (λi v=>items[items.size-1-i]?=some v) Z8 items.size->Q₁ (.ref s'.heap.objs.size) { s' with heap:=s'.heap.push { cls:=.type "tuple",data:=.seq Z8 } }) :
  codeAny (model prog w) A (.call (.builtin "tuple.__new__") ⟨[.type "tuple",.ref it],[]⟩) (wants Q₁ E) s:=by
 refine gR ?_
 show wpAny _ A.in1 (do checkBuiltinCall "tuple.__new__" ⟨[.type "tuple",.ref it],[]⟩;again (.builtin "tuple.__new__" ⟨[.type "tuple",.ref it],[]⟩)) _ _ s
 refine lj (kK (F.newCall_tuple_1 _) (k9 ⟨jA fF _,gS F.entry_tuple_new ?_⟩));rw[cY fF _]
 have hsub:=sub_tuple_self;have hinit:=init_tuple_lookup;have hmh:=madeHere_tuple
 have hTI:s.TypeIs (.ref it) "list_reverseiterator":=hit.typeIs
 wp_walk using j7 hTI,yR (A:=A.in1) (show A.in1.handled=none from hh) hne hit hl hz
 intro s' Z8 hm hacc
 show wpAny _ _ (bg Z8.toList.toArray >>= λv=>ret v) _ _ _
 unfold bg
 refine lj (eP (k9 ?_) (by show Z8.toList.toArray.size<=sizeLine;simp only[cW];rw[hacc.1];exact hz))
 have e:Z8.toList.toArray=Z8:=by simp
 rw[e];exact h s' Z8 hm hacc
theorem vd {it l:m4}{items:Array mM}{Q:mM->mD->Prop}(hh:A.handled=none)(hne:l≠it)(hit:s.heap.IsRevIter it l ((items.size:Int)-1))(hl:s.heap.IsList l items)(hz:items.size<=sizeLine)
  (hQ:∀ s' Z8,Moved [it] (λa b=>b=a) s s'->ItemsOf (λi v=>items[items.size-1-i]?=some v) Z8 items.size->Q (.ref s'.heap.objs.size) { s' with heap:=s'.heap.push { cls:=.type "tuple",data:=.seq Z8 } }) :
  wpAny (model prog w) A (call (.type "tuple") [.ref it]) Q E s:=by
 refine callType_codes (Q₁:=λobj s₁=>s₁.TypeIs obj "tuple"/\Q obj s₁) jo (F.typeCall_tuple_1 _) F.entry_object_init (u7 (A:=A.in1) hh hne hit hl hz λs' Z8 hm hacc=>⟨⟨_,dj _ rfl,rfl⟩,hQ s' Z8 hm hacc⟩) λobj s₁ h₁=>?_
 exact⟨h₁.1,cS obj _,object_init_meets jo.init.lookup jo.made (by decide) prog w A.in1 _ s₁ ⟨h₁.1,rfl,h₁.2⟩⟩
end
end PySem
namespace Kq
open PySem PySem.Spec PyProof.Rows L2
section
variable {X:Cx}{a:Expr}{ta:TA}{p p2 pos pos2:Pos}
theorem Fd (hc:X.calm=true)(hg:Gl X "reversed")(hm:X.mg "reversed" = none)(hg2:Gl X "tuple")(hm2:X.mg "tuple" = none)(ha:PA X [a] ta)(hs:starEach [a] X.env=[(false,eval a X.env)]) :
  PE X (.Call (.Name "tuple" p) [.Call (.Name "reversed" p2) [a] [] pos2] [] pos) (λσ H Q=>ta σ H λvs H1=>∃ l xs,vs=[.ref l]/\SqL X.K H1 l xs/\∀ q,H1 q=none->Q (.ref q) (oj H1 q (.tup xs.reverse))):=by
 intro Z9 s σ H Q I h
 refine dC (pL I hg2 hm2 (show bootBuiltins (ke "tuple")=some (.type "tuple") by nofun) ?_ (by nofun) (by nofun))
 refine ak (T:="tuple") ?_ rfl rfl
 show wpAny _ _ (spliced ((false,eval (.Call (.Name "reversed" p2) [a] [] pos2) X.env) :: backTo pos [])) _ _ s
 refine et (mW (pL I hg hm (show bootBuiltins (ke "reversed")=some (.type "reversed") by nofun) (ak (T:="reversed") (nW (ha pos2 Z9 s σ H _ I h) λus s1 ⟨vs,H1,I1,r1,q1⟩=>?_) hs rfl)))
 let(l,xs,e,hq,q):=q1
 subst e
 let(u,rfl,ru):=vals1 r1
 cases (show u=Value.ref l from ru)
 let(Z7,rv,pl,hz):=I1.list hq
 have hlen:=rv.length
 have ll:l<s1.heap.objs.size:=by let(o,e,_):=pl.isList;exact kH e
 refine call_reversed_list pl.isList (fI ?_)
 have I2:Inv X Z9 σ H1 { s1 with heap:=s1.heap.push (revObj l ((Z7.toArray.size:Int)-1)) }:=I1.kept (t':=s1.toks) λb o e=>bR _ e
 refine vd (items:=Z7.toArray) (l:=l) (I1.ok.hd hc) (kq ll) ⟨_,dj _ rfl,rfl,rfl⟩ (pl.isList.push _) (by simpa[<- hlen] using hz) λs' Z8 hm hacc=>?_
 have I3:Inv X Z9 σ H1 s':=by
  have:=I1.kept (h':=s'.heap) (t':=s'.toks) λb o e=>hm.heap b o (by simp;exact kq (kH e)) (bR _ e)
  have e:s' = { s1 with heap:=s'.heap,toks:=s'.toks }:=by
   let(h1,h2,h3,h4,h5):=hm
   let(a,b,c,d,e):=s'
   simp only at h2 h3 h4
   subst h2 h3 h4;rfl
  rw[e];exact this
 refine⟨.ref s'.heap.objs.size,_,I3.laid (t':=s'.toks) (o:=.tup xs.reverse) (λb ob q=>bR _ q) (kT _) ?_,rfl,q _ (I3.hok.fresh (kT _))⟩
 have e:Z8.toList=Z7.reverse:=by
  have h1:Z8.toList.length=Z7.length:=by simpa using hacc.1
  apply gy
  ·rw[dc];exact h1
  ·intro i h2 h3
   have h4:=hacc.2 i (Z8.toList[i]) (by simp at h2;simp[h2])
   have h5:Z7[Z7.length-1-i]?=some Z8.toList[i]:=by simpa using h4
   rw[List.getElem_reverse]
   exact ((aN.mp h5).2).symm
 refine⟨by rw[dc];exact hz,Z7.reverse,rv.reverse,?_⟩
 rw[<- e]
 exact lQ _ _
end
def CZ (v:FV):Option FV:=(pP v).map λxs=>.tup xs.reverse
@[scoped simp ↓] theorem P3 (v:FV)(Q:FV->Prop):wp (CZ v) Q↔wp (pP v) λxs=>Q (.tup xs.reverse):=pB _ _ _
theorem ND {X:Cx}{C:CC}{n:Nat}{sp:kj->Nat->Sp}{a:Expr}{ea:EW}{pos p p2 pos2:Pos}(G:Good X C n sp)(hg:(C.gl (ke "reversed") && C.gl (ke "tuple"))=true)(hs:nC a=false)(ha:FR X C a ea):FE X C (.Call (.Name (ke "tuple") p) [.Call (.Name (ke "reversed") p2) [a] [] pos2] [] pos) (oh CZ ea) :=
 PE.imp (Fd (X:=X.nox) G.calm (G.gl (b2 hg).1) (G.blt "reversed" (by decide)) (G.gl (b2 hg).2) (G.blt "tuple" (by decide)) (nE ha oM (m8 hs)) (m8 hs)) λσ H Q q1=>by let(c,L,S,Q0,I,h,k):=q1;exact
 ⟨c,L,S,_,I,h,λv L1 hv x S1 H1 r1 I1 s1=>by
  let(z,e,q):=oE hv
  let(ps,e1,rfl):=sm e
  let(a,ys,rfl,hq,ry):=r1.list I1.sub e1
  exact⟨a,ys,rfl,hq,λp hp=>(tF I1 λx S' H' r I' s'=>k _ L1 q x S' H' r I' (s1.trans s')).tup _ _ p rfl ry.rev hp⟩⟩
end Kq
namespace Kq
open PySem PySem.Spec PyProof.Rows L2
def vG (v:FV):Option FV:=(oG v).bind λxs=>(ze xs).map .int
section
variable {X:Cx}
theorem z9 (hc:X.calm=true):og X (.builtin "sum") (λxs H Q=>∃ (a:m4)(ns:List Int),xs=[.ref a]/\SqT X.K H a (ns.map V.int)/\ns.length<=big/\(∀ n∈ns,-(2 ^ 40)<=n/\n<=2 ^ 40)/\Q (.int ns.sum) H):=by
 intro Z9 s σ H xs us Q I r h
 let(a,ns,rfl,hq,hz,hb,q):=h
 let(u,rfl,rx):=vals1 r
 cases rx
 let(Z7,r',pl,hz'):=I.tuple hq
 have hlen:ns.length=Z7.length:=by have:=r'.length;simpa using this
 have pt:s.heap.IsTuple a Z7.toArray:=pl
 have alt:a<s.heap.objs.size:=by let(_,e,_):=pt;exact kH e
 have hh:X.A.in1.handled=none:=I.ok.hd hc
 refine jE (dA pt ?_)
 refine⟨s.heap.objs.size,_,_,_,_,_,λi=>ns.getD i 0,rfl,Walks.tuple hh s.heap.objs.size a (kq alt) Z7.toArray,⟨⟨_,dj _ rfl,rfl,rfl⟩,pt.at λo e=>bR _ e⟩,?_,?_,?_,?_⟩
 ·intro b hb'
  simp at hb'
  rcases hb' with rfl|rfl
  ·show _<(s.heap.push _).objs.size;rw[jn];exact f8 _
  ·show _<(s.heap.push _).objs.size;rw[jn];exact fg alt
 ·intro i v hv
  have hv:Z7.toArray[i]?=some v:=hv
  have hi:i<ns.length:=by rw[hlen];simpa using (aK.mp hv).1
  let(t,e):=Vals.mapInt r' i hi
  refine⟨t,?_⟩
  have e':Z7.toArray[i]?=some (.int (ns.getD i 0) t):=by simpa using e
  rw[hv] at e'
  exact hW e'
 ·intro j hj
  have hj':j<ns.length:=by rw[hlen];simpa using hj
  have hm:ns.getD j 0∈ns:=by simp[lP,hj']
  refine⟨?_,?_⟩
  ·have:=hb _ hm
   show -(2 ^ 63)<=ns.getD j 0/\ns.getD j 0<2 ^ 63
   lia
  ·rw[o7 ns (j+1) hj']
   have b2:=zd 1099511627776 (by decide) (ns.take (j+1)) λn hn=>by have:=hb n (cI hn);lia
   have l2:(ns.take (j+1)).length<=100000:=by rw[gk];unfold big at hz;lia
   unfold InLong;lia
 ·intro h' tk t' hk
  have e:preSum (λi=>ns.getD i 0) Z7.toArray.size=ns.sum:=by
   rw[fk,<- hlen,o7 ns _ (kT _),ge]
  rw[e]
  refine⟨.int ns.sum,H,?_,⟨t',rfl⟩,q⟩
  exact I.kept (t':=tk) λb o e=>hk b o (by simp;exact kq (kH e)) (bR _ e)
theorem JA (hc:X.calm=true):og X (.builtin "sum") (Rc X.K vG):=by
 rintro Z9 s σ H xs us Q I r ⟨S,v,x,z,rfl,hs,rv,e,k⟩
 cases v with
 | tup ps =>
  let(n,e3,rfl):=sm e
  let(ns,e4,e5):=oY e3
  let(hb,rfl):=qM e5
  let(a,ys,rfl,hq,ry):=rv.tup hs
  cases oI ry e4
  refine z9 hc Z9 s σ H _ us Q I r ⟨a,ns,rfl,SqT.of hq,hb.1,λn hn=>?_,k.int⟩
  have:=gB.mp hb.2 n hn
  simpa[su] using this
 | lst ps=>exact Hb hc Z9 s σ H _ us Q I r ⟨S,.lst ps,x,z,rfl,hs,rv,e,k⟩
 | scr ps=>exact Hb hc Z9 s σ H _ us Q I r ⟨S,.scr ps,x,z,rfl,hs,rv,e,k⟩
 | _=>cases e
end
section
variable {X:Cx}{C:CC}{n:Nat}{sp:kj->Nat->Sp}{a:Expr}{ea:EW}{pos p:Pos}
theorem NF (G:Good X C n sp)(hg:C.gl (ke "sum")=true)(hs:nC a=false)(ha:FR X C a ea):FE X C (.Call (.Name (ke "sum") p) [a] [] pos) (oh vG ea):=uX (JA G.calm) G (by decide) (by nofun) (by nofun) (by nofun) hg hs ha
end
@[scoped simp ↓] theorem P2 (v:FV)(Q:FV->Prop):wp (vG v) Q↔wp (oG v) λxs=>wp (ze xs) λn=>Q (.int n):=by
 show wp ((oG v).bind _) Q↔_
 simp only[pC,pB]
end Kq
namespace Kq
open PySem PySem.Spec PyProof.Rows L2
def DU (i:Nat)(eb:EW):AW:=λL Q=>wp (lk L i) λ_=>eb L λy L1=>wp (lk L1 i) λx=>wp (oG x) λxs=>wp (oG y) λys=>Q (pY xs ys) L1
section
variable {X:Cx}{C:CC}{n:Nat}{sp:kj->Nat->Sp}{b:Expr}{eb:EW}{pos p p2 tp:Pos}{i kk:Nat}{nx:Str}{elts:List Expr}
theorem Nw (G:Good X C n sp)(hg:C.gl (ke "zip")=true)(h:C.nm i nx=true)(m:nq C.md i=.own)(hs2:nC b=false)(hb:FE X C b eb):FI X C (C.md.set i .frz) (.Tuple elts kk tp) (.Call (.Name (ke "zip") p) [.Name nx p2,b] [] pos) (DU i eb) :=
 PI.imp (GU (G.gl hg) (G.blt "zip" (by decide)) (nE (oR G h) (nE hb oM (m8 hs2)) (m8 rfl)) (by rw[m8 rfl,m8 hs2];rfl) (m8 hs2)) λσ H R q1=>by
 let(c,L,S,Q0,I,h,k):=q1
 let(v,e,h):=oE h
 have e:=(o8 _ _ _).mp e
 let(l,e1,_,_):=I.own i v (λz=>by rw[m] at z;cases z) e
 refine⟨_,e1,c,L,S,_,I,h,λw L2 hw y S2 H2 r2 I2 s2=>?_⟩
 let(v2,e2,hw):=oE hw
 let(ps,e0,hw):=oE hw
 let(qs,e',q):=oE hw
 have e2:=(o8 _ _ _).mp e2
 let(l2,f1,(o1,rs,vs,e9,o2,o3),o4):=I2.own i v2 (λz=>by rw[m] at z;cases z) e2
 rw[e1] at f1;cases f1
 let(e3,e4):=Aw e9 e0
 subst e3 e4
 let(l',rfl,st'):=r2.stays e'
 let(ws,h2,_):=st' S2 H2 (Same.refl _) I2.sub
 let(I',un):=I2.frz m e2 e1 o2
 exact⟨true,_,l,l',rfl,⟨vs,SqL.of o2⟩,⟨ws,h2⟩,k _ L2 q _ _ S2 H2 I' un rfl (DR (t:=true) (λL σ S' H I s=>⟨vs,SqL.of (I.prs (l,.lst vs) dX).1,o3.mono s⟩) λL σ S H I s=>st' S H s I.sub) s2⟩
end
@[scoped simp ↓] theorem LI (i:Nat)(eb:EW)(L:m7)(Q:List FV->m7->Prop):DU i eb L Q=(wp (lk L i) λ_=>eb L λy L1=>wp (lk L1 i) λx=>wp (oG x) λxs=>wp (oG y) λys=>Q (pY xs ys) L1):=propext mx
end Kq
namespace Kq
open PySem PySem.Spec PyProof.Rows L2
def sD (o:HO):Prop:=∀ xs,o≠.tup xs
theorem BM {v:FV}{xs:List V}:sD (xX v xs):=λys z=>by
 have:=qC v xs
 rw[show xX v xs=.tup ys from z] at this
 cases this
mutual
noncomputable def Ke:FV->Bool
 | .lst _=>false
 | .scr _=>false
 | .tup xs=>noLs xs
 | .dct _ _=>false
 | .dci _ _=>false
 | .dcz _ _ _=>false
 | .obj _ _ _ _=>false|.dcn _ _ _=>false
 | .non=>true|.bl _=>true|.int _=>true|.str _=>true|.shn _=>true
noncomputable def noLs:List FV->Bool
 | []=>true
 | x :: r=>Ke x && noLs r
end
def GL (i:Nat)(r:AW):AW:=λL Q=>wp (lk L i) λ_=>r L λxs L1=>wp (lk L1 i) λx=>Q (x :: xs) L1
def xq (call:CW) (f:Nat)(a:AW):EW:=λL Q=>a L λxs L1=>call f xs λz=>wp (tQ z.1) λps=>noLs ps=true/\Q z.1 L1
def RHs (K:kj)(S H:Hp)(os:List m4):List FV->List V->Prop
 | [],vs=>vs=[]
 | p :: ps,vs=>∃ v r,vs=v :: r/\(RV K S p v ∨ ∃ a,v=.ref a/\a∈os/\OwnAt K S H a p)/\RHs K S H os ps r
inductive lah (K:kj)(md:Md)(e:AW)(σ:L2.St)(H:Hp)(Q:List V->Hp->Prop):Prop
 | mk (c:_)(L:_)(S:_)(Q0:_)(_:Iv K c md L σ S H)(_:e L Q0)(_:∀ v L',Q0 v L'->∀ x S' H' os,RHs K S' H' os v x->(∀ a∈os,S' a=none/\∃ o,H' a=some o/\sD o)->Iv K c md L' σ S' H'->Same S S'->Q x H'):lah K md e σ H Q
def Ku (X:Cx)(C:CC)(x:List Expr)(e:AW):Prop:=PA X.nox x (lah X.K C.md e)
section
variable {K:kj}{S H S' H':Hp}{os os':List m4}
theorem RHs.more:∀ {ps:List FV}{vs:List V},RHs K S H os ps vs->(∀ a∈os,a∈os')->RHs K S H os' ps vs
 | [],vs,h,_=>h
 | p :: ps,vs,q1,k=>by let(v,r,e,h1,h2):=q1;exact⟨v,r,e,h1.imp_right λq2=>by let(a,e,m,o):=q2;exact⟨a,e,k a m,o⟩,RHs.more h2 k⟩
def qI (S H:Hp)(os:List m4):Hp:=λa=>if a∈os then H a else S a
theorem rW (h:∀ a∈os,S a=none/\∃ o,H a=some o/\sD o):Same S (qI S H os):=λa o e=>by
 unfold qI
 by_cases m:a∈os
 ·rw[(h a m).1] at e;cases e
 ·rw[if_neg m];exact e
theorem Bp (s:Same S H):Same (qI S H os) H:=λa o e=>by
 unfold qI at e
 by_cases m:a∈os
 ·rw[if_pos m] at e;exact e
 ·rw[if_neg m] at e;exact s a o e
theorem RHs.vals (h:∀ a∈os,S a=none/\∃ o,H a=some o/\sD o):∀ {ps:List FV}{vs:List V},RHs K S H os ps vs->RVs K (qI S H os) ps vs
 | [],vs,e=>e
 | p :: ps,vs,q1=>by
  let(v,r,e,h1,h2):=q1
  refine⟨v,r,e,?_,RHs.vals h h2⟩
  rcases h1 with h1|⟨a,rfl,m,o1,qs,xs,e9,o2,o3⟩
  ·exact h1.mono (rW h)
  ·have o4:qI S H os a=some (xX p xs):=by unfold qI;rw[if_pos m];exact o2
   have o5:=o3.mono (rW h)
   cases p with
   | lst ps=>cases e9;exact⟨a,xs,rfl,o4,o5⟩
   | dct ks ws=>let(hl,rfl):=qM e9;exact⟨a,xs,rfl,hl,o4,o5⟩
   | dci ks ws=>let(hl,rfl):=qM e9;exact⟨a,xs,rfl,hl,o4,o5⟩
   | dcz o ks ws=>let(hl,rfl):=qM e9;exact⟨a,xs,rfl,hl,o4,o5⟩
   | obj C dx fs gs=>cases e9;exact⟨a,rfl,o4⟩
   | dcn z ks ws=>let(hl,rfl):=qM e9;exact⟨a,xs,rfl,hl,o4,o5⟩
   | _=>cases e9
def rQ (S:Hp)(os:List m4):Hp:=λa=>if a∈os then none else S a
mutual
theorem RV.less {K:kj}{S:Hp}{os:List m4}(h:∀ a∈os,∃ o,S a=some o/\sD o):∀ {p:FV}{v:V},Ke p=true->RV K S p v->RV K (rQ S os) p v
 | .non,v,_,e=>e
 | .bl b,v,_,e=>e
 | .int i,v,_,e=>e
 | .str _,v,_,e=>e
 | .shn _,v,_,e=>e
 | .tup ps,v,n,q1=>by let(a,xs,e,h1,h2):=q1;exact⟨a,xs,e,by
   unfold rQ
   rw[if_neg λm=>by let(zs,z,n):=h a m;rw[z] at h1;cases h1;exact n _ rfl];exact h1,RVs.less h (show noLs ps=true from n) h2⟩
 | .dct ks vs,v,n,_=>gF (show false=true from n)
 | .dci ks vs,v,n,_=>gF (show false=true from n)
 | .dcz _ ks vs,v,n,_=>gF (show false=true from n)
 | .obj _ _ _ _,v,n,_=>gF (show false=true from n)
 | .dcn _ _ _,v,n,_=>gF (show false=true from n)
 | .lst ps,v,n,_=>gF (show false=true from n)
 | .scr ps,v,n,_=>gF (show false=true from n)
theorem RVs.less {K:kj}{S:Hp}{os:List m4}(h:∀ a∈os,∃ o,S a=some o/\sD o):∀ {ps:List FV}{vs:List V},noLs ps=true->RVs K S ps vs->RVs K (rQ S os) ps vs
 | [],vs,_,e=>e
 | p :: ps,vs,n,q1=>by
  let(v,r,e,h1,h2):=q1
  have n:Ke p=true/\noLs ps=true:=b2 n
  exact⟨v,r,e,RV.less h n.1 h1,RVs.less h n.2 h2⟩
end
variable {c:Cn}{md:Md}{L:m7}{σ:L2.St}
theorem FC (I:Iv K c md L σ S H)(h:∀ a∈os,S a=none/\∃ o,H a=some o/\sD o){w:FV}(k:Kept K (qI S H os) H S' H' none w):Iv K c md L σ (rQ S' os) H'/\Same S (rQ S' os):=by
 have s:Same S (rQ S' os):=λa o e=>by
  unfold rQ
  by_cases m:a∈os
  ·rw[(h a m).1] at e;cases e
  ·rw[if_neg m];exact k.same a o (rW h a o e)
 refine⟨I.go3 s (λa o e=>?_) (λa o e=>?_) λa o e=>k.keep a o e (by simp),s⟩
 ·unfold rQ at e
  by_cases m:a∈os
  ·rw[if_pos m] at e;cases e
  ·rw[if_neg m] at e;exact k.sub a o e
 ·unfold rQ at e
  by_cases m:a∈os
  ·rw[if_pos m] at e;cases e
  ·rw[if_neg m] at e
   rcases k.grow a o e with e2|e2
   ·unfold qI at e2
    rw[if_neg m] at e2
    exact .inl e2
   ·exact .inr e2
theorem FH (h:∀ a∈os,S a=none/\∃ o,H a=some o/\sD o){w:FV}(k:Kept K (qI S H os) H S' H' none w):∀ a∈os,∃ o,S' a=some o/\sD o:=λa m=>by
 let(o,e,n):=(h a m).2
 exact⟨o,k.same a _ (by unfold qI;rw[if_pos m];exact e),n⟩
end
section
variable {X:Cx}{C:CC}{n:Nat}{sp:kj->Nat->Sp}{a:Expr}{ea:EW}{pos p:Pos}{call:CW}{f i:Nat}{nx:Str}{xs:List Expr}{as:AW}
theorem PX (h:FA X C xs as):Ku X C xs as:=PA.imp h λσ H Q q1=>by let(c,L,S,Q0,I,h,k):=q1;exact⟨c,L,S,Q0,I,h,λv L' q x S' H' r I' s=>by
 have:∀ {ps:List FV}{vs:List V},RVs X.K S' ps vs->RHs X.K S' H' [] ps vs:=by
  intro ps
  induction ps with
  | nil=>intro vs h;exact h
  | cons p ps ih=>intro vs ⟨v,r,e,h1,h2⟩;exact⟨v,r,e,.inl h1,ih h2⟩
 exact k v L' q x S' H' [] (this r) (λa h=>by simp at h) I' s⟩
theorem Mc (hs:nC a=false)(ha:FE X C a ea)(hr:Ku X C xs as):Ku X C (a :: xs) (m6 ea as):=PA.imp (nE ha hr (m8 hs)) λσ H Q q1=>by let(c,L,S,Q0,I,h,k):=q1;exact
 ⟨c,L,S,_,I,h,λv L1 hv x S1 H1 r1 I1 s1=>⟨c,L1,S1,_,I1,hv,λvs L2 hvs us S2 H2 os r2 ho I2 s2=>k _ L2 hvs _ S2 H2 os ⟨x,us,rfl,.inl (r1.mono s2),r2⟩ ho I2 (s1.trans s2)⟩⟩
theorem NP (G:Good X C n sp)(h:C.nm i nx=true)(m:nq C.md i≠.imm)(hr:Ku X C xs as):Ku X C (.Name nx p :: xs) (GL i as):=PA.imp (nE (oR G h) hr (m8 rfl)) λσ H Q q1=>by
 let(c,L,S,Q0,I,h,k):=q1
 let(v,e,h):=oE h
 have e:=(o8 _ _ _).mp e
 let(l,e1,_,_):=I.own i v m e
 refine⟨_,e1,c,L,S,_,I,h,λvs L2 hvs us S2 H2 os r2 ho I2 s2=>?_⟩
 let(v2,e2,q):=oE hvs
 have e2:=(o8 _ _ _).mp e2
 let(l2,f1,o,_):=I2.own i v2 m e2
 rw[e1] at f1;cases f1
 refine k _ L2 q _ S2 H2 (l :: os) ⟨.ref l,us,rfl,.inr ⟨l,rfl,dX,o⟩,r2.more λa h=>cM _ h⟩ (λa ha=>?_) I2 s2
 rcases jP.mp ha with rfl|ha
 ·let(o1,qs,zs,_,o2,_):=o
  exact⟨o1,_,o2,BM⟩
 ·exact ho a ha
theorem L6 (G:Good X C n sp)(e:sp X.K f=Ex X.K call false true f)(hf:C.fns[f]?=some nx)(hg:C.gl nx=true)(hd:(nx == ("__debug__":Str))=false)(hs:pi (a :: xs)=true)(ha:Ku X C (a :: xs) as):FF X C (.Call (.Name nx p) (a :: xs) [] pos) (xq call f as) :=
 PE.imp (sP G hf hg hd hs ha) λσ H Q q1=>by let(c,L,S,Q0,I,h,k):=q1;exact⟨c,L,S,_,I,h,λvs L1 hv us S1 H1 os r1 ho I1 s1=>by
  rw[e]
  refine⟨qI S1 H1 os,vs,_,Bp I1.sub,r1.vals ho,hv,λz q x S' H' kp r=>?_⟩
  let(z1,z2):=z
  let(a,rfl,(o1,ps,zs,ez,o2,o3),hn):=r
  let(ps',e1,e2,q):=oE q
  cases qE e1
  cases ez
  let(I2,s2):=FC I1 ho kp
  have ha':a ∉ os:=λm=>by let(_,zs,e,_):=ho a m;rw[hn] at e;cases e
  exact k _ L1 q a _ H' ⟨by unfold rQ;rw[if_neg ha'];exact o1,_,zs,rfl,o2,RVs.less (FH ho kp) e2 o3⟩ (I1.fresh hn) I2 (s1.trans s2)⟩
end
@[scoped simp ↓] theorem N9 (i:Nat)(r:AW)(L:m7)(Q:List FV->m7->Prop):GL i r L Q=(wp (lk L i) λ_=>r L λxs L1=>wp (lk L1 i) λx=>Q (x :: xs) L1):=propext mx
@[scoped simp ↓] theorem Kn (call:CW) (f:Nat)(a:AW)(L:m7)(Q:FV->m7->Prop):xq call f a L Q=(a L λxs L1=>call f xs λz=>wp (tQ z.1) λps=>noLs ps=true/\Q z.1 L1):=propext mx
@[scoped simp] theorem M6 (b:Int):Ke (.int b)=true:=OH rfl
@[scoped simp] theorem Ls:noLs []=true:=OH rfl
@[scoped simp] theorem Kd (x:FV)(r:List FV):noLs (x :: r)=(Ke x && noLs r):=OH rfl
theorem uy {α:Type}(f:α->FV)(h:∀ x,Ke (f x)=true):∀ xs:List α,noLs (xs.map f)=true
 | []=>by simp
 | x :: r=>by simp[h x,uy f h r]
def HE (v:FV):Option FV:=(tQ v).map λxs=>.lst xs.reverse
def zT (f:FV->Option FV) (i:Nat):EW:=λL Q=>wp (lk L i) λx=>wp (f x) λz=>Q .non (L.set i (some z))
section
variable {X:Cx}{C:CC}{n:Nat}{sp:kj->Nat->Sp}{p:Pos}{i:Nat}{nx:Str}
theorem IK (G:Good X C n sp){ZZ Z0:Pos}(h:C.nm i nx=true)(m:nq C.md i=.own)(hl:JF ZZ Z0=true):FE X C (.Call (.Attribute (.Name nx p) (ke "reverse") ZZ) [] [] Z0) (zT HE i):=by
 refine PE.imp (Ia bo PySem.F.slot_list_reverse PySem.F.type_list_reverse zA (oR G h) rfl hl) λσ H Q q1=>?_;let(c,L,S,Q0,I,h,k):=q1
 let(v,e,h):=oE h
 let(z,e3,q):=oE h
 have e':=(o8 _ _ _).mp e
 have mi:nq C.md i≠.imm:=λz=>by rw[m] at z;cases z
 let(l,e1,(o1,ps,xs,e9,h1,h2),_):=I.own i v mi e'
 let(qs,e4,rfl):=sm e3
 cases qE e4
 cases e9
 refine⟨_,e1,.inl ⟨rfl,xs,SqL.of h1⟩,?_⟩
 exact⟨l,xs,rfl,rfl,h1,k _ _ q .non S _ rfl (I.write m e' e1 h2.rev) (Same.refl S)⟩
end
@[scoped simp ↓] theorem Kh (f:FV->Option FV) (i:Nat)(L:m7)(Q:FV->m7->Prop):zT f i L Q=(wp (lk L i) λx=>wp (f x) λz=>Q .non (L.set i (some z))):=propext mx
@[scoped simp ↓] theorem k_rev (xs:List FV)(Q:FV->Prop):wp (HE (.lst xs)) Q↔Q (.lst xs.reverse):=mx
end Kq
namespace Kq
open PySem PySem.Spec PyProof.Rows L2
theorem C4 (ks:List Int)(us:List V) (k:Int)(u:V)(hl:ks.length=us.length):qd ((pQ ks).zip us) (Sum.inl k) u=(pQ (oS ks us k u).1).zip (oS ks us k u).2:=by
 have hany:(((pQ ks).zip us).any λkv=>decide (kv.1=Sum.inl k))=true↔k∈ks:=by
  rw[sr,sK,pF k hl]
 unfold qd oS
 by_cases e:k∈ks
 ·rw[if_pos (hany.mpr e),if_pos e]
  clear e hany
  induction ks generalizing us with
  | nil=>cases us<;>rfl
  | cons k' ks ih=>cases us with
   | nil=>rfl
   | cons u' us =>
    have:=ih us (by simpa using hl)
    show (if (Sum.inl k':Int ⊕ Option Str)=Sum.inl k then (Sum.inl k',u) else (Sum.inl k',u')) :: ((pQ ks).zip us).map _=(Sum.inl k',if k'=k then u else u') :: (pQ ks).zip _
    rw[this]
    congr 1
    by_cases e:k'=k
    ·subst e;simp
    ·rw[if_neg λz=>e (kP z),if_neg e]
 ·rw[if_neg λz=>e (hany.mp z),if_neg e]
  show _=(pQ (ks++[k])).zip (us++[u])
  have:pQ (ks++[k])=pQ ks++[Sum.inl k]:=by simp[pQ]
  rw[this,ic (by simpa[pQ] using hl)];rfl
theorem B2 {κ α β:Type} [DecidableEq κ] {ks:List κ}{vs:List α}{us:List β}{k:κ}(h1:ks.length=vs.length)(h2:ks.length=us.length)(h:n9 ks vs k=none):n9 ks us k=none:=by
 have a:=pF (α:=α) k h1
 have b:=pF (α:=β) k h2
 cases e:n9 ks us k with
 | none=>rfl
 | some u =>
  rw[e] at b
  have:=a.mpr (b.mp rfl)
  rw[h] at this;cases this
def Jv (v w:FV):Option (Option FV):=match v with
 | .dct ks vs=>(qp w).bind λps=>(oq ps).bind λk=>some (n9 ks vs k)
 | .dci ks vs=>(o9 w).bind λk=>some (n9 ks vs k)
 | .dcz _ ks vs=>(qp w).bind λps=>(oq ps).bind λk=>some (n9 ks vs k)
 | _=>none
def Qe (v w:FV):Option FV:=(Jv v w).bind id
def zX (v w:FV):Option FV:=(Jv v w).map λo=>o.getD .non
def FU:FV->Option Unit
 | .dct _ _=>some ()
 | .dci _ _=>some ()
 | _=>none
def yI (v j x:FV):Option FV:=match v with
 | .dct ks vs=>(qp j).bind λps=>(oq ps).bind λk=>if ks.length<big then some (.dct (oS ks vs k x).1 (oS ks vs k x).2) else none
 | .dci ks vs=>(o9 j).bind λk=>if ks.length<big then some (.dci (oS ks vs k x).1 (oS ks vs k x).2) else none
 | _=>none
def RO (K:kj)(S:Hp):Option FV->Option V->Prop
 | none,o=>o=none
 | some p,o=>∃ u,o=some u/\RV K S p u
section
variable {K:kj}{S H:Hp}
theorem zm {κ:Type} [DecidableEq κ] {ks:List κ}{vs:List FV}{us:List V}{k:κ}(h1:ks.length=vs.length)(r:RVs K S vs us):RO K S (n9 ks vs k) (n9 ks us k):=by
 cases e:n9 ks vs k with
 | none=>exact B2 h1 (by rw[h1,r.length]) e
 | some p=>exact uQ r e
theorem RH.dcz {o:Obj}{ks:List (List Int)}{vs:List FV}{x:V}(hs:Same S H)(r:RH K S H (.dcz o ks vs) x):∃ a us,x=.ref a/\ks.length=vs.length/\H a=some (.frz o (.dT ((oH ks).zip us)))/\RVs K S vs us:=by
 rcases r with⟨a,xs,e,h0,h1,h2⟩|⟨a,e,_,qs,xs,e2,h1,h2⟩
 ·exact⟨a,xs,e,h0,hs _ _ h1,h2⟩
 ·let(hl,rfl):=qM e2
  exact⟨a,xs,e,hl,h1,h2⟩
theorem A1 {v w:FV}{x y:V}{o:Option FV}(hs:Same S H)(rv:RH K S H v x)(rw':RH K S H w y)(e:Jv v w=some o):∃ a o',x=.ref a/\L2.DGet H a y o'/\RO K S o o':=by
 cases v with
 | dct ks vs =>
  let(ps,e1,e2):=oY e
  let(k,e3,e4):=oY e2
  cases oX e1
  cases e4
  let(a,us,rfl,hl,h1,h2):=rv.dct hs
  let(b,rfl,hb):=uO (rw'.val rfl) e3
  refine⟨a,n9 ks us k,rfl,?_,zm hl h2⟩
  rw[<- sL]
  exact .t h1 (hs _ _ hb)
 | dci ks vs =>
  let(k,e3,e4):=oY e
  cases nN e3
  cases e4
  cases rw'.int
  let(a,us,rfl,hl,h1,h2):=rv.dci hs
  refine⟨a,n9 ks us k,rfl,?_,zm hl h2⟩
  rw[<- sK]
  exact .k (k:=Sum.inl k) h1
 | dcz o ks vs =>
  let(ps,e1,e2):=oY e
  let(k,e3,e4):=oY e2
  cases oX e1
  cases e4
  let(a,us,rfl,hl,h1,h2):=rv.dcz hs
  let(b,rfl,hb):=uO (rw'.val rfl) e3
  refine⟨a,n9 ks us k,rfl,?_,zm hl h2⟩
  rw[<- sL]
  exact .inr ⟨_,_,b,.inr ⟨o,h1⟩,rfl,hs _ _ hb,rfl⟩
 | _=>cases e
theorem FT {v:FV}{x:V}{u:Unit}(hs:Same S H)(rv:RH K S H v x)(e:FU v=some u):∃ a,x=.ref a/\L2.IsD H a:=by
 cases v with
 | dct ks vs =>
  let(a,us,rfl,hl,h1,h2):=rv.dct hs
  exact⟨a,rfl,.inr ⟨_,.inl h1⟩⟩
 | dci ks vs =>
  let(a,us,rfl,hl,h1,h2):=rv.dci hs
  exact⟨a,rfl,.inl ⟨_,.inl h1⟩⟩
 | _=>cases e
end
def Ea (i:Nat)(b:EW):EW:=λL Q=>wp (lk L i) λv=>wp (FU v) λ_=>b L λy L1=>wp (lk L1 i) λx=>wp (zX x y) λz=>Q z L1
def xQ (k:Nat)(i e:EW):SW:=λL Q=>wp (lk L k) λ_=>e L λx L1=>i L1 λj L2=>wp (lk L2 k) λy=>wp (yI y j x) λz=>Q .next (L2.set k (some z))
def zU (ek ev:EW):EW:=λL Q=>ek L λk L1=>ev L1 λv L2=>wp (o9 k) λi=>Q (.dci [i] [v]) L2
section
variable {K:kj}{c:Cn}{md:Md}{L:m7}{σ:L2.St}{S H:Hp}
theorem Iv.writeV (I:Iv K c md L σ S H){i:Nat}{v w:FV}{a:m4}{ps:List FV}{xs:List V}(m:nq md i=.own)(e:L[i]?=some (some v))(e1:σ[i]?=some (some (.ref a)))(hw:Fk w=some ps)(r:RVs K S ps xs) :
  Iv K c md (L.set i (some w)) σ S (oj H a (xX w xs)):=by
 let(a',e1',(h1,_),_):=I.own i v (λz=>by rw[m] at z;cases z) e
 rw[e1] at e1';cases e1'
 exact I.back m e e1 (Same.refl S) (λb o z=>by rw[nv λy=>by subst y;rw[h1] at z;cases z];exact I.sub b o z) (λb o z=>.inl z) (λb o z n=>by rw[nv n];exact z) ⟨h1,ps,xs,hw,nD,r⟩
theorem Eb {i:Nat}{v j x z:FV}{a:m4}{y u:V}(I:Iv K c md L σ S H)(m:nq md i=.own)(e:L[i]?=some (some v))(e1:σ[i]?=some (some (.ref a)))(rj:RV K S j y)(rx:RV K S x u)(h:yI v j x=some z):∃ H',L2.DPut H a y u H'/\Iv K c md (L.set i (some z)) σ S H':=by
 let(a',f1,(o1,ps,us,e9,o2,o3),_):=I.own i v (λz=>by rw[m] at z;cases z) e
 rw[e1] at f1;cases f1
 have hbl:=oW
 cases v with
 | dct ks vs =>
  let(qs,g1,h):=oY h
  let(k,g2,h):=oY h
  let(hb,rfl):=qM h
  let(hl,rfl):=qM e9
  cases oX g1
  let(b,rfl,hkb):=uO rj g2
  have hu:ks.length=us.length:=by rw[hl,o3.length]
  let(p1,p2):=ur (ks:=ks) (k:=k) o3 rx
  refine⟨_,.t o2 (I.sub _ _ hkb) (by simp[oH];lia),?_⟩
  rw[Am ks us k u hu,<- p1]
  exact I.writeV (w:=.dct _ _) m e e1 (if_pos (qq ks _ k x hl).1) p2
 | dci ks vs =>
  let(k,g2,h):=oY h
  let(hb,rfl):=qM h
  let(hl,rfl):=qM e9
  cases nN g2
  cases (show y=V.int k from rj)
  have hu:ks.length=us.length:=by rw[hl,o3.length]
  let(p1,p2):=ur (ks:=ks) (k:=k) o3 rx
  refine⟨_,.k (k:=Sum.inl k) o2 (by simp[pQ];lia),?_⟩
  rw[C4 ks us k u hu,<- p1]
  exact I.writeV (w:=.dci _ _) m e e1 (if_pos (qq ks _ k x hl).1) p2
 | _=>cases h
end
section
variable {X:Cx}{C:CC}{n:Nat}{sp:kj->Nat->Sp}{fr:Bool}{a b:Expr}{ea eb:EW}{pos p px:Pos}{i:Nat}{nx:Str}
theorem LY:FF X C (.Dict [] [] pos) (eC (.dct [] [])):=PE.imp Dm λσ H Q q1=>by let(c,L,S,Q0,I,h,k):=q1;exact λp hp=>k _ L h p S _ ⟨I.sn hp,[],[],rfl,nD,rfl⟩ (I.fresh hp) (I.lay hp _) (Same.refl S)
theorem LZ (ha:FE X C a ea)(hb:FE X C b eb):FF X C (.Dict [some a] [b] pos) (zU ea eb):=PE.imp (Fe (Db ha hb Fa) rfl rfl (by simp) (by simp)) λσ H Q ⟨c,L,S,Q0,I,h,k⟩=>λp hp=>by
 have fr0:=I.fresh hp
 have I0:=I.lay hp (.dK [])
 have I1:=I0.prot (a:=p) (o:=.dK []) nD (I.sn hp) λy u hy hu=>fr0.2.2 y u (Mo.w_imm hy) hu
 refine⟨_,L,S,_,I1,h,λv L1 q x S1 H1 r1 J1 s1=>⟨_,L1,S1,_,J1,q,λw L2 q2 y S2 H2 r2 J2 s2=>?_⟩⟩
 let(kk,e,q2):=oE q2
 cases nN e
 cases (show x=V.int kk from r1)
 let(g1,g2,g3):=J2.prs (p,.dK []) dX
 refine⟨g1,[(Sum.inl kk,y)],rfl,by simp,?_⟩
 have J3:=J2.regrow (o':=.dK (sV [] [(Sum.inl kk,y)])) (I.h0 hp) (λq hq=>fr0.2.1 q hq) I.fzp
 have J4:=J3.unprot I.fzp
 let(_,f2,f3):=J3.prs _ dX
 refine k _ L2 q2 p S2 _ ⟨f2,[w],[y],rfl,nD,RVs.one r2⟩ ⟨I.h0 hp,fr0.2.1,λz u hz hu hs=>?_⟩ J4 (s1.trans s2)
 by_cases mo:(nq C.md z).w=true
 ·exact f3 z u mo hu hs
 ·have mo:nq C.md z=.frz:=by cases t:nq C.md z with|imm=>exact absurd t hz|frz=>rfl|_=>rw[t] at mo;exact absurd rfl mo
  let(b',h1):=J4.fzm z u mo hu
  let(_,h2,_):=J4.fzs _ h1
  rw[hs] at h2;cases h2
  let(ys,h3):=I.fzp _ h1
  exact fr0.2.1 _ h3 rfl
theorem Pt (G:Good X C n sp)(hs:qF b=false)(h:C.nm i nx=true)(hb:FR X C b eb):FE X C (.Subscript (.Name nx p) b pos) (pU Qe i eb):=PE.imp (At (X:=X.nox) (by have:=G.room.units;show X.A.units+1<cLine;lia) (oR G h) hb (ut hs)) λσ H Q q1=>by
 let(c,L,S,Q0,I,h,k):=q1
 let(v0,e,h):=oE h
 let(x,e1,_):=I.rd e
 refine⟨x,e1,c,L,S,_,I,h,λw L2 hw y S2 H2 r2 I2 s2=>?_⟩
 let(v,e2,q):=oE hw
 let(x',e3,r1):=I2.rd e2
 rw[e1] at e3;cases e3
 let(z,e4,q):=oE q
 let(o,e5,e6):=oY e4
 let(a,o',rfl,g,ro):=A1 I2.sub r1 r2 e5
 cases (show o=some z from e6)
 let(u,rfl,r5):=ro
 exact⟨a,u,rfl,g,k z L2 q u S2 H2 r5 I2 s2⟩
theorem NK (G:Good X C n sp){ZZ Z0:Pos}(h:C.nm i nx=true)(hl:JF ZZ Z0=true)(hs:nC b=false)(hb:FR X C b eb):FE X C (.Call (.Attribute (.Name nx p) (ke "get") ZZ) [b] [] Z0) (Ea i eb):=by
 refine PE.imp (Dn (X:=X.nox) (by have:=G.room.units;show X.A.units+1<cLine;lia) (oR G h) hb ⟨rfl,by rw[m8 hs];rfl,hl,by rw[m8 hs];rfl⟩) λσ H Q ⟨c,L,S,Q0,I,h,k⟩=>?_
 let(v0,e,h):=oE h
 let(u0,e0,h):=oE h
 let(x,e1,r0):=I.rd e
 let(a,rfl,hd):=FT I.sub r0 e0
 refine⟨_,e1,a,rfl,hd,c,L,S,_,I,h,λw L2 hw y S2 H2 r2 I2 s2=>?_⟩
 let(v,e2,q):=oE hw
 let(x',e3,r1):=I2.rd e2
 rw[e1] at e3;cases e3
 let(z,e4,q):=oE q
 let(o,e5,rfl):=sm e4
 let(a',o',e6,g,ro):=A1 I2.sub r1 r2 e5
 cases e6
 refine⟨o',g,k _ L2 q _ S2 H2 ?_ I2 s2⟩
 cases o with
 | none=>cases (show o'=none from ro);exact rfl
 | some q=>let(u,rfl,r5):=ro;exact r5
theorem Nt (G:Good X C n sp)(hn:C.nm i nx=true)(m:nq C.md i=.own)(hc:(!tf a && !qF b)=true)(ha:FE X C a ea)(hb:FE X C b eb):FS X C fr (.Assign [.Subscript (.Name nx px) b p] a pos) (xQ i eb ea):=by
 have hc:=b2 hc
 refine PS.imp (E8 (X:=X.nox) (by have:=G.room.units;show X.A.units+1<cLine;lia) (oR (pos:=px) G hn) hb ha (qR (nb hc.1))) λD σ H ⟨c,L,S,Q0,I,h,k⟩=>?_
 have mi:nq C.md i≠.imm:=λz=>by rw[m] at z;cases z
 let(v0,e,h):=oE h
 let(l,e1,_):=I.own i v0 mi ((o8 _ _ _).mp e)
 refine⟨c,L,S,_,I,h,λv L1 q x S1 H1 r1 I1 s1=>⟨_,e1,c,L1,S1,_,I1,q,λw L2 q y S2 H2 r2 I2 s2=>?_⟩⟩
 let(v1,e2,q2):=oE q
 let(z,e3,q3):=oE q2
 have e2:=(o8 _ _ _).mp e2
 let(H3,g,I3):=Eb I2 m e2 e1 r2 (r1.mono s2) e3
 exact⟨l,H3,rfl,g,k .next _ q3 σ S2 _ I3 (s1.trans s2)⟩
end
section
variable (Q:FV->Prop)(i:Nat)(L:m7)
@[scoped simp ↓] theorem Mg (b:EW)(Q:FV->m7->Prop):Ea i b L Q=(wp (lk L i) λv=>wp (FU v) λ_=>b L λy L1=>wp (lk L1 i) λx=>wp (zX x y) λz=>Q z L1):=propext mx
@[scoped simp ↓] theorem KR (k:Nat)(i e:EW)(Q:FFl->m7->Prop):xQ k i e L Q=(wp (lk L k) λ_=>e L λx L1=>i L1 λj L2=>wp (lk L2 k) λy=>wp (yI y j x) λz=>Q .next (L2.set k (some z))):=propext mx
@[scoped simp ↓] theorem Kj (ek ev:EW)(Q:FV->m7->Prop):zU ek ev L Q=(ek L λk L1=>ev L1 λv L2=>wp (o9 k) λi=>Q (.dci [i] [v]) L2):=propext mx
@[scoped simp ↓] theorem isD_i (ks:List Int)(vs:List FV)(Q:Unit->Prop):wp (FU (.dci ks vs)) Q=Q ():=propext mx
@[scoped simp ↓] theorem k_dgi (ks:List Int)(vs:List FV) (k:Int):wp (Qe (.dci ks vs) (.int k)) Q=wp (n9 ks vs k) Q:=propext mx
@[scoped simp ↓] theorem OP (ks:List Int)(vs:List FV) (k:Int):wp (zX (.dci ks vs) (.int k)) Q=Q ((n9 ks vs k).getD .non):=propext mx
@[scoped simp ↓] theorem M9 (ks:List (List Int))(vs ps:List FV)(x:FV):wp (yI (.dct ks vs) (.tup ps) x) Q↔wp (oq ps) λk=>ks.length<big/\Q (.dct (oS ks vs k x).1 (oS ks vs k x).2):=by
 show wp ((oq ps).bind _) Q↔_;rw[pC];simp only[pK]
@[scoped simp ↓] theorem Na (ks:List Int)(vs:List FV) (k:Int)(x:FV):wp (yI (.dci ks vs) (.int k) x) Q↔ks.length<big/\Q (.dci (oS ks vs k x).1 (oS ks vs k x).2):=pK _ _ _
end
theorem GY:∀ {us:List mM}{ns:List Int},mw us ns->Vals (ns.map V.int) us
 | _,_,.nil=>.nil
 | _,_,.cons n t h=>.cons ⟨t,rfl⟩ (GY h)
def Al (v:FV):Option FV:=(pP v).bind λxs=>(oq xs).map λns=>.int ns.sum
section
variable {X:Cx}
theorem Cf (hc:X.calm=true):og X (.builtin "sum") (λxs H Q=>∃ (a:m4)(ns:List Int),xs=[.ref a]/\SqL X.K H a (ns.map V.int)/\Q (.int ns.sum) H):=by
 intro Z9 s σ H xs us Q I r h
 let(a,ns,rfl,hq,q):=h
 let(u,rfl,rx):=vals1 r
 cases rx
 let(Z7,r',pl,hz'):=I.list hq
 have hlen:ns.length=Z7.length:=by have:=r'.length;simpa using this
 have alt:a<s.heap.objs.size:=by let(_,e,_):=pl.isList;exact kH e
 have hh:X.A.in1.handled=none:=I.ok.hd hc
 refine call_sum_walkG (eN pl.isList ?_)
 refine⟨s.heap.objs.size,_,_,_,_,_,λi=>ns.getD i 0,rfl,lA hh s.heap.objs.size a (kq alt) Z7.toArray,⟨⟨_,dj _ rfl,rfl,rfl⟩,pl.isList.at λo e=>bR _ e⟩,?_,?_,?_⟩
 ·intro b hb'
  simp at hb'
  rcases hb' with rfl|rfl
  ·show _<(s.heap.push _).objs.size;rw[jn];exact f8 _
  ·show _<(s.heap.push _).objs.size;rw[jn];exact fg alt
 ·intro i v hv
  have hv:Z7.toArray[i]?=some v:=hv
  have hi:i<ns.length:=by rw[hlen];simpa using (aK.mp hv).1
  let(t,e):=Vals.mapInt r' i hi
  refine⟨t,?_⟩
  have e':Z7.toArray[i]?=some (.int (ns.getD i 0) t):=by simpa using e
  rw[hv] at e'
  exact hW e'
 ·intro h' tk t' hk
  have e:preSum (λi=>ns.getD i 0) Z7.toArray.size=ns.sum:=by
   rw[fk,<- hlen,o7 ns _ (kT _),ge]
  rw[e]
  refine⟨.int ns.sum,H,?_,⟨t',rfl⟩,q⟩
  exact I.kept (t':=tk) λb o e=>hk b o (by simp;exact kq (kH e)) (bR _ e)
theorem Jz (hc:X.calm=true):og X (.builtin "sum") (Rc X.K Al):=by
 rintro Z9 s σ H xs us Q I r ⟨S,v,x,z,rfl,hs,rv,e,k⟩
 let(ps,e1,e2):=oY e
 let(ns,e3,rfl):=sm e2
 let(a,ys,rfl,hq,ry):=rv.list hs e1
 cases oI ry e3
 exact Cf hc Z9 s σ H _ us Q I r ⟨a,ns,rfl,hq,k.int⟩
end
section
variable {X:Cx}{C:CC}{n:Nat}{sp:kj->Nat->Sp}{a:Expr}{ea:EW}{pos p:Pos}
theorem NE (G:Good X C n sp)(hg:C.gl (ke "sum")=true)(hs:nC a=false)(ha:FR X C a ea):FE X C (.Call (.Name (ke "sum") p) [a] [] pos) (oh Al ea):=uX (Jz G.calm) G (by decide) (by nofun) (by nofun) (by nofun) hg hs ha
end
@[scoped simp ↓] theorem PZ (v:FV)(Q:FV->Prop):wp (Al v) Q↔wp (pP v) λxs=>wp (oq xs) λns=>Q (.int ns.sum):=by
 show wp ((pP v).bind _) Q↔_;rw[pC];simp only[pB]
end Kq
namespace Kq
open PySem PySem.Spec PyProof.Rows L2
inductive liv (K:kj)(md:Md)(it:AW)(σ:L2.St)(H:Hp)(R:It->Hp->Prop):Prop
 | mk (c:_)(L:_)(S:_)(Q0:_)(_:Iv K c md L σ S H)(_:it L Q0)(_:∀ xs L',Q0 xs L'->∀ J S' H',Iv K c md L' σ S' H'->(∀ c md,Cq K c md J xs S')->Same S S'->R J H'):liv K md it σ H R
def FIv (X:Cx)(C:CC)(tg Z5:Expr)(it:AW):Prop:=PI X.nox tg Z5 (liv X.K C.md it)
section
variable {X:Cx}{C:CC}{n:Nat}{sp:kj->Nat->Sp}
variable {scope:mN}{own:List Str}{Z3 ZY Z5 tgx2 iter2:Expr}{Z4 ifs2:List Expr}{it it2:AW}{tg tg2:Tg}{t t2:BW}{e:EW}{nn m:Nat}{md':Md}
structure CompOk2 (X:Cx)(C:CC) (n:Nat)(sp:kj->Nat->Sp)(scope:mN)(own:List Str)(Z3 ZY Z5:Expr)(Z4:List Expr)(tgx2 iter2:Expr)(ifs2:List Expr) (nn m:Nat)(md':Md)(it:AW)(tg:Tg)(t:BW)(it2:AW)(tg2:Tg)(t2:BW)(e:EW):Prop where
 st:(C.scOk scope own && decide (C.N.length=nn) && decide (own.length=m) && decide (md'.length<=nn) && DC C.md md' && pE md' tg && rN nn tg && !yp Z5)=true
 st2:(pE md' tg2 && rN nn tg2 && !yp iter2)=true
 it:FI X C md' ZY Z5 it
 tg:∀ X',Good X' (C.sub scope own md') n sp->FG X' ZY tg
 ts:∀ X',Good X' (C.sub scope own md') n sp->MJ X' (C.sub scope own md') Z4 t
 it2:∀ X',Good X' (C.sub scope own md') n sp->FIv X' (C.sub scope own md') tgx2 iter2 it2
 tg2:∀ X',Good X' (C.sub scope own md') n sp->FG X' tgx2 tg2
 ts2:∀ X',Good X' (C.sub scope own md') n sp->MJ X' (C.sub scope own md') ifs2 t2
 el:∀ X',Good X' (C.sub scope own md') n sp->FE X' (C.sub scope own md') Z3 e
theorem CompOk2.blk (G:Good X C n sp)(h:CompOk2 X C n sp scope own Z3 ZY Z5 Z4 tgx2 iter2 ifs2 nn m md' it tg t it2 tg2 t2 e):CScope X scope own/\(∀ fp D s H,PG (pH X scope own fp D s H) ZY (gT X.K tg)/\PTs (pH X scope own fp D s H) Z4 (lb X.K md' t)/\(PI (pH X scope own fp D s H) tgx2 iter2 (liv X.K md' it2)/\PG (pH X scope own fp D s H) tgx2 (gT X.K tg2)/\PTs (pH X scope own fp D s H) ifs2 (lb X.K md' t2)/\PE (pH X scope own fp D s H) Z3 (lv X.K md' e)/\∀ x,foldedSetIterable iter2 (pH X scope own fp D s H).env x=pure x))/\∀ v,foldedSetIterable Z5 X.env v=pure v:=by
 have h0:=b2 h.st;have h1:=b2 h0.1;have h2:=b2 h1.1;have h3:=b2 h2.1;have h4:=b2 h3.1;have h5:=b2 h4.1;have h6:=b2 h5.1
 have g0:=b2 h.st2
 let(s1,s2):=G.sub h6.1 md'
 exact⟨s1,λfp D s H=>⟨h.tg _ (s2 fp D s H),h.ts _ (s2 fp D s H),h.it2 _ (s2 fp D s H),h.tg2 _ (s2 fp D s H),h.ts2 _ (s2 fp D s H),h.el _ (s2 fp D s H),uT (nb g0.2)⟩,uT (nb h0.2)⟩
end
end Kq
namespace Kq
open PySem PySem.Spec PyProof.Rows L2
def zW (call:CW) (f:Nat)(ea:EW)(as:AW):EW:=λL Q=>ea L λv L1=>as L1 λvs L2=>call f (v :: vs) λz=>Q z.1 L2
@[scoped simp ↓] theorem Kl (call:CW) (f:Nat)(ea:EW)(as:AW)(L:m7)(Q:FV->m7->Prop):zW call f ea as L Q=ea L λv L1=>as L1 λvs L2=>call f (v :: vs) λz=>Q z.1 L2:=propext mx
section
variable {X:Cx}{C:CC}{n:Nat}{sp:kj->Nat->Sp}{a:Expr}{ea:EW}{pos p:Pos}{call:CW}
variable {K:kj}{c:Cn}{md:Md}{L:m7}{σ:L2.St}{S H S' H':Hp}{i j f:Nat}{nx:Str}{xs:List Expr}{as:AW}
theorem pf {L:m7}{j i:Nat}{v:FV}(z:(L.set j none)[i]?=some (some v)):i≠j/\L[i]?=some (some v):=by
 by_cases q:i=j
 ·subst q
  have hj:i<L.length:=by have:=(aN.mp z).1;rwa [iw] at this
  rw[bO hj] at z;cases z
 ·rw[cO (mq q)] at z;exact⟨q,z⟩
theorem Iv.drop (I:Iv K c md L σ S H)(hm:nq md j=.own)(hj:j≠0):Iv K c md (L.set j none) σ S H where
 len:=by rw[iw];exact I.len
 imm:=λi v h e=>I.imm i v h (pf e).2
 own:=λi v h e=>I.own i v h (pf e).2
 dis:=λi k v w a h1 h2 e1 e2=>I.dis i k v w a h1 h2 (pf e1).2 (pf e2).2
 sub:=I.sub
 frame:=I.frame
 s0:=I.s0
 grow:=I.grow
 lent:=λa h=>by
  let(g1,g2,g3):=I.lent a h
  rw[cO hj];exact⟨g1,g2,g3⟩
 fzs:=λp hp=>by
  let(g1,g2,g3):=I.fzs p hp
  have:p.1≠j:=λz=>by rw[z,hm] at g1;cases g1
  rw[cO (mq this)];exact⟨g1,g2,g3⟩
 fzm:=λi v h e=>I.fzm i v h (pf e).2
 fzp:=I.fzp
 prs:=λp hp=>let ⟨g1,g2,g3⟩:=I.prs p hp;⟨g1,g2,λi v h e=>g3 i v h (pf e).2⟩
 ntp:=I.ntp
 lnt1:=λq hq=>by
  let(g1,g2,g3):=I.lnt1 q hq
  have:q.1≠j:=λz=>by rw[z,hm] at g1;cases g1
  rw[cO (mq this)];exact⟨g1,g2,g3⟩
 tie:=λy k x C dx fs w h1 h2 h3 h4=>I.tie y k x C dx fs w h1 h2 (pf h3).2 (pf h4).2
theorem Iv.besides (I:Iv K c md L σ S H){l:m4}{w:FV}(fr:rz c md L σ l)(k:Kept K S H S' H' (some l) w):Iv K c md L σ S' H' where
 len:=I.len
 imm:=λi v h e=>let ⟨x,e1,r⟩:=I.imm i v h e;⟨x,e1,r.mono k.same⟩
 own:=λi v h e=>by
  let(a,e1,(h1,ps,xs,e2,h2,h3),h4):=I.own i v h e
  have ha:a≠l:=λz=>fr.2.2 i v h e (by rw[<- z];exact e1)
  have kp:=k.keep a _ h2 (λz=>ha (by cases z;rfl))
  refine⟨a,e1,⟨?_,ps,xs,e2,kp,h3.mono k.same⟩,h4⟩
  cases q:S' a with
  | none=>rfl
  | some o =>
   rcases k.grow a o q with z|z|z
   ·rw[h1] at z;cases z
   ·rw[h2] at z;cases z
   ·have:=k.sub a o q
    rw[kp] at this
    rw[<- hW this,qC] at z;cases z
 dis:=I.dis
 sub:=k.sub
 frame:=λa o h n n1=>k.keep a o (I.frame a o h n n1) (λz=>by cases z;rw[fr.1] at h;cases h)
 s0:=I.s0.trans k.same
 grow:=λa o h=>(k.grow a o h).elim (I.grow a o) λz=>z.elim (λz=>.inr (.inl (I.h0 z))) λz=>.inr (.inr z)
 lent:=I.lent
 fzs:=I.fzs
 fzm:=I.fzm
 fzp:=I.fzp
 prs:=λp hp=>by
  let(h1,h2,h3):=I.prs p hp
  have kp:=k.keep _ _ h1 (λz=>fr.2.1 p hp (by cases z;rfl))
  refine⟨kp,?_,h3⟩
  cases q:S' p.1 with
  | none=>rfl
  | some o =>
   rcases k.grow _ o q with z|z|z
   ·rw[h2] at z;cases z
   ·rw[h1] at z;cases z
   ·have:=k.sub _ o q
    rw[kp] at this
    rw[<- hW this,I.ntp p hp] at z;cases z
 ntp:=I.ntp
 lnt1:=I.lnt1
 tie:=I.tie
theorem Ma (G:Good X C n sp)(e:sp X.K f=Ex X.K call true false f)(hf:C.fns[f]?=some nx)(hg:C.gl nx=true)(hd:(nx == ("__debug__":Str))=false)(hs:pi (a :: xs)=true)(ha:FF X C a ea)(hr:FA X C xs as):FE X C (.Call (.Name nx p) (a :: xs) [] pos) (zW call f ea as):=by
 have h1:=b2 (show (!nC a && pi xs)=true from hs)
 refine PE.imp (sP G hf hg hd hs (nE ha hr (m8 (nb h1.1)))) λσ H Q q1=>?_;let(c,L,S,Q0,I,h,k):=q1
 refine⟨c,L,S,_,I,h,λv L1 q l S1 H1 o fr I1 s1=>?_⟩
 let(o1,ps,us,e9,o2,o3):=o
 have I2:=I1.prot o2 o1 λy u hy hu=>fr.2.2 y u (Mo.w_imm hy) hu
 refine⟨_,L1,S1,_,I2,q,λvs L2 hv ys S2 H2 r2 I3 s2=>?_⟩
 let(g1,g2,g3):=I3.prs (l,xX v us) dX
 have I4:=I3.unprot I1.fzp
 have fr2:rz c C.md L2 σ l:=⟨fr.1,fr.2.1,λy u hy hu hs=>by
  by_cases mo:(nq C.md y).w=true
  ·exact g3 y u mo hu hs
  ·have mo:nq C.md y=.frz:=by cases z:nq C.md y with|imm=>exact absurd z hy|frz=>rfl|_=>rw[z] at mo;exact absurd rfl mo
   let(b',f1):=I4.fzm y u mo hu
   let(_,f2,_):=I4.fzs _ f1
   rw[hs] at f2;cases f2
   let(ys,f3):=I1.fzp _ f1
   exact fr.2.1 _ f3 rfl⟩
 rw[e]
 refine⟨S2,v :: vs,_,I4.sub,⟨v,vs,l,ys,rfl,rfl,⟨g2,ps,us,e9,g1,o3.mono s2⟩,r2⟩,hv,λz q x S' H' kp r=>?_⟩
 exact k _ L2 q x S' H' r (I4.besides fr2 kp) ((s1.trans s2).trans kp.same)
end
def AS (md md':Md) (j:Nat):Bool:=decide (nq md j=.own) && decide (j≠0) && (lK (max md.length md'.length)).all λi=>decide (nq md' i=if i=j then .imm else nq md i)
theorem uU {md md':Md}{j:Nat}(h:AS md md' j=true):nq md j=.own/\j≠0/\nq md' j=.imm/\∀ i,i≠j->nq md' i=nq md i:=by
 have h1:=b2 h;have h2:=b2 h1.1
 have go:∀ i,nq md' i=if i=j then .imm else nq md i:=λi=>by
  by_cases hi:i<max md.length md'.length
  ·exact de (gB.mp h1.2 i (jh.mpr hi))
  ·have g1:=wW (md:=md) (i:=i) ⋯
   have g2:=wW (md:=md') (i:=i) ⋯
   rw[g1,g2];simp
 exact⟨de h2.1,de h2.2,by rw[go j,if_pos rfl],λi hi=>by rw[go i,if_neg hi]⟩
section
variable {K:kj}{c:Cn}{md md':Md}{L:m7}{σ:L2.St}{S H:Hp}{j:Nat}
theorem oy {L:m7}{i j:Nat}(h:i≠j):(L.set j none)[i]?=L[i]?:=cO (mq h)
theorem Iv.cold (I:Iv K c md (L.set j none) σ S H)(h:AS md md' j=true)(hv:∀ v,L[j]?=some (some v)->∃ x,σ[j]?=some (some x)/\RV K S v x):Iv K c md' L σ S H:=by
 let(m,hj,m',far):=uU h
 have ne:∀ {i},nq md' i≠.imm->i≠j:=λ{i} hm z=>hm (by rw[z];exact m')
 refine⟨by have:=I.len;rwa [iw] at this,λi u hm z=>?_,λi u hm z=>?_,λi k u w a m1 m2 z1 z2 y1 y2=>?_,I.sub,I.frame,I.s0,I.grow,λb z=>?_,λp hp=>?_,λi u hm z=>?_,I.fzp,λp hp=>?_,I.ntp,λq hq=>?_,λy k x C dx fs w h1 h2 h3 h4=>?_⟩
 ·by_cases q:i=j
  ·subst q;let(x,e1,r):=hv u z;exact⟨x,e1,r⟩
  ·exact I.imm i u (by rw[<- far i q];exact hm) (by rw[oy q];exact z)
 ·exact I.own i u (by rw[<- far i (ne hm)];exact hm) (by rw[oy (ne hm)];exact z)
 ·exact I.dis i k u w a (by rw[<- far i (ne m1)];exact m1) (by rw[<- far k (ne m2)];exact m2) (by rw[oy (ne m1)];exact z1) (by rw[oy (ne m2)];exact z2) y1 y2
 ·let(g1,g2,g3):=I.lent b z
  rw[oy (mq hj)] at g3
  exact⟨by rw[far 0 (mq hj)];exact g1,g2,g3⟩
 ·let(g1,g2,g3):=I.fzs p hp
  have hp':p.1≠j:=λz=>by rw[z,m] at g1;cases g1
  rw[oy hp'] at g3
  exact⟨by rw[far _ hp'];exact g1,g2,g3⟩
 ·have hi:=ne (i:=i) (by rw[hm];exact λz=>nomatch z)
  exact I.fzm i u (by rw[<- far i hi];exact hm) (by rw[oy hi];exact z)
 ·let(g1,g2,g3):=I.prs p hp
  refine⟨g1,g2,λi u hm z=>?_⟩
  have hi:=ne (i:=i) (Mo.w_imm hm)
  exact g3 i u (by rw[<- far i hi];exact hm) (by rw[oy hi];exact z)
 ·let(g1,g2,g3):=I.lnt1 q hq
  have hq':q.1≠j:=λz=>by rw[z,m] at g1;cases g1
  rw[oy hq'] at g3
  exact⟨by rw[far _ hq'];exact g1,g2,g3⟩
 ·have n1:y≠j:=ne (by rw[h1];exact λz=>nomatch z)
  have n2:k≠j:=ne (by rw[h2];exact λz=>nomatch z)
  exact I.tie y k x C dx fs w (by rw[<- far y n1];exact h1) (by rw[<- far k n2];exact h2) (by rw[oy n2];exact h3) (by rw[oy n1];exact h4)
theorem Iv.warm (I:Iv K c md' L σ S H)(h:AS md md' j=true):Iv K c md (L.set j none) σ S H:=by
 let(m,hj,m',far):=uU h
 have ne:∀ {i u},(L.set j none)[i]?=some (some u)->i≠j/\L[i]?=some (some u):=λz=>pf z
 refine⟨by rw[iw];exact I.len,λi u hm z=>?_,λi u hm z=>?_,λi k u w a m1 m2 z1 z2 y1 y2=>?_,I.sub,I.frame,I.s0,I.grow,λb z=>?_,λp hp=>?_,λi u hm z=>?_,I.fzp,λp hp=>?_,I.ntp,λq hq=>?_,λy k x C dx fs w h1 h2 h3 h4=>?_⟩
 ·let(q,z):=ne z
  exact I.imm i u (by rw[far i q];exact hm) z
 ·let(q,z):=ne z
  exact I.own i u (by rw[far i q];exact hm) z
 ·let(q1,z1):=ne z1
  let(q2,z2):=ne z2
  exact I.dis i k u w a (by rw[far i q1];exact m1) (by rw[far k q2];exact m2) z1 z2 y1 y2
 ·let(g1,g2,g3):=I.lent b z
  rw[oy (mq hj)]
  exact⟨by rw[<- far 0 (mq hj)];exact g1,g2,g3⟩
 ·let(g1,g2,g3):=I.fzs p hp
  have hp':p.1≠j:=λz=>by rw[z,m'] at g1;cases g1
  rw[oy hp']
  exact⟨by rw[<- far _ hp'];exact g1,g2,g3⟩
 ·let(q,z):=ne z
  exact I.fzm i u (by rw[far i q];exact hm) z
 ·let(g1,g2,g3):=I.prs p hp
  refine⟨g1,g2,λi u hm z=>?_⟩
  let(q,z):=ne z
  exact g3 i u (by rw[far i q];exact hm) z
 ·let(g1,g2,g3):=I.lnt1 q hq
  have hq':q.1≠j:=λz=>by rw[z,m'] at g1;cases g1
  rw[oy hq']
  exact⟨by rw[<- far _ hq'];exact g1,g2,g3⟩
 ·let(n1,h4):=ne h4
  let(n2,h3):=ne h3
  exact I.tie y k x C dx fs w (by rw[far y n1];exact h1) (by rw[far k n2];exact h2) h3 h4
end
end Kq
set_option maxHeartbeats 1000000
set_option maxHeartbeats 4000000
namespace Kq
open PySem PySem.Spec PyProof.Rows L2 PySem.W
def gA (a:Array mR) (i:Nat):mR:=a.getD i (.none,.none)
theorem tH {a:Array mR}{i:Nat}(h:i<a.size):a[i]?=some (gA a i):=by
 simp[gA,av,getElem?_pos a i h]
theorem p7 {a b:Array mR}{i j:Nat}(h:a[i]?=b[j]?):gA a i=gA b j:=by
 simp only[gA,av,h]
structure Cmp (prog:mm)(w:mL)(A:mK)(E:mM->mD->Prop)(s:mD)(kd:lY)(Ok:mR->Prop)(lt:mR->mR->Bool):Prop where
 run:∀ x y,Ok x->Ok y->∀ (st:mC)(Q:Option Bool->mC->Prop),kindOf st=kd->Q (some (lt x y)) st->wpS (model prog w) A E s (lt' x y) Q st
 refl:∀ x,lt x x=false
 trans:∀ x y z,lt y x=false->lt z y=false->lt z x=false
 asym:∀ x y,lt x y=true->lt y x=false
def Srt (lt:mR->mR->Bool)(a:Array mR) (lo hi:Nat):Prop:=∀ i j,lo<=i->i<=j->j<hi->lt (gA a j) (gA a i)=false
def EA (lt:mR->mR->Bool)(a:Array mR) (lo hi:Nat):Prop:=∀ i j,lo<=i->i<=j->j<hi->lt (gA a i) (gA a j)=false
def Out (a b:Array mR) (lo hi:Nat):Prop:=b.Perm a/\∀ k,k<lo ∨ hi<=k->gA b k=gA a k
theorem Out.refl (a:Array mR) (lo hi:Nat):Out a a lo hi:=⟨iM _,λ_ _=>rfl⟩
theorem Out.trans {a b c:Array mR}{lo hi:Nat}(h:Out a b lo hi)(g:Out b c lo hi):Out a c lo hi:=⟨g.1.trans h.1,λk hk=>(g.2 k hk).trans (h.2 k hk)⟩
theorem Out.size {a b:Array mR}{lo hi:Nat}(h:Out a b lo hi):b.size=a.size:=h.1.size_eq
theorem Out.wide {a b:Array mR}{lo hi lo' hi':Nat}(h:Out a b lo hi)(h1:lo'<=lo)(h2:hi<=hi'):Out a b lo' hi':=⟨h.1,λk hk=>h.2 k ⋯⟩
def AllOk (Ok:mR->Prop)(a:Array mR):Prop:=∀ x∈a.toList,Ok x
theorem AllOk.at {Ok:mR->Prop}{a:Array mR}(h:AllOk Ok a){i:Nat}(hi:i<a.size):Ok (gA a i):=by
 refine h _ ?_
 have:=tH hi
 rw[<- cB] at this
 exact cK this
theorem AllOk.perm {Ok:mR->Prop}{a b:Array mR}(h:AllOk Ok a)(p:b.Perm a):AllOk Ok b:=λx hx=>h x ((aJ.mp p).mem_iff.mp hx)
theorem Srt.out {lt:mR->mR->Bool}{a b:Array mR}{lo hi l h:Nat}(s:Srt lt a l h)(o:Out a b lo hi)(d:h<=lo ∨ hi<=l):Srt lt b l h:=λi j h1 h2 h3=>by
 rw[o.2 i ⋯,o.2 j ⋯];exact s i j h1 h2 h3
theorem rB {a:Array mR}{i j:Nat}(hj:j<=a.size) (k:Nat):gA (mirror a i j ((j-i) / 2)) k=if i<=k/\k<j then gA a (i+j-1-k) else gA a k:=by
 have e:=getElem?_mirror_all (i:=i) hj k
 split
 ·rename_i h;rw[if_pos h] at e;exact p7 e
 ·rename_i h;rw[if_neg h] at e;exact p7 e
theorem pZ {a:Array mR}{i j:Nat}(hj:j<=a.size):Out a (mirror a i j ((j-i) / 2)) i j:=⟨mirror_perm _ _ _ _,λk hk=>by rw[rB hj,if_neg ⋯]⟩
section
variable {prog:mm}{w:mL}{A:mK}{E:mM->mD->Prop}{s:mD}{kd:lY}{Ok:mR->Prop}{lt:mR->mR->Bool}
abbrev ox (kd:lY)(a:Array mR)(p:Array (Nat×Nat×Nat)) (g:Nat):mC:=lC kd a p g none
theorem ask (C:Cmp prog w A E s kd Ok lt){a:Array mR}{p:Array (Nat×Nat×Nat)}{g i j:Nat}{Q:Option Bool->mC->Prop}(ho:AllOk Ok a)(hi:i<a.size)(hj:j<a.size)(h:Q (some (lt (gA a i) (gA a j))) (ox kd a p g)):wpS (model prog w) A E s (ltAt' i j) Q (ox kd a p g):=by
 rw[ltAt'_eq]
 refine lV (ml ?_)
 show wpS _ _ _ _ (do let x <- elem' a i;let y <- elem' a j;lt' x y) Q _
 rw[lW,lW,tH hi,tH hj]
 exact lV (lS (lV (lS (C.run _ _ (ho.at hi) (ho.at hj) _ _ rfl h))))
theorem turned {a:Array mR}{p:Array (Nat×Nat×Nat)}{g i j:Nat}{Q:Unit->mC->Prop}(h:Q () (ox kd (mirror a i j ((j-i) / 2)) p g)):wpS (model prog w) A E s (reverseSlice' i j) Q (ox kd a p g):=by
 rw[reverseSlice'_eq];exact k7 h
theorem Lu {a:Array mR}{p:Array (Nat×Nat×Nat)}{g i j:Nat}{Q:Unit->mC->Prop}(h:Q () (ox kd (bubble a i (i-j)) p g)):wpS (model prog w) A E s (moveDown' i j) Q (ox kd a p g):=by
 rw[moveDown'_eq];exact k7 h
def Eqv (lt:mR->mR->Bool)(a:Array mR) (lo hi:Nat):Prop:=∀ i j,lo<=i->i<hi->lo<=j->j<hi->lt (gA a i) (gA a j)=false
theorem rA {a:Array mR}{l hi k:Nat}(hj:hi<=a.size)(hk:k<hi):∃ k',k'<hi/\gA (mirror a l hi ((hi-l) / 2)) k=gA a k'/\(k<l->k'=k)/\(l<=k->l<=k'):=by
 rw[rB hj]
 split
 ·exact⟨l+hi-1-k,by lia,rfl,by lia,by lia⟩
 ·exact⟨k,hk,rfl,λ_=>rfl,λh=>h⟩
theorem sd (C:Cmp prog w A E s kd Ok lt){a:Array mR}{lo l hi:Nat}(hj:hi<=a.size)(hd:EA lt a lo hi)(he:Eqv lt a l hi)(hl:lo<=l):EA lt (mirror a l hi ((hi-l) / 2)) lo hi:=by
 intro i j h1 h2 h3
 let(i',i1,i2,i3,i4):=rA (l:=l) hj (show i<hi by lia)
 let(j',j1,j2,j3,j4):=rA (l:=l) hj h3
 rw[i2,j2]
 by_cases hi':i<l
 ·have e:=i3 hi'
  subst e
  by_cases hj':j<l
  ·have e:=j3 hj'
   subst e
   exact hd _ _ h1 h2 h3
  ·exact hd _ _ h1 (by have:=j4 ⋯;lia) j1
 ·exact he _ _ (i4 ⋯) i1 (j4 ⋯) j1
theorem zg {a:Array mR}{lo hi:Nat}(hj:hi<=a.size)(hd:EA lt a lo hi):Srt lt (mirror a lo hi ((hi-lo) / 2)) lo hi:=by
 intro i j h1 h2 h3
 rw[rB hj,rB hj,if_pos ⟨by lia,h3⟩,if_pos ⟨h1,by lia⟩]
 exact hd _ _ ⋯ ⋯ ⋯
theorem xN (C:Cmp prog w A E s kd Ok lt){b:Array mR}{lo x:Nat}(hs:Srt lt b lo (lo+x))(hx:1<=x)(hl:lt (gA b (lo+x)) (gA b (lo+x-1))=false):Srt lt b lo (lo+(x+1)):=by
 intro i j h1 h2 h3
 by_cases hj:j<lo+x
 ·exact hs i j h1 h2 hj
 ·have:j=lo+x:=by lia
  subst this
  by_cases hi:i=lo+x
  ·rw[hi];exact C.refl _
  ·exact C.trans _ _ _ (hs i (lo+x-1) h1 ⋯ ⋯) hl
theorem rg (C:Cmp prog w A E s kd Ok lt){b:Array mR}{lo x:Nat}(hs:EA lt b lo (lo+x))(hx:1<=x)(hl:lt (gA b (lo+x-1)) (gA b (lo+x))=false):EA lt b lo (lo+(x+1)):=by
 intro i j h1 h2 h3
 by_cases hj:j<lo+x
 ·exact hs i j h1 h2 hj
 ·have:j=lo+x:=by lia
  subst this
  by_cases hi:i=lo+x
  ·rw[hi];exact C.refl _
  ·exact C.trans _ _ _ hl (hs i (lo+x-1) h1 ⋯ ⋯)
theorem HB (C:Cmp prog w A E s kd Ok lt){a:Array mR}{p:Array (Nat×Nat×Nat)}{g lo n:Nat}{Q:Option Nat->mC->Prop}(ho:AllOk Ok a)(h1:1<=n)(hn:lo+n<=a.size)
  (h:∀ m b,1<=m->m<=n->Out a b lo (lo+n)->Srt lt b lo (lo+m)->Q (some m) (ox kd b p g)):wpS (model prog w) A E s (countRun' lo n) Q (ox kd a p g):=by
 rw[countRun'_eq]
 refine lV (lT (j6 (I:=λx c st'=>st'=ox kd a p g/\c=(none,x)/\Srt lt a lo (lo+x))
  (Q:=λc st'=>∃ m,st'=ox kd a p g/\c=(none,m)/\1<=m/\m<=n/\Srt lt a lo (lo+m)/\(m=n ∨ lt (gA a (lo+m)) (gA a (lo+m-1))=true)) ?_ ?_ ⟨rfl,rfl,λi j h1 h2 h3=>?_⟩) ?_)
 ·rintro x c st' hx hxn ⟨rfl,rfl,hs⟩
  dsimp only
  refine lV (ask C ho ⋯ ⋯ ?_)
  cases e:lt (gA a (lo+x)) (gA a (lo+x-1)) with
  | true=>exact lS ⟨x,rfl,rfl,hx,by lia,hs,.inr e⟩
  | false=>exact lS ⟨rfl,rfl,xN C hs hx e⟩
 ·rintro c st' ⟨rfl,rfl,hs⟩
  rw[show max 1 n=n by lia] at hs ⊢
  exact⟨n,rfl,rfl,h1,kT _,hs,.inl rfl⟩
 ·have:i=j:=by lia
  subst this;exact C.refl _
 rintro c st' ⟨m,rfl,rfl,hm1,hmn,hs,hor⟩
 dsimp only
 by_cases hm:m=n
 ·rw[if_pos (by simpa using hm)]
  exact lS (h m a hm1 hmn (Out.refl _ _ _) hs)
 rw[if_neg (by simpa using hm)]
 have hlt:=C.asym _ _ (hor.resolve_left hm)
 have one:m=1->EA lt a lo (lo+(m+1)):=λe=>rg C (by
  intro i j h1 h2 h3
  have:i=j:=by lia
  subst this;exact C.refl _) hm1 hlt
 have two:lt (gA a lo) (gA a (lo+m-1))=false->Out a (mirror a lo (lo+m) ((lo+m-lo) / 2)) lo (lo+n)/\EA lt (mirror a lo (lo+m) ((lo+m-lo) / 2)) lo (lo+(m+1)):=by
  intro hr
  have hall:Eqv lt a lo (lo+m):=by
   intro i j h1 h2 h3 h4
   exact C.trans _ _ _ (C.trans _ _ _ (hs j (lo+m-1) h3 ⋯ ⋯) hr) (hs lo i (kT _) h1 h2)
  have hsz:lo+m<=a.size:=by lia
  refine⟨(pZ hsz).wide (kT _) ⋯,?_⟩
  refine rg C (sd C hsz (λi j h1 h2 h3=>hall i j h1 ⋯ ⋯ h3) hall (kT _)) hm1 ?_
  rw[(pZ (i:=lo) hsz).2 (lo+m) ⋯]
  obtain⟨k',k1,k2,-,k4⟩:=rA (l:=lo) hsz (show lo+m-1<lo+m by lia)
  rw[k2]
  exact C.trans _ _ _ hlt (hall _ _ (k4 ⋯) k1 ⋯ ⋯)
 by_cases hgt:m > 1
 rw[if_pos hgt]
 refine lV (ask C ho ⋯ ⋯ ?_)
 rcases bj (lt (gA a lo) (gA a (lo+m-1))) with hr|hr
 rw[hr]
 exact lS (h m a hm1 hmn (Out.refl _ _ _) hs)
 rw[hr]
 refine lV (turned ?_)
 let(hb,hd):=two hr
 generalize mirror a lo (lo+m) ((lo+m-lo) / 2)=b at hb hd ⊢
 rotate_left
 rw[if_neg hgt]
 have hd:=one ⋯
 have hb:=Out.refl a lo (lo+n)
 revert hb hd
 generalize hab:ox kd a p g=sa
 suffices h:∀ b,sa=ox kd b p g->Out a b lo (lo+n)->EA lt b lo (lo+(m+1))->_ from λhd hb=>h a hab.symm hb hd
 rintro b rfl hb hd
 all_goals
  clear hs hor hlt one two
  have hsz:=hb.size
  refine lV (lU (k8 ⟨rfl,?_⟩))
  refine lV (lT (j6 (I:=λx c st'=>∃ b q,st'=ox kd b p g/\c=(none,x,q)/\Out a b lo (lo+n)/\EA lt b lo (lo+x)/\q+1<=x/\Eqv lt b (lo+x-(q+1)) (lo+x))
   (Q:=λc st'=>∃ x b q,st'=ox kd b p g/\c=(none,x,q)/\1<=x/\x<=n/\Out a b lo (lo+n)/\EA lt b lo (lo+x)/\q+1<=x/\Eqv lt b (lo+x-(q+1)) (lo+x)) ?_ ?_ ⟨b,0,rfl,rfl,hb,hd,by lia,?_⟩) ?_)
  ·rintro x c st' hx hxn ⟨b,q,rfl,rfl,hb,hd,hq,he⟩
   have hsz:=hb.size
   have hok:=ho.perm hb.1
   dsimp only
   refine lV (ask C hok ⋯ ⋯ ?_)
   rcases bj (lt (gA b (lo+x)) (gA b (lo+x-1))) with hr|hr
   ·rw[hr]
    have hr':=C.asym _ _ hr
    have e0:∀ b':Array mR,Eqv lt b' (lo+(x+1)-(0+1)) (lo+(x+1)):=λb' i j h1 h2 h3 h4=>by
     have:i=j:=by lia
     subst this;exact C.refl _
    simp only[if_true]
    by_cases h0:q > 0
    ·rw[if_pos h0]
     refine lV (turned (lS ?_))
     have hs2:lo+x<=b.size:=by lia
     have hom:=pZ (i:=lo+x-(q+1)) hs2
     refine⟨_,0,rfl,rfl,hb.trans (hom.wide ⋯ ⋯),?_,by lia,e0 _⟩
     refine rg C (sd C hs2 hd he ⋯) ⋯ ?_
     rw[hom.2 (lo+x) ⋯]
     obtain⟨k',k1,k2,-,k4⟩:=rA (l:=lo+x-(q+1)) hs2 (show lo+x-1<lo+x by lia)
     rw[k2]
     exact C.trans _ _ _ hr' (hd _ _ (by have:=k4 ⋯;lia) ⋯ ⋯)
    ·rw[if_neg h0]
     exact lS ⟨b,0,rfl,rfl,hb,rg C hd ⋯ hr',by lia,e0 _⟩
   ·rw[hr]
    simp only[eD,if_false]
    refine lV (ask C hok ⋯ ⋯ ?_)
    rcases bj (lt (gA b (lo+x-1)) (gA b (lo+x))) with hr2|hr2
    ·rw[hr2]
     exact lS ⟨x,b,q,rfl,rfl,by lia,by lia,hb,hd,hq,he⟩
    ·rw[hr2]
     refine lS ⟨b,q+1,rfl,rfl,hb,rg C hd ⋯ hr2,by lia,λi j h1 h2 h3 h4=>?_⟩
     by_cases hi:i=lo+x
     ·by_cases hj:j=lo+x
      ·rw[hi,hj];exact C.refl _
      ·rw[hi]
       exact C.trans _ _ _ (he (lo + x - 1) j ⋯ ⋯ ⋯ ⋯) hr
     ·by_cases hj:j=lo+x
      ·rw[hj]
       exact C.trans _ _ _ hr2 (he i (lo + x - 1) ⋯ ⋯ ⋯ ⋯)
      ·exact he i j ⋯ ⋯ ⋯ ⋯
  ·rintro c st' ⟨b,q,rfl,rfl,hb,hd,hq,he⟩
   rw[show max (m+1) n=n by lia] at *
   exact⟨n,b,q,rfl,rfl,h1,kT _,hb,hd,hq,he⟩
  ·intro i j h1 h2 h3 h4
   have:i=j:=by lia
   subst this;exact C.refl _
  rintro c st' ⟨x,b,q,rfl,rfl,hx1,hxn,hb,hd,hq,he⟩
  have hsz:=hb.size
  have hs2:lo+x<=b.size:=by lia
  dsimp only
  by_cases h0:q > 0
  rw[if_pos h0]
  refine lV (turned ?_)
  have hb2:=hb.trans ((pZ (i:=lo+x-(q+1)) hs2).wide (show lo<=lo+x-(q+1) by lia) (show lo+x<=lo+n by lia))
  have hd2:=sd C hs2 hd he (show lo<=lo+x-(q+1) by lia)
  clear hb hd he hsz hs2
  generalize mirror b (lo+x-(q+1)) (lo+x) ((lo+x-(lo+x-(q+1))) / 2)=b2 at hb2 hd2 ⊢
  rotate_left
  rw[if_neg h0]
  have hb2:=hb
  have hd2:=hd
  clear hb hd he hsz hs2
  generalize b=b2 at hb2 hd2 ⊢
  all_goals
   have hsz:=hb2.size
   have hs2:lo+x<=b2.size:=by lia
   refine lV (turned ?_)
   have hb3:=hb2.trans ((pZ (i:=lo) hs2).wide (kT lo) (show lo+x<=lo+n by lia))
   have hs3:=zg hs2 hd2
   generalize mirror b2 lo (lo+x) ((lo+x-lo) / 2)=b3 at hb3 hs3 ⊢
   have hok:=ho.perm hb3.1
   have hsz3:=hb3.size
   refine lV (lT (j6 (I:=λx c st'=>st'=ox kd b3 p g/\c=(none,x)/\Srt lt b3 lo (lo+x))
    (Q:=λc st'=>∃ m,st'=ox kd b3 p g/\c=(none,m)/\1<=m/\m<=n/\Srt lt b3 lo (lo+m)) ?_ ?_ ⟨rfl,rfl,hs3⟩) ?_)
   ·rintro y c st' hy hyn ⟨rfl,rfl,hs⟩
    dsimp only
    refine lV (ask C hok ⋯ ⋯ ?_)
    rcases bj (lt (gA b3 (lo+y)) (gA b3 (lo+y-1))) with e|e
    ·rw[e];exact lS ⟨y,rfl,rfl,by lia,by lia,hs⟩
    ·rw[e];exact lS ⟨rfl,rfl,xN C hs ⋯ e⟩
   ·rintro c st' ⟨rfl,rfl,hs⟩
    rw[show max x n=n by lia] at hs ⊢
    exact⟨n,rfl,rfl,h1,kT _,hs⟩
   ·rintro c st' ⟨y,rfl,rfl,hy1,hyn,hs⟩
    exact lS (h y b3 hy1 hyn hb3 hs)
end
section
variable {prog:mm}{w:mL}{A:mK}{E:mM->mD->Prop}{s:mD}{kd:lY}{Ok:mR->Prop}{lt:mR->mR->Bool}
theorem tu {a:Array mR}{i d:Nat}(hi:i<a.size)(hd:d<=i) (k:Nat):gA (bubble a i d) k=if k=i-d then gA a i else if i-d<k/\k<=i then gA a (k-1) else gA a k:=by
 have e:=getElem?_bubble hi d hd k
 split
 ·rename_i h;rw[if_pos h] at e;exact p7 e
 ·rename_i h
  rw[if_neg h] at e
  split
  ·rename_i h2;rw[if_pos h2] at e;exact p7 e
  ·rename_i h2;rw[if_neg h2] at e;exact p7 e
theorem IC (C:Cmp prog w A E s kd Ok lt){a:Array mR}{p:Array (Nat×Nat×Nat)}{g lo n ok:Nat}{Q:Bool->mC->Prop}(ho:AllOk Ok a)(h1:1<=ok)(hk:ok<=n)(hn:lo+n<=a.size)(hs:Srt lt a lo (lo+ok))
  (h:∀ b,Out a b lo (lo+n)->Srt lt b lo (lo+n)->Q true (ox kd b p g)):wpS (model prog w) A E s (binarySort' lo n ok) Q (ox kd a p g):=by
 rw[binarySort'_eq]
 refine lV (lT (j6 (I:=λk c st'=>∃ b,st'=ox kd b p g/\c=(none,())/\Out a b lo (lo+n)/\Srt lt b lo (lo+k))
  (Q:=λc st'=>∃ b,st'=ox kd b p g/\c=(none,())/\Out a b lo (lo+n)/\Srt lt b lo (lo+n)) ?_ ?_ ⟨a,rfl,rfl,Out.refl _ _ _,by rw[show max ok 1=ok by lia];exact hs⟩) ?_)
 ·rintro k c st' hk1 hkn ⟨b,rfl,rfl,hb,hs⟩
  have hsz:=hb.size
  have hok:=ho.perm hb.1
  dsimp only
  refine lV (lT (j6 (I:=λj c st'=>∃ l r,st'=ox kd b p g/\c=(none,l,r)/\l<=r/\r<=k/\r-l<=k-j/\(∀ i,i<l->lt (gA b (lo+k)) (gA b (lo+i))=false)/\∀ i,r<=i->i<k->lt (gA b (lo+i)) (gA b (lo+k))=false)
   (Q:=λc st'=>∃ l r,st'=ox kd b p g/\c=(none,l,r)/\l<=k/\(∀ i,i<l->lt (gA b (lo+k)) (gA b (lo+i))=false)/\∀ i,l<=i->i<k->lt (gA b (lo+i)) (gA b (lo+k))=false) ?_ ?_ ⟨0,k,rfl,rfl,by lia,by lia,by lia,λi hi=>by lia,λi h1 h2=>by lia⟩) ?_)
  ·rintro j c st'-hj ⟨l,r,rfl,rfl,hlr,hrk,hm,g1,g2⟩
   dsimp only
   by_cases hge:l ≥ r
   ·rw[if_pos hge]
    exact lS ⟨l,r,rfl,rfl,by lia,g1,λi h1 h2=>g2 i ⋯ h2⟩
   ·rw[if_neg hge]
    refine lV (ask C hok ⋯ ⋯ ?_)
    rcases bj (lt (gA b (lo+k)) (gA b (lo+(l+r) / 2))) with e|e
    ·rw[e]
     have e':=C.asym _ _ e
     refine lS ⟨l,(l+r) / 2,rfl,rfl,by lia,by lia,by lia,g1,λi h1 h2=>?_⟩
     exact C.trans _ _ _ e' (hs _ _ ⋯ ⋯ ⋯)
    ·rw[e]
     refine lS ⟨(l+r) / 2+1,r,rfl,rfl,by lia,by lia,by lia,λi hi=>?_,g2⟩
     exact C.trans _ _ _ (hs (lo+i) (lo+(l+r) / 2) ⋯ ⋯ ⋯) e
  ·rintro c st' ⟨l,r,rfl,rfl,hlr,hrk,hm,g1,g2⟩
   rw[show max 0 k=k by lia] at hm
   exact⟨l,r,rfl,rfl,by lia,g1,λi h1 h2=>g2 i ⋯ h2⟩
  ·rintro c st' ⟨l,r,rfl,rfl,hlk,g1,g2⟩
   dsimp only
   refine lV (Lu (lS ?_))
   have hi:lo+k<b.size:=by lia
   have hd:lo+k-(lo+l)<=lo+k:=by lia
   refine⟨_,rfl,rfl,hb.trans ⟨bubble_perm _ _ _,λx hx=>?_⟩,λi j h1 h2 h3=>?_⟩
   ·rw[tu hi hd,if_neg ⋯,if_neg ⋯]
   ·rw[tu hi hd,tu hi hd]
    have el:lo+k-(lo+k-(lo+l))=lo+l:=by lia
    rw[el]
    by_cases j1:j=lo+l
    ·rw[if_pos j1]
     by_cases i1:i=lo+l
     ·rw[if_pos i1];exact C.refl _
     ·rw[if_neg i1,if_neg ⋯]
      have:=g1 (i-lo) ⋯
      rwa [show lo+(i-lo)=i by lia] at this
    ·rw[if_neg j1]
     by_cases i1:i=lo+l
     ·rw[if_pos i1,if_pos ⋯]
      have:=g2 (j-1-lo) ⋯ ⋯
      rwa [show lo+(j-1-lo)=j-1 by lia] at this
     ·rw[if_neg i1]
      by_cases j2:lo+l<j/\j<=lo+k
      ·rw[if_pos j2]
       by_cases i2:lo + l < i/\i<=lo + k
       ·rw [if_pos i2]; exact hs _ _ ⋯ ⋯ ⋯
       ·rw [if_neg i2]; exact hs _ _ ⋯ ⋯ ⋯
      ·rw[if_neg j2,if_neg ⋯]
       exact hs _ _ ⋯ ⋯ ⋯
 ·rintro c st' ⟨b,rfl,rfl,hb,hs⟩
  rw[show max (max ok 1) n=n by lia] at hs
  exact⟨b,rfl,rfl,hb,hs⟩
 ·rintro c st' ⟨b,rfl,rfl,hb,hs⟩
  exact lS (h b hb hs)
end
def G4:Bool->mR->Array mR->Nat->Nat->Nat->StateT mC Sem (Option Nat):=sortPriv% PySem.Builtin.gallop
theorem IF (f:Bool)(k:mR)(r:Array mR) (b n h:Nat):G4 f k r b n h=(do
 let yon (i:Nat):StateT mC Sem (Option Bool):=do
  let x <- elem' r (b+i);if f then lt' x k else return (<- lt' k x).map (!·)
 let mut z:=0;let mut o:=1;let mut u:=0;let mut v:=0
 let some c <- yon h|return none
 if c then
  let m:=n-h
  for _ in [0:n] do
   if o ≥ m then break
   let some t <- yon (h+o)|return none
   if !t then break
   z:=o;o:=2*o+1
  u:=h+z+1;v:=h+min o m
 else
  let m:=h+1
  for _ in [0:n] do
   if o ≥ m then break
   let some t <- yon (h-o)|return none
   if t then break
   z:=o;o:=2*o+1
  u:=h+1-min o m;v:=h-z
 for _ in [0:n] do
  if u ≥ v then break
  let m:=u+(v-u) / 2
  let some t <- yon m|return none
  if t then u:=m+1 else v:=m
 return some v):=rfl
section
variable {prog:mm}{w:mL}{A:mK}{E:mM->mD->Prop}{s:mD}{kd:lY}{Ok:mR->Prop}{lt:mR->mR->Bool}
def oF (lt:mR->mR->Bool)(f:Bool)(k:mR)(r:Array mR) (b i:Nat):Bool:=if f=true then lt (gA r (b+i)) k else !lt k (gA r (b+i))
theorem tq (C:Cmp prog w A E s kd Ok lt){f:Bool}{k:mR}{r:Array mR}{b n h:Nat}{st:mC}{Q:Option Nat->mC->Prop}(hst:kindOf st=kd)(ho:AllOk Ok r)(hk:Ok k)(hn:b+n<=r.size)(hh:h<n)
  (hm:∀ i j,i<=j->j<n->oF lt f k r b j=true->oF lt f k r b i=true)
  (q:∀ t,t<=n->(∀ i,i<t->oF lt f k r b i=true)->(∀ i,t<=i->i<n->oF lt f k r b i=false)->Q (some t) st):wpS (model prog w) A E s (G4 f k r b n h) Q st:=by
 have yon:∀ i,i<n->∀ {Q:Option Bool->mC->Prop},Q (some (oF lt f k r b i)) st->wpS (model prog w) A E s (do let x <- elem' r (b+i);if f=true then lt' x k else do let y <- lt' k x;pure (y.map (!·))) Q st:=by
  intro i hi Q q
  rw[lW,tH (show b+i<r.size by lia)]
  refine lV (lS ?_)
  have hx:=ho.at (show b+i<r.size by lia)
  unfold oF at q
  cases f with
  | true=>simp only[if_true] at q ⊢;exact C.run _ _ hx hk _ _ hst q
  | false =>
   simp only[eD,if_false] at q ⊢
   exact lV (C.run _ _ hk hx _ _ hst (lS q))
 rw[IF]
 dsimp only
 refine lV (yon h hh ?_)
 have low:∀ i j,i<=j->j<n->oF lt f k r b i=false->oF lt f k r b j=false:=λi j h1 h2 h3=>by
  cases e:oF lt f k r b j with
  | false=>rfl
  | true=>rw[hm i j h1 h2 e] at h3;cases h3
 rcases bj (oF lt f k r b h) with c|c
 rw[c]
 simp only[if_true]
 refine lV (lT (j6 (I:=λj c st'=>∃ z o,st'=st/\c=(none,z,o)/\z<o/\j+1<=o/\h+z<n/\oF lt f k r b (h+z)=true)
  (Q:=λc st'=>∃ z o,st'=st/\c=(none,z,o)/\z<o/\h+z<n/\oF lt f k r b (h+z)=true/\(n-h<=o ∨ oF lt f k r b (h+o)=false)) ?_ ?_ ⟨0,1,rfl,rfl,by lia,by lia,by lia,c⟩) ?_)
 ·rintro j c st'-hj ⟨z,o,rfl,rfl,h1,h2,h3,h4⟩
  dsimp only
  by_cases hge:o ≥ n-h
  ·rw[if_pos hge]
   exact lS ⟨z,o,rfl,rfl,h1,h3,h4,.inl hge⟩
  ·rw[if_neg hge]
   refine lV (yon (h+o) ⋯ ?_)
   rcases bj (oF lt f k r b (h+o)) with e|e
   ·rw[e]
    exact lS ⟨o,2*o+1,rfl,rfl,by lia,by lia,by lia,e⟩
   ·rw[e]
    exact lS ⟨z,o,rfl,rfl,h1,h3,h4,.inr e⟩
 ·rintro c st' ⟨z,o,rfl,rfl,h1,h2,h3,h4⟩
  exact⟨z,o,rfl,rfl,h1,h3,h4,.inl ⋯⟩
 rintro c' st' ⟨z,o,hse,rfl,h1,h3,h4,h5⟩
 rw[hse]
 clear hse
 dsimp only
 obtain⟨u,hu⟩:∃ u,u=h+z+1:=⟨_,rfl⟩
 obtain⟨v,hv⟩:∃ v,v=h+min o (n-h):=⟨_,rfl⟩
 have huv:u<=v:=by lia
 have hvn:v<=n:=by lia
 have hlo:∀ i,i<u->oF lt f k r b i=true:=λi hi=>hm i (h+z) ⋯ h3 h4
 have hhi:∀ i,v<=i->i<n->oF lt f k r b i=false:=λi h6 h7=>by
  rcases h5 with h5|h5
  ·lia
  ·exact low (h+o) i ⋯ h7 h5
 rw[<- hu,<- hv]
 clear hu hv h1 h3 h4 h5 c
 rotate_left
 rw[c]
 simp only[eD,if_false]
 refine lV (lT (j6 (I:=λj c st'=>∃ z o,st'=st/\c=(none,z,o)/\z<o/\j+1<=o/\z<=h/\oF lt f k r b (h-z)=false)
  (Q:=λc st'=>∃ z o,st'=st/\c=(none,z,o)/\z<o/\z<=h/\oF lt f k r b (h-z)=false/\(h+1<=o ∨ o<=h/\oF lt f k r b (h-o)=true)) ?_ ?_ ⟨0,1,rfl,rfl,by lia,by lia,by lia,c⟩) ?_)
 ·rintro j c st'-hj ⟨z,o,rfl,rfl,h1,h2,h3,h4⟩
  dsimp only
  by_cases hge:o ≥ h+1
  ·rw[if_pos hge]
   exact lS ⟨z,o,rfl,rfl,h1,h3,h4,.inl hge⟩
  ·rw[if_neg hge]
   refine lV (yon (h-o) ⋯ ?_)
   rcases bj (oF lt f k r b (h-o)) with e|e
   ·rw[e]
    exact lS ⟨z,o,rfl,rfl,h1,h3,h4,.inr ⟨by lia,e⟩⟩
   ·rw[e]
    exact lS ⟨o,2*o+1,rfl,rfl,by lia,by lia,by lia,e⟩
 ·rintro c st' ⟨z,o,rfl,rfl,h1,h2,h3,h4⟩
  exact⟨z,o,rfl,rfl,h1,h3,h4,.inl ⋯⟩
 rintro c' st' ⟨z,o,hse,rfl,h1,h3,h4,h5⟩
 rw[hse]
 clear hse
 dsimp only
 obtain⟨u,hu⟩:∃ u,u=h+1-min o (h+1):=⟨_,rfl⟩
 obtain⟨v,hv⟩:∃ v,v=h-z:=⟨_,rfl⟩
 have huv:u<=v:=by lia
 have hvn:v<=n:=by lia
 have hlo:∀ i,i<u->oF lt f k r b i=true:=λi hi=>by
  rcases h5 with h5|h5
  ·lia
  ·exact hm i (h-o) ⋯ ⋯ h5.2
 have hhi:∀ i,v<=i->i<n->oF lt f k r b i=false:=λi h6 h7=>low (h-z) i ⋯ h7 h4
 rw[<- hu,<- hv]
 clear hu hv h1 h3 h4 h5 c
 all_goals
  refine lV (lT (j6 (I:=λj c st'=>∃ u v,st'=st/\c=(none,u,v)/\u<=v/\v<=n/\v-u<=n-j/\(∀ i,i<u->oF lt f k r b i=true)/\∀ i,v<=i->i<n->oF lt f k r b i=false)
   (Q:=λc st'=>∃ v,st'=st/\c=(none,v,v)/\v<=n/\(∀ i,i<v->oF lt f k r b i=true)/\∀ i,v<=i->i<n->oF lt f k r b i=false) ?_ ?_ ⟨u,v,rfl,rfl,huv,hvn,by lia,hlo,hhi⟩) ?_)
  ·rintro j c st'-hj ⟨u,v,rfl,rfl,huv,hvn,hme,hlo,hhi⟩
   dsimp only
   by_cases hge:u ≥ v
   ·rw[if_pos hge]
    have:u=v:=by lia
    subst this
    exact lS ⟨u,rfl,rfl,hvn,hlo,hhi⟩
   ·rw[if_neg hge]
    refine lV (yon (u+(v-u) / 2) ⋯ ?_)
    rcases bj (oF lt f k r b (u+(v-u) / 2)) with e|e
    ·rw[e]
     exact lS ⟨_,v,rfl,rfl,by lia,hvn,by lia,λi hi=>hm i _ ⋯ ⋯ e,hhi⟩
    ·rw[e]
     exact lS ⟨u,_,rfl,rfl,by lia,by lia,by lia,hlo,λi h1 h2=>low _ i h1 h2 e⟩
  ·rintro c st' ⟨u,v,rfl,rfl,huv,hvn,hme,hlo,hhi⟩
   have:u=v:=by lia
   subst this
   exact⟨u,rfl,rfl,hvn,hlo,hhi⟩
  ·rintro c st' ⟨v,rfl,rfl,hvn,hlo,hhi⟩
   exact lS (q v hvn hlo hhi)
end
abbrev qO {α:Type}(lt:α->α->Bool)(l:List α):Prop:=l.Pairwise λx y=>lt y x=false
structure MI {α:Type}(lt:α->α->Bool)(X Y O:List α) (i j:Nat):Prop where
 perm:O.Perm (X.take i++Y.take j)
 srt:qO lt O
 bef:∀ x∈O,∀ y∈X.drop i++Y.drop j,lt y x=false
section
variable {α:Type}{lt:α->α->Bool}{X Y O:List α}{i j k:Nat}
theorem MI.swap (h:MI lt X Y O i j):MI lt Y X O j i:=⟨h.perm.trans cf,h.srt,λx hx y hy=>h.bef x hx y (by simpa[or_comm] using hy)⟩
theorem MI.more (h:MI lt X Y O i j)(hX:qO lt X)(hc:∀ x∈(X.drop i).take k,∀ y∈Y.drop j,lt y x=false):MI lt X Y (O++(X.drop i).take k) (i+k) j:=by
 have hsub:X.drop i=(X.drop i).take k++X.drop (i+k):=by rw[<- jl,cb]
 have hXd:qO lt (X.drop i):=hX.sublist (fA _ _)
 rw[hsub] at hXd
 let(s1,s2,s3):=cH.mp hXd
 refine⟨?_,?_,λx hx y hy=>?_⟩
 ·rw[jN,fB]
  refine (h.perm.append_right _).trans ?_
  rw[fB]
  exact cw _ cf
 ·refine cH.mpr ⟨h.srt,s1,λx hx y hy=>h.bef x hx y (cN _ (cI hy))⟩
 ·rcases iq.mp hx with hx|hx
  ·refine h.bef x hx y ?_
   rcases iq.mp hy with hy|hy
   ·rw[hsub];exact cN _ (ck _ hy)
   ·exact ck _ hy
  ·rcases iq.mp hy with hy|hy
   ·exact s3 x hx y hy
   ·exact hc x hx y hy
theorem uh (h:i<X.length):(X.drop i).take 1=[X[i]]:=by rw[List.drop_eq_getElem_cons h,List.take_succ_cons,List.take_zero]
def Mrg (lt:α->α->Bool)(X Y R:List α):Prop:=R.Perm (X++Y)/\qO lt R
theorem MI.fin (h:MI lt X Y O i j)(hX:qO lt X)(hY:qO lt Y)(hc:∀ x∈X.drop i,∀ y∈Y.drop j,lt y x=false):Mrg lt X Y (O++X.drop i++Y.drop j):=by
 refine⟨?_,?_⟩
 ·have h1:=(h.perm.append_right (X.drop i)).append_right (Y.drop j)
  refine h1.trans ?_
  have:(X.take i++Y.take j++X.drop i++Y.drop j).Perm (X.take i++X.drop i++(Y.take j++Y.drop j)):=by
   rw[fB (X.take i),fB (X.take i),fB (X.take i)]
   refine cw _ ?_
   rw[<- fB (X.drop i)]
   exact cf.append_right _
  rwa [cb,cb] at this
 ·refine cH.mpr ⟨cH.mpr ⟨h.srt,hX.sublist (fA _ _),λx hx y hy=>h.bef x hx y (cN _ hy)⟩,hY.sublist (fA _ _),λx hx y hy=>?_⟩
  rcases iq.mp hx with hx|hx
  ·exact h.bef x hx y (ck _ hy)
  ·exact hc x hx y hy
theorem Mrg.swap {R:List α}(h:Mrg lt X Y R):Mrg lt Y X R:=⟨h.1.trans cf,h.2⟩
theorem qi {x:α}(h:x∈X.drop i):∃ k,∃ hk:k<X.length,i<=k/\X[k]=x:=by
 let(m,hm,e):=cL.mp h
 rw[fw] at e
 exact⟨i+m,by simp at hm;lia,by lia,e⟩
theorem qD {x:α}(h:x∈(X.drop i).take k):∃ m,∃ hm:m<X.length,i<=m/\m<i+k/\X[m]=x:=by
 let(m,hm,e):=cL.mp h
 rw[fv,fw] at e
 simp at hm
 exact⟨i+m,by lia,by lia,by lia,e⟩
end
theorem nI {a:Array mR}{i:Nat}(h:i<a.toList.length):gA a i=a.toList[i]:=by
 have:=tH (a:=a) (i:=i) (by simpa using h)
 rw[<- cB,bd h] at this
 exact (hW this).symm
section
variable {lt:mR->mR->Bool}{x y o:Array mR}{i j k:Nat}
abbrev MA (lt:mR->mR->Bool)(x y o:Array mR) (i j:Nat):Prop:=MI lt x.toList y.toList o.toList i j
theorem pk (x:Array mR) (i j:Nat):(x.extract i j).toList=(x.toList.drop i).take (j-i):=by
 rw[Array.toList_extract,List.extract_eq_take_drop]
theorem yC (x:Array mR) (i:Nat):(x.extract i x.size).toList=x.toList.drop i:=by
 rw[pk,bN (by simp)]
theorem MA.moreX (h:MA lt x y o i j)(hX:qO lt x.toList)(hc:∀ m m',i<=m->m<i+k->m<x.size->j<=m'->m'<y.size->lt (gA y m') (gA x m)=false):MA lt x y (o++x.extract i (i+k)) (i+k) j:=by
 have:=MI.more (k:=k) h hX λu hu v hv=>by
  let(m,hm,m1,m2,rfl):=qD hu
  let(m',hm',n1,rfl):=qi hv
  rw[<- nI hm,<- nI hm']
  exact hc m m' m1 m2 (by simpa using hm) n1 (by simpa using hm')
 unfold MA
 rw[dv,pk,show i+k-i=k by lia]
 exact this
theorem MA.swap (h:MA lt x y o i j):MA lt y x o j i:=MI.swap h
theorem MA.pushX (h:MA lt x y o i j)(hX:qO lt x.toList)(hi:i<x.size)(hc:∀ m',j<=m'->m'<y.size->lt (gA y m') (gA x i)=false):MA lt x y (o.push (gA x i)) (i+1) j:=by
 have hl:i<x.toList.length:=by simpa using hi
 have:=MI.more (k:=1) h hX λu hu v hv=>by
  rw[uh hl] at hu
  rw[dU] at hu
  subst hu
  let(m',hm',n1,rfl):=qi hv
  rw[<- nI hl,<- nI hm']
  exact hc m' n1 (by simpa using hm')
 unfold MA
 rw[fK,nI hl,<- uh hl]
 exact this
theorem MA.pushY (h:MA lt x y o i j)(hY:qO lt y.toList)(hj:j<y.size)(hc:∀ m',i<=m'->m'<x.size->lt (gA x m') (gA y j)=false):MA lt x y (o.push (gA y j)) i (j+1):=(h.swap.pushX hY hj hc).swap
theorem MA.moreY (h:MA lt x y o i j)(hY:qO lt y.toList)(hc:∀ m m',j<=m->m<j+k->m<y.size->i<=m'->m'<x.size->lt (gA x m') (gA y m)=false):MA lt x y (o++y.extract j (j+k)) i (j+k):=(h.swap.moreX hY hc).swap
theorem MA.fin (h:MA lt x y o i j)(hX:qO lt x.toList)(hY:qO lt y.toList)(hc:∀ m m',i<=m->m<x.size->j<=m'->m'<y.size->lt (gA y m') (gA x m)=false):Mrg lt x.toList y.toList (o++x.extract i x.size++y.extract j y.size).toList:=by
 rw[dv,dv,yC,yC]
 refine MI.fin h hX hY λu hu v hv=>?_
 let(m,hm,m1,rfl):=qi hu
 let(m',hm',n1,rfl):=qi hv
 rw[<- nI hm,<- nI hm']
 exact hc m m' m1 (by simpa using hm) n1 (by simpa using hm')
theorem MA.fin2 (h:MA lt x y o i j)(hX:qO lt x.toList)(hY:qO lt y.toList)(hc:∀ m m',i<=m->m<x.size->j<=m'->m'<y.size->lt (gA x m) (gA y m')=false):Mrg lt x.toList y.toList (o++y.extract j y.size++x.extract i x.size).toList:=(h.swap.fin hY hX λm m' h1 h2 h3 h4=>hc m' m h3 h4 h1 h2).swap
theorem xC (hX:qO lt x.toList)(hr:∀ u,lt u u=false)(hij:i<=j)(hj:j<x.size):lt (gA x j) (gA x i)=false:=by
 by_cases e:i=j
 ·subst e;exact hr _
 ·have hl:j<x.toList.length:=by simpa using hj
  rw[nI hl,nI (show i<x.toList.length by lia)]
  exact aL.mp hX i j ⋯ hl ⋯
end
def OI:Array mR->Array mR->StateT mC Sem (Array mR):=sortPriv% PySem.Builtin.mergeLo
def CU:Nat->StateT mC Sem Unit:=sortPriv% PySem.Builtin.setMinGallop
theorem tW (n:Nat):CU n=modify λs=>lC (kindOf s) (arrOf s) (pendingOf s) n (failedOf s):=rfl
abbrev oU:=Array mR
abbrev Mx:=Option oU×oU×Nat×Nat×Nat×Nat
abbrev Ks:=Option oU×oU×Nat×Nat×Nat×Nat×Nat
abbrev Mw:=Option oU×oU×Nat×Nat×Nat
abbrev rT (x y o:oU) (i j:Nat):oU:=o++x.extract i x.size++y.extract j y.size
abbrev yf (x y o:oU) (i j:Nat):oU:=o++y.extract j y.size++x.extract i x.size
def LC (x y o:oU) (i j G c d:Nat):StateT mC Sem (ForInStep Mx):=do
 let e <- elem' y j
 if j+1 == y.size then pure (.done (some (rT x y (o.push e) i (j+1)),o.push e,i,j+1,0,d+1))
 else if d+1 ≥ G then pure (.done (none,o.push e,i,j+1,0,d+1)) else pure (.yield (none,o.push e,i,j+1,0,d+1))
def LB (x y o:oU) (i j G c d:Nat):StateT mC Sem (ForInStep Mx):=do
 let e <- elem' x i
 if i+1+1 == x.size then pure (.done (some (yf x y (o.push e) (i+1) j),o.push e,i+1,j,c+1,0))
 else if c+1 ≥ G then pure (.done (none,o.push e,i+1,j,c+1,0)) else pure (.yield (none,o.push e,i+1,j,c+1,0))
def LA (x y o:oU) (i j G c d:Nat):StateT mC Sem (ForInStep Mx):=do
 let a <- elem' y j
 let b <- elem' x i
 match <- lt' a b with
 | some t=>if t then LC x y o i j G c d else LB x y o i j G c d
 | none=>pure (.done (some (rT x y o i j),o,i,j,c,d))
def DH (x y o:oU) (i j G c d:Nat):StateT mC Sem (ForInStep Ks):=do
 let e <- elem' x i
 if i+1+1 == x.size then pure (.done (some (yf x y (o.push e) (i+1) j),o.push e,i+1,j,G,c,d))
 else if c<7 && d<7 then pure (.done (none,o.push e,i+1,j,G,c,d)) else pure (.yield (none,o.push e,i+1,j,G,c,d))
def DI (x y o:oU) (i j G c d:Nat):StateT mC Sem (ForInStep Ks):=do
 let e <- elem' y j
 if j+1 == y.size then pure (.done (some (rT x y (o.push e) i (j+1)),o.push e,i,j+1,G,c,d))
 else do
  let b <- elem' x i
  match <- G4 true b y (j+1) (y.size-(j+1)) 0 with
  | some k =>
   if k > 0 then
    if j+1+k == y.size then pure (.done (some (rT x y (o.push e++y.extract (j+1) (j+1+k)) i (j+1+k)),o.push e++y.extract (j+1) (j+1+k),i,j+1+k,G,c,k))
    else DH x y (o.push e++y.extract (j+1) (j+1+k)) i (j+1+k) G c k
   else DH x y (o.push e) i (j+1) G c k
  | none=>pure (.done (some (rT x y (o.push e) i (j+1)),o.push e,i,j+1,G,c,d))
def AC (x y o:oU) (i j G c d:Nat):StateT mC Sem (ForInStep Ks):=do
 CU G
 let a <- elem' y j
 match <- G4 false a x i (x.size-i) 0 with
 | some k =>
  if k > 0 then
   if i+k+1 == x.size then pure (.done (some (yf x y (o++x.extract i (i+k)) (i+k) j),o++x.extract i (i+k),i+k,j,G,k,d))
   else if i+k == x.size then pure (.done (some (rT x y (o++x.extract i (i+k)) (i+k) j),o++x.extract i (i+k),i+k,j,G,k,d))
   else DI x y (o++x.extract i (i+k)) (i+k) j G k d
  else DI x y o i j G k d
 | none=>pure (.done (some (rT x y o i j),o,i,j,G,c,d))
def Lz (x y o:oU) (i j G c d:Nat):StateT mC Sem (ForInStep Ks):=if G > 1 then AC x y o i j (G-1) c d else AC x y o i j G c d
def G2 (x y o:oU) (i j G c d:Nat):StateT mC Sem (ForInStep Mw):=do
 rule "list.sort.gallop"
 let u <- forIn [0:x.size+y.size] ((none,o,i,j,G+1,c,d):Ks) λ_ u=>Lz x y u.2.1 u.2.2.1 u.2.2.2.1 u.2.2.2.2.1 u.2.2.2.2.2.1 u.2.2.2.2.2.2
 match u.1 with
 | some z=>pure (.done (some z,u.2.1,u.2.2.1,u.2.2.2.1,u.2.2.2.2.1))
 | none=>do
  CU (u.2.2.2.2.1+1)
  pure (.yield (none,u.2.1,u.2.2.1,u.2.2.2.1,u.2.2.2.2.1+1))
def Ly (x y o:oU) (i j G:Nat):StateT mC Sem (ForInStep Mw):=do
 let s <- forIn [0:x.size+y.size] ((none,o,i,j,0,0):Mx) λ_ s=>LA x y s.2.1 s.2.2.1 s.2.2.2.1 G s.2.2.2.2.1 s.2.2.2.2.2
 match s.1 with
 | some z=>pure (.done (some z,s.2.1,s.2.2.1,s.2.2.2.1,G))
 | none=>G2 x y s.2.1 s.2.2.1 s.2.2.2.1 G s.2.2.2.2.1 s.2.2.2.2.2
theorem Ip (x y:oU):OI x y=(do
 rule "list.sort.merge-lo"
 let e <- elem' y 0
 if 1 == y.size then pure (rT x y #[e] 0 1)
 else if 0+1 == x.size then pure (yf x y #[e] 0 1)
 else do
  let z <- get
  let s <- forIn [0:x.size+y.size] ((none,#[e],0,1,gallopOf z):Mw) λ_ s=>Ly x y s.2.1 s.2.2.1 s.2.2.2.1 s.2.2.2.2
  match s.1 with
  | some r=>pure r
  | none=>unsupported "internal:list.sort.merge-bound"):=by
 have hb:∀ {α β:Type}{m:StateT mC Sem α}{f f':α->StateT mC Sem β},(∀ a,f a=f' a)->(m >>= f)=(m >>= f'):=λg=>congrArg _ (funext g)
 have hc:∀ {α β:Type}{m m':StateT mC Sem α}{f f':α->StateT mC Sem β},m=m'->(∀ a,f a=f' a)->(m >>= f)=(m' >>= f'):=λh g=>by rw[h,funext g]
 have hf:∀ {β:Type}{r:fS}{b:β}{f f':Nat->β->StateT mC Sem (ForInStep β)},(∀ a c,f a c=f' a c)->forIn r b f=forIn r b f':=λg=>congrArg _ (funext λa=>funext λc=>g a c)
 have hi:∀ {α:Type}{c:Prop} [Decidable c] {a a' b b':StateT mC Sem α},a=a'->b=b'->(if c then a else b)=(if c then a' else b'):=λh g=>by rw[h,g]
 refine hb λ_=>hb λe=>hi rfl (hi rfl (hb λz=>hc (hf λ_ s=>?_) λs=>?_))
 ·refine hc (hf λ_ s=>hb λa=>hb λb=>hb λc=>?_) λs=>?_
  ·cases c with
   | none=>rfl
   | some t=>cases t<;>rfl
  ·let(u,o,i,j,c,d):=s
   cases u with
   | some u=>rfl
   | none =>
    refine hb λ_=>hc (hf λ_ s=>?_) λs=>?_
    ·let(u,o,i,j,G,c,d):=s
     refine hi ?_ ?_
     all_goals
      refine hb λ_=>hb λ_=>hb λk=>?_
      cases k with
      | none=>rfl
      | some k =>
       refine hi (hi rfl (hi rfl ?_)) ?_
       all_goals
        refine hb fun _=>hi rfl (hb fun _=>hb fun k=>?_)
        cases k with
        | none=>rfl
        | some k=>exact hi (hi rfl rfl) rfl
    ·let(u,o,i,j,G,c,d):=s
     cases u<;>rfl
 ·let(u,o,i,j,c):=s
  cases u<;>rfl
section
variable {prog:mm}{w:mL}{A:mK}{E:mM->mD->Prop}{s:mD}{kd:lY}{Ok:mR->Prop}{lt:mR->mR->Bool}
theorem nz {α:Type}{c:Prop} [Decidable c] {a b:StateT mC Sem α}{Q:α->mC->Prop}{st:mC}(h:c->wpS (model prog w) A E s a Q st)(g:¬ c->wpS (model prog w) A E s b Q st):wpS (model prog w) A E s (if c then a else b) Q st:=by
 by_cases k:c
 ·rw[if_pos k];exact h k
 ·rw[if_neg k];exact g k
theorem nU {x:oU}{i:Nat}(h:i<x.size){Q:mR->mC->Prop}{st:mC}(q:Q (gA x i) st):wpS (model prog w) A E s (elem' x i) Q st:=by
 rw[lW,tH h];exact lS q
theorem pJ {a b:Nat}(h:(a == b)=true):a=b:=by simpa using h
theorem nK {a b:Nat}(h:¬ (a == b)=true):a≠b:=by simpa using h
structure LoF (lt:mR->mR->Bool)(x y:oU):Prop where
 sx:qO lt x.toList
 sy:qO lt y.toList
 ax:∀ {i j},i<=j->j<x.size->lt (gA x j) (gA x i)=false
 ay:∀ {i j},i<=j->j<y.size->lt (gA y j) (gA y i)=false
 hl:∀ j,j<y.size->lt (gA x (x.size-1)) (gA y j)=false
structure LoGO (lt:mR->mR->Bool)(x y o:oU) (i j T:Nat):Prop where
 m:MA lt x y o i j
 hi:i+1<x.size
 hj:j<y.size
 ht:T<=i+j
inductive LoRO (lt:mR->mR->Bool)(x y:oU)(r:Option oU):Prop
 | mk (z:oU)(_:r=some z)(_:Mrg lt x.toList y.toList z.toList):LoRO lt x y r
def Ah {α:Type}(lt:mR->mR->Bool)(x y:oU)(f:α->Option oU×oU×Nat×Nat) (T T':Nat):ForInStep α->Prop
 | .done c=>LoRO lt x y (f c).1 ∨ (f c).1=none/\LoGO lt x y (f c).2.1 (f c).2.2.1 (f c).2.2.2 T
 | .yield c=>(f c).1=none/\LoGO lt x y (f c).2.1 (f c).2.2.1 (f c).2.2.2 T'
abbrev fAO (c:Mx):Option oU×oU×Nat×Nat:=(c.1,c.2.1,c.2.2.1,c.2.2.2.1)
abbrev NS (c:Ks):Option oU×oU×Nat×Nat:=(c.1,c.2.1,c.2.2.1,c.2.2.2.1)
variable {x y o a:oU}{p:Array (Nat×Nat×Nat)}{g i j G c d T:Nat}
theorem LoF.finJ (F:LoF lt x y)(h:MA lt x y o i j)(e:(j == y.size)=true):LoRO lt x y (some (rT x y o i j)):=⟨_,rfl,h.fin F.sx F.sy λm m' _ _ h3 h4=>by have:=pJ e;lia⟩
theorem LoF.finI (F:LoF lt x y)(h:MA lt x y o i j)(e:(i == x.size)=true):LoRO lt x y (some (rT x y o i j)):=⟨_,rfl,h.fin F.sx F.sy λm m' h1 h2 _ _=>by have:=pJ e;lia⟩
theorem LoF.lstI (F:LoF lt x y)(h:MA lt x y o i j)(e:(i+1 == x.size)=true):LoRO lt x y (some (yf x y o i j)):=⟨_,rfl,h.fin2 F.sx F.sy λm m' h1 h2 h3 h4=>by
 have:m=x.size-1:=by have:=pJ e;lia
 rw[this];exact F.hl m' h4⟩
theorem Fy (C:Cmp prog w A E s kd Ok lt)(F:LoF lt x y)(hx:AllOk Ok x)(hy:AllOk Ok y)(h:LoGO lt x y o i j T){T':Nat}(hT:T'<=T+1):wpS (model prog w) A E s (LA x y o i j G c d) (λr st=>st=ox kd a p g/\Ah lt x y fAO T' (T+1) r) (ox kd a p g):=by
 let(hM,hi,hj,hT):=h
 refine lV (nU hj (lV (nU ⋯ (lV (C.run _ _ (hy.at hj) (hx.at ⋯) _ _ rfl ?_)))))
 cases e:lt (gA y j) (gA x i) with
 | true =>
  have hM:=hM.pushY F.sy hj λm' h1 h2=>C.trans _ _ _ (C.asym _ _ e) (F.ax h1 h2)
  refine lV (nU hj (nz (λe=>lS ⟨rfl,.inl (F.finJ hM e)⟩) λe=>?_))
  have:=nK e
  exact nz (λ_=>lS ⟨rfl,.inr ⟨rfl,hM,hi,by dsimp only;lia,by dsimp only;lia⟩⟩) λ_=>lS ⟨rfl,rfl,hM,hi,by dsimp only;lia,by dsimp only;lia⟩
 | false =>
  have hM:=hM.pushX F.sx (show i<x.size by lia) λm' h1 h2=>C.trans _ _ _ e (F.ay h1 h2)
  refine lV (nU ⋯ (nz (λe=>lS ⟨rfl,.inl (F.lstI hM e)⟩) λe=>?_))
  have:=nK e
  exact nz (λ_=>lS ⟨rfl,.inr ⟨rfl,hM,by dsimp only;lia,hj,by dsimp only;lia⟩⟩) λ_=>lS ⟨rfl,rfl,hM,by dsimp only;lia,hj,by dsimp only;lia⟩
theorem yg (F:LoF lt x y)(h:MA lt x y o i j)(hi:i+1<x.size)(hj:j<y.size)(key:∀ m,j<=m->m<y.size->lt (gA y m) (gA x i)=false){T':Nat}(hT:T'<=i+j+1)(hT2:T<=i+j+1):wpS (model prog w) A E s (DH x y o i j G c d) (λr st=>(∃ g,st=ox kd a p g)/\Ah lt x y NS T' T r) (ox kd a p g):=by
 have hM:=h.pushX F.sx (show i<x.size by lia) key
 refine lV (nU ⋯ (nz (λe=>lS ⟨⟨_,rfl⟩,.inl (F.lstI hM e)⟩) λe=>?_))
 have:=nK e
 exact nz (λ_=>lS ⟨⟨_,rfl⟩,.inr ⟨rfl,hM,by dsimp only;lia,hj,by dsimp only;lia⟩⟩) λ_=>lS ⟨⟨_,rfl⟩,rfl,hM,by dsimp only;lia,hj,by dsimp only;lia⟩
theorem yh (C:Cmp prog w A E s kd Ok lt)(F:LoF lt x y)(hx:AllOk Ok x)(hy:AllOk Ok y)(h:MA lt x y o i j)(hi:i+1<x.size)(hj:j<y.size)(key:∀ m,i<=m->m<x.size->lt (gA x m) (gA y j)=false){T':Nat}(hT:T'<=i+j+1)(hT2:T<=i+j+1):wpS (model prog w) A E s (DI x y o i j G c d) (λr st=>(∃ g,st=ox kd a p g)/\Ah lt x y NS T' T r) (ox kd a p g):=by
 have hM:=h.pushY F.sy hj key
 refine lV (nU hj (nz (λe=>lS ⟨⟨_,rfl⟩,.inl (F.finJ hM e)⟩) λe=>?_))
 have:=nK e
 refine lV (nU ⋯ (lV (tq C (kd:=kd) rfl hy (hx.at (show i<x.size by lia)) ⋯ ⋯ ?_ ?_)))
 ·intro u v huv hv h
  simp only[oF,if_true] at h ⊢
  cases e:lt (gA y (j+1+u)) (gA x i) with
  | true=>rfl
  | false =>
   have:=C.trans _ _ _ e (F.ay (show j+1+u<=j+1+v by lia) ⋯)
   rw[h] at this;cases this
 intro k hk kl kr
 simp only[oF,if_true] at kl kr
 have key2:∀ m,j+1+k<=m->m<y.size->lt (gA y m) (gA x i)=false:=λm h1 h2=>by
  have:=kr (m-(j+1)) ⋯ ⋯
  rwa [show j+1+(m-(j+1))=m by lia] at this
 refine nz (λ_=>?_) λhk0=>?_
 ·have hM3:=hM.moreY (k:=k) F.sy λm m' h1 h2 h3 h4 h5=>by
   have:=C.asym _ _ (kl (m-(j+1)) ⋯)
   rw[show j+1+(m-(j+1))=m by lia] at this
   exact C.trans _ _ _ this (F.ax h4 h5)
  refine nz (λe=>lS ⟨⟨_,rfl⟩,.inl (F.finJ hM3 e)⟩) λe=>?_
  have:=nK e
  exact yg F hM3 hi ⋯ key2 ⋯ ⋯
 ·exact yg F hM hi ⋯ (λm h1 h2=>key2 m ⋯ h2) ⋯ ⋯
theorem yi (C:Cmp prog w A E s kd Ok lt)(F:LoF lt x y)(hx:AllOk Ok x)(hy:AllOk Ok y)(h:MA lt x y o i j)(hi:i+1<x.size)(hj:j<y.size){T':Nat}(hT:T'<=i+j+1)(hT2:T<=i+j+1):wpS (model prog w) A E s (AC x y o i j G c d) (λr st=>(∃ g,st=ox kd a p g)/\Ah lt x y NS T' T r) (ox kd a p g):=by
 unfold AC
 rw[tW]
 refine lV (k7 (lV (nU hj (lV (tq C (kd:=kd) rfl hx (hy.at hj) ⋯ ⋯ ?_ ?_)))))
 ·intro u v huv hv h
  simp only[oF,eD,if_false,fJ] at h ⊢
  exact C.trans _ _ _ (F.ax ⋯ ⋯) h
 intro k hk kl kr
 simp only[oF,eD,if_false,fJ,eA] at kl kr
 have key:∀ m,i+k<=m->m<x.size->lt (gA x m) (gA y j)=false:=λm h1 h2=>by
  have:=kr (m-i) ⋯ ⋯
  rw[show i+(m-i)=m by lia] at this
  exact C.asym _ _ this
 refine nz (λ_=>?_) λhk0=>?_
 ·have hM1:MA lt x y (o++x.extract i (i+k)) (i+k) j:=h.moreX F.sx λm m' h1 h2 h3 h4 h5=>by
   have:=kl (m-i) ⋯
   rw[show i+(m-i)=m by lia] at this
   exact C.trans _ _ _ this (F.ay h4 h5)
  refine nz (λe=>lS ⟨⟨_,rfl⟩,.inl (F.lstI hM1 e)⟩) λe=>?_
  refine nz (λe=>lS ⟨⟨_,rfl⟩,.inl (F.finI hM1 e)⟩) λe'=>?_
  have:=nK e;have:=nK e'
  exact yh C F hx hy hM1 ⋯ hj key ⋯ ⋯
 ·exact yh C F hx hy h hi hj (λm h1 h2=>key m ⋯ h2) ⋯ ⋯
theorem Fx (C:Cmp prog w A E s kd Ok lt)(F:LoF lt x y)(hx:AllOk Ok x)(hy:AllOk Ok y)(h:LoGO lt x y o i j T){T':Nat}(hT:T'<=T+1):wpS (model prog w) A E s (Lz x y o i j G c d) (λr st=>(∃ g,st=ox kd a p g)/\Ah lt x y NS T' (T+1) r) (ox kd a p g):=by
 let(hM,hi,hj,hT):=h
 exact nz (λ_=>yi C F hx hy hM hi hj ⋯ ⋯) λ_=>yi C F hx hy hM hi hj ⋯ ⋯
theorem DG (C:Cmp prog w A E s kd Ok lt)(F:LoF lt x y)(hx:AllOk Ok x)(hy:AllOk Ok y)(h:LoGO lt x y o i j (T+1))(hT:T<x.size+y.size):wpS (model prog w) A E s (G2 x y o i j G c d) (λr st=>(∃ g,st=ox kd a p g)/\Ah lt x y (λc:Mw=>(c.1,c.2.1,c.2.2.1,c.2.2.2.1)) (x.size+y.size) (T+1) r) (ox kd a p g):=by
 refine lV (lU (k8 ⟨rfl,?_⟩))
 refine lV (lT (j6 (I:=λn c st=>(∃ g,st=ox kd a p g)/\c.1=none/\LoGO lt x y c.2.1 c.2.2.1 c.2.2.2.1 (T+1+n))
  (Q:=λc st=>(∃ g,st=ox kd a p g)/\(LoRO lt x y c.1 ∨ c.1=none/\LoGO lt x y c.2.1 c.2.2.1 c.2.2.2.1 (T+1))) ?_ ?_ ⟨⟨_,rfl⟩,rfl,h⟩) ?_)
 ·rintro n ⟨r,o,i,j,G,c,d⟩ st'-hn ⟨⟨g,rfl⟩,hc,h⟩
  refine lT (Fx C F hx hy h (T':=T+1) ⋯) λr st h=>?_
  cases r with
  | done c=>exact h
  | yield c=>exact h
 ·rintro c st ⟨g,hc,h⟩
  exact⟨g,.inr ⟨hc,h.1,h.2,h.3,by have:=h.4;lia⟩⟩
 ·rintro⟨u,o,i,j,G,c,d⟩ st ⟨⟨g,rfl⟩,h⟩
  rcases h with⟨z,e,hz⟩|⟨e,h⟩
  ·cases e
   exact lS ⟨⟨_,rfl⟩,.inl ⟨z,rfl,hz⟩⟩
  ·cases e
   dsimp only
   rw[tW]
   exact lV (k7 (lS ⟨⟨_,rfl⟩,rfl,h⟩))
theorem Fw (C:Cmp prog w A E s kd Ok lt)(F:LoF lt x y)(hx:AllOk Ok x)(hy:AllOk Ok y)(h:LoGO lt x y o i j T)(hT:T<x.size+y.size):wpS (model prog w) A E s (Ly x y o i j G) (λr st=>(∃ g,st=ox kd a p g)/\Ah lt x y (λc:Mw=>(c.1,c.2.1,c.2.2.1,c.2.2.2.1)) (x.size+y.size) (T+1) r) (ox kd a p g):=by
 refine lV (lT (j6 (I:=λn c st=>st=ox kd a p g/\c.1=none/\LoGO lt x y c.2.1 c.2.2.1 c.2.2.2.1 (T+n))
  (Q:=λc st=>st=ox kd a p g/\(LoRO lt x y c.1 ∨ c.1=none/\LoGO lt x y c.2.1 c.2.2.1 c.2.2.2.1 (T+1))) ?_ ?_ ⟨rfl,rfl,h⟩) ?_)
 ·rintro n ⟨r,o,i,j,c,d⟩ st'-hn ⟨rfl,hc,h⟩
  refine lT (Fy C F hx hy h (T':=T+1) ⋯) λr st h=>?_
  cases r with
  | done c=>exact h
  | yield c=>exact h
 ·rintro c st ⟨g,hc,h⟩
  exact⟨g,.inr ⟨hc,h.1,h.2,h.3,by have:=h.4;lia⟩⟩
 ·rintro⟨u,o,i,j,c,d⟩ st ⟨rfl,h⟩
  rcases h with⟨z,e,hz⟩|⟨e,h⟩
  ·cases e
   exact lS ⟨⟨_,rfl⟩,.inl ⟨z,rfl,hz⟩⟩
  ·cases e
   exact DG C F hx hy h hT
theorem Io (C:Cmp prog w A E s kd Ok lt){Q:Array mR->mC->Prop}(hx:AllOk Ok x)(hy:AllOk Ok y)(nx:1<=x.size)(ny:1<=y.size)(sx:qO lt x.toList)(sy:qO lt y.toList)
  (hf:lt (gA x 0) (gA y 0)=false)(hl:∀ j,j<y.size->lt (gA x (x.size-1)) (gA y j)=false)
  (q:∀ r g',Mrg lt x.toList y.toList r.toList->Q r (ox kd a p g')):wpS (model prog w) A E s (OI x y) Q (ox kd a p g):=by
 have F:LoF lt x y:=⟨sx,sy,λh1 h2=>xC sx C.refl h1 h2,λh1 h2=>xC sy C.refl h1 h2,hl⟩
 rw[Ip]
 refine lV (lU (k8 ⟨rfl,?_⟩))
 have M0:MA lt x y #[gA y 0] 0 1:=by
  have:MA lt x y #[] 0 0:=⟨by simp,by simp,by simp⟩
  exact this.pushY sy ⋯ λm' _ h2=>C.trans _ _ _ hf (F.ax (kR _) h2)
 refine lV (nU ⋯ (nz (λe=>lS ?_) λe1=>nz (λe=>lS ?_) λe2=>lV (ml ?_)))
 ·let(z,e,hz):=F.finJ M0 e;cases e;exact q _ _ hz
 ·let(z,e,hz):=F.lstI M0 e;cases e;exact q _ _ hz
 have:=nK e1;have:=nK e2
 refine lV (lT (j6 (I:=λn c st=>(∃ g,st=ox kd a p g)/\c.1=none/\LoGO lt x y c.2.1 c.2.2.1 c.2.2.2.1 n)
  (Q:=λc st=>(∃ g,st=ox kd a p g)/\LoRO lt x y c.1) ?_ ?_ ⟨⟨_,rfl⟩,rfl,M0,by dsimp only;lia,by dsimp only;lia,kR _⟩) ?_)
 ·rintro n ⟨r,o,i,j,G⟩ st'-hn ⟨⟨g,rfl⟩,hc,h⟩
  refine lT (Fw C F hx hy h hn) λr st h=>?_
  cases r with
  | done c=>exact⟨h.1,h.2.elim id λk=>by have:=k.2.hi;have:=k.2.hj;have:=k.2.ht;lia⟩
  | yield c=>exact h
 ·rintro c st ⟨g,hc,h⟩
  have:=h.hi;have:=h.hj;have:=h.ht
  lia
 ·rintro⟨u,o,i,j,G⟩ st ⟨⟨g,rfl⟩,z,e,hz⟩
  cases e
  exact lS (q _ _ hz)
end
abbrev rv (lt:mR->mR->Bool):mR->mR->Bool:=λu v=>lt v u
def MH (lt:mR->mR->Bool)(x y o:Array mR) (i j:Nat):Prop:=MI (rv lt) x.toList.reverse y.toList.reverse o.toList (x.size-i) (y.size-j)
section
variable {lt:mR->mR->Bool}{x y o:Array mR}{i j t:Nat}
theorem xB {l:List mR}(h:qO lt l):qO (rv lt) l.reverse:=cg.mpr h
theorem qx (hi:i<=x.size):x.toList.reverse.drop (x.size-i)=(x.toList.take i).reverse:=by
 rw[List.drop_reverse];congr 2;simp;lia
theorem A9 (hi:i<=x.size)(ht:t<=i):(x.toList.reverse.drop (x.size-i)).take (i-t)=(x.extract t i).toList.reverse:=by
 rw[qx hi,List.take_reverse,pk,List.drop_take]
 congr 2
 ·simp;lia
 ·congr 1;simp;lia
theorem qW {α:Type}{X:List α}{u:α}{i:Nat}(h:u∈X.take i):∃ k,∃ hk:k<X.length,k<i/\X[k]=u:=by
 let(m,hm,e):=cL.mp h
 rw[fv] at e
 simp at hm
 exact⟨m,by lia,by lia,e⟩
theorem MH.swap (h:MH lt x y o i j):MH lt y x o j i:=MI.swap h
theorem MH.moreX (h:MH lt x y o i j)(hX:qO lt x.toList)(hi:i<=x.size)(hj:j<=y.size)(ht:t<=i)(hc:∀ m m',t<=m->m<i->m'<j->lt (gA x m) (gA y m')=false):MH lt x y (o++(x.extract t i).reverse) t j:=by
 have:=MI.more (k:=i-t) h (xB hX) λu hu v hv=>by
  rw[A9 hi ht,gi,pk] at hu
  rw[qx hj,gi] at hv
  let(m,hm,m1,m2,rfl):=qD hu
  let(m',hm',n1,rfl):=qW hv
  rw[<- nI hm,<- nI hm']
  exact hc m m' m1 ⋯ n1
 unfold MH
 rw[dv,cV,<- A9 hi ht]
 rwa [show x.size-i+(i-t)=x.size-t by lia] at this
theorem Gu (hi:i<x.size):(x.extract i (i+1)).toList=[gA x i]:=by
 have hl:i<x.toList.length:=by simpa using hi
 rw[pk,show i+1-i=1 by lia,uh hl,nI hl]
theorem MH.pushX (h:MH lt x y o (i+1) j)(hX:qO lt x.toList)(hi:i<x.size)(hj:j<=y.size)(hc:∀ m',m'<j->lt (gA x i) (gA y m')=false):MH lt x y (o.push (gA x i)) i j:=by
 have:=h.moreX hX (show i+1<=x.size by lia) hj (kS i) λm m' h1 h2 h3=>by
  have:m=i:=by lia
  subst this;exact hc m' h3
 unfold MH at this ⊢
 rw[dv,cV,Gu hi] at this
 rw[fK]
 simpa using this
theorem MH.pushY (h:MH lt x y o i (j+1))(hY:qO lt y.toList)(hj:j<y.size)(hi:i<=x.size)(hc:∀ m',m'<i->lt (gA y j) (gA x m')=false):MH lt x y (o.push (gA y j)) i j:=(h.swap.pushX hY hj hi hc).swap
theorem MH.moreY (h:MH lt x y o i j)(hY:qO lt y.toList)(hi:i<=x.size)(hj:j<=y.size)(ht:t<=j)(hc:∀ m m',t<=m->m<j->m'<i->lt (gA y m) (gA x m')=false):MH lt x y (o++(y.extract t j).reverse) i t:=(h.swap.moreX hY hj hi ht hc).swap
theorem Mrg.rev {X Y R:List mR}(h:Mrg (rv lt) X.reverse Y.reverse R):Mrg lt X Y R.reverse:=by
 refine⟨?_,?_⟩
 ·refine R.reverse_perm.trans (h.1.trans ?_)
  exact (X.reverse_perm.append_right _).trans (Y.reverse_perm.append_left _)
 ·exact cg.mpr h.2
theorem MH.fin2 (h:MH lt x y o i j)(hX:qO lt x.toList)(hY:qO lt y.toList)(hi:i<=x.size)(hj:j<=y.size)(hc:∀ m m',m<i->m'<j->lt (gA x m) (gA y m')=false):Mrg lt x.toList y.toList (y.extract 0 j++x.extract 0 i++o.reverse).toList:=by
 have:=MI.fin h (xB hX) (xB hY) λu hu v hv=>by
  rw[qx hi,gi] at hu
  rw[qx hj,gi] at hv
  let(m,hm,m1,rfl):=qW hu
  let(m',hm',n1,rfl):=qW hv
  rw[<- nI hm,<- nI hm']
  exact hc m m' m1 n1
 have:=this.rev
 rw[qx hi,qx hj] at this
 rw[dv,dv,cV,pk,pk]
 simpa using this
theorem MH.fin (h:MH lt x y o i j)(hX:qO lt x.toList)(hY:qO lt y.toList)(hi:i<=x.size)(hj:j<=y.size)(hc:∀ m m',m<i->m'<j->lt (gA y m') (gA x m)=false):Mrg lt x.toList y.toList (x.extract 0 i++y.extract 0 j++o.reverse).toList:=(h.swap.fin2 hY hX hj hi λm m' h1 h2=>hc m' m h2 h1).swap
end
def OJ:Array mR->Array mR->StateT mC Sem (Array mR):=sortPriv% PySem.Builtin.mergeHi
abbrev MG:=Option oU×Nat×Nat×oU×Nat×Nat
abbrev Kt:=Option oU×Nat×Nat×oU×Nat×Nat×Nat
abbrev Of:=Option oU×Nat×Nat×oU×Nat
abbrev rV (x y o:oU) (i j:Nat):oU:=x.extract 0 i++y.extract 0 j++o.reverse
abbrev yz (x y o:oU) (i j:Nat):oU:=y.extract 0 j++x.extract 0 i++o.reverse
def LS (x y o:oU) (i j G c d:Nat):StateT mC Sem (ForInStep MG):=do
 let e <- elem' x (i-1)
 if i-1 == 0 then pure (.done (some (rV x y (o.push e) (i-1) j),i-1,j,o.push e,c+1,0))
 else if c+1 ≥ G then pure (.done (none,i-1,j,o.push e,c+1,0)) else pure (.yield (none,i-1,j,o.push e,c+1,0))
def LR (x y o:oU) (i j G c d:Nat):StateT mC Sem (ForInStep MG):=do
 let e <- elem' y (j-1)
 if j-1 == 1 then pure (.done (some (yz x y (o.push e) i (j-1)),i,j-1,o.push e,0,d+1))
 else if d+1 ≥ G then pure (.done (none,i,j-1,o.push e,0,d+1)) else pure (.yield (none,i,j-1,o.push e,0,d+1))
def LQ (x y o:oU) (i j G c d:Nat):StateT mC Sem (ForInStep MG):=do
 let a <- elem' y (j-1)
 let b <- elem' x (i-1)
 match <- lt' a b with
 | some t=>if t then LS x y o i j G c d else LR x y o i j G c d
 | none=>pure (.done (some (rV x y o i j),i,j,o,c,d))
def DY (x y o:oU) (i j G c d:Nat):StateT mC Sem (ForInStep Kt):=do
 let e <- elem' x (i-1)
 if i-1 == 0 then pure (.done (some (rV x y (o.push e) (i-1) j),i-1,j,o.push e,G,c,d))
 else if c<7 && d<7 then pure (.done (none,i-1,j,o.push e,G,c,d)) else pure (.yield (none,i-1,j,o.push e,G,c,d))
def DZ (x y o:oU) (i j G c d:Nat):StateT mC Sem (ForInStep Kt):=do
 let e <- elem' y (j-1)
 if j-1 == 1 then pure (.done (some (yz x y (o.push e) i (j-1)),i,j-1,o.push e,G,c,d))
 else do
  let b <- elem' x (i-1)
  match <- G4 true b y 0 (j-1) (j-1-1) with
  | some t =>
   if j-1-t > 0 then
    if t == 1 then pure (.done (some (yz x y (o.push e++(y.extract t (j-1)).reverse) i t),i,t,o.push e++(y.extract t (j-1)).reverse,G,c,j-1-t))
    else if t == 0 then pure (.done (some (rV x y (o.push e++(y.extract t (j-1)).reverse) i t),i,t,o.push e++(y.extract t (j-1)).reverse,G,c,j-1-t))
    else DY x y (o.push e++(y.extract t (j-1)).reverse) i t G c (j-1-t)
   else DY x y (o.push e) i (j-1) G c (j-1-t)
  | none=>pure (.done (some (rV x y (o.push e) i (j-1)),i,j-1,o.push e,G,c,d))
def AN (x y o:oU) (i j G c d:Nat):StateT mC Sem (ForInStep Kt):=do
 CU G
 let a <- elem' y (j-1)
 match <- G4 false a x 0 i (i-1) with
 | some t =>
  if i-t > 0 then
   if t == 0 then pure (.done (some (rV x y (o++(x.extract t i).reverse) t j),t,j,o++(x.extract t i).reverse,G,i-t,d))
   else DZ x y (o++(x.extract t i).reverse) t j G (i-t) d
  else DZ x y o i j G (i-t) d
 | none=>pure (.done (some (rV x y o i j),i,j,o,G,c,d))
def LP (x y o:oU) (i j G c d:Nat):StateT mC Sem (ForInStep Kt):=if G > 1 then AN x y o i j (G-1) c d else AN x y o i j G c d
def G3 (x y o:oU) (i j G c d:Nat):StateT mC Sem (ForInStep Of):=do
 rule "list.sort.gallop"
 let u <- forIn [0:x.size+y.size] ((none,i,j,o,G+1,c,d):Kt) λ_ u=>LP x y u.2.2.2.1 u.2.1 u.2.2.1 u.2.2.2.2.1 u.2.2.2.2.2.1 u.2.2.2.2.2.2
 match u.1 with
 | some z=>pure (.done (some z,u.2.1,u.2.2.1,u.2.2.2.1,u.2.2.2.2.1))
 | none=>do
  CU (u.2.2.2.2.1+1)
  pure (.yield (none,u.2.1,u.2.2.1,u.2.2.2.1,u.2.2.2.2.1+1))
def LO (x y o:oU) (i j G:Nat):StateT mC Sem (ForInStep Of):=do
 let s <- forIn [0:x.size+y.size] ((none,i,j,o,0,0):MG) λ_ s=>LQ x y s.2.2.2.1 s.2.1 s.2.2.1 G s.2.2.2.2.1 s.2.2.2.2.2
 match s.1 with
 | some z=>pure (.done (some z,s.2.1,s.2.2.1,s.2.2.2.1,G))
 | none=>G3 x y s.2.2.2.1 s.2.1 s.2.2.1 G s.2.2.2.2.1 s.2.2.2.2.2
theorem Ir (x y:oU):OJ x y=(do
 rule "list.sort.merge-hi"
 let e <- elem' x (x.size-1)
 if x.size-1 == 0 then pure (rV x y #[e] (x.size-1) y.size)
 else if y.size == 1 then pure (yz x y #[e] (x.size-1) y.size)
 else do
  let z <- get
  let s <- forIn [0:x.size+y.size] ((none,x.size-1,y.size,#[e],gallopOf z):Of) λ_ s=>LO x y s.2.2.2.1 s.2.1 s.2.2.1 s.2.2.2.2
  match s.1 with
  | some r=>pure r
  | none=>unsupported "internal:list.sort.merge-bound"):=by
 have hb:∀ {α β:Type}{m:StateT mC Sem α}{f f':α->StateT mC Sem β},(∀ a,f a=f' a)->(m >>= f)=(m >>= f'):=λg=>congrArg _ (funext g)
 have hc:∀ {α β:Type}{m m':StateT mC Sem α}{f f':α->StateT mC Sem β},m=m'->(∀ a,f a=f' a)->(m >>= f)=(m' >>= f'):=λh g=>by rw[h,funext g]
 have hf:∀ {β:Type}{r:fS}{b:β}{f f':Nat->β->StateT mC Sem (ForInStep β)},(∀ a c,f a c=f' a c)->forIn r b f=forIn r b f':=λg=>congrArg _ (funext λa=>funext λc=>g a c)
 have hi:∀ {α:Type}{c:Prop} [Decidable c] {a a' b b':StateT mC Sem α},a=a'->b=b'->(if c then a else b)=(if c then a' else b'):=λh g=>by rw[h,g]
 refine hb λ_=>hb λe=>hi rfl (hi rfl (hb λz=>hc (hf λ_ s=>?_) λs=>?_))
 ·refine hc (hf λ_ s=>hb λa=>hb λb=>hb λc=>?_) λs=>?_
  ·cases c with
   | none=>rfl
   | some t=>cases t<;>rfl
  ·let(u,i,j,o,c,d):=s
   cases u with
   | some u=>rfl
   | none =>
    refine hb λ_=>hc (hf λ_ s=>?_) λs=>?_
    ·let(u,i,j,o,G,c,d):=s
     refine hi ?_ ?_
     all_goals
      refine hb λ_=>hb λ_=>hb λk=>?_
      cases k with
      | none=>rfl
      | some k =>
       refine hi (hi rfl ?_) ?_
       all_goals
        refine hb fun _=>hi rfl (hb fun _=>hb fun k=>?_)
        cases k with
        | none=>rfl
        | some k=>exact hi (hi rfl (hi rfl rfl)) rfl
    ·let(u,i,j,o,G,c,d):=s
     cases u<;>rfl
 ·let(u,i,j,o,c):=s
  cases u<;>rfl
section
variable {prog:mm}{w:mL}{A:mK}{E:mM->mD->Prop}{s:mD}{kd:lY}{Ok:mR->Prop}{lt:mR->mR->Bool}
variable {x y o a:oU}{p:Array (Nat×Nat×Nat)}{g i j G c d T:Nat}
theorem MH.popX (h:MH lt x y o i j)(hX:qO lt x.toList)(h1:1<=i)(hi:i<=x.size)(hj:j<=y.size)(hc:∀ m',m'<j->lt (gA x (i-1)) (gA y m')=false):MH lt x y (o.push (gA x (i-1))) (i-1) j:=MH.pushX (by rw[dM h1];exact h) hX ⋯ hj hc
theorem MH.popY (h:MH lt x y o i j)(hY:qO lt y.toList)(h1:1<=j)(hj:j<=y.size)(hi:i<=x.size)(hc:∀ m',m'<i->lt (gA y (j-1)) (gA x m')=false):MH lt x y (o.push (gA y (j-1))) i (j-1):=MH.pushY (by rw[dM h1];exact h) hY ⋯ hi hc
structure HiF (lt:mR->mR->Bool)(x y:oU):Prop extends LoF lt x y where
 f0:∀ m,m<x.size->lt (gA x m) (gA y 0)=false
def xF (x y:oU) (i j T:Nat):Prop:=1<=i/\i<x.size/\2<=j/\j<=y.size/\T+i+j<=x.size+y.size
structure HiGO (lt:mR->mR->Bool)(x y o:oU) (i j T:Nat):Prop where
 m:MH lt x y o i j
 b:xF x y i j T
def Ai {α:Type}(lt:mR->mR->Bool)(x y:oU)(f:α->Option oU×oU×Nat×Nat) (T T':Nat):ForInStep α->Prop
 | .done c=>LoRO lt x y (f c).1 ∨ (f c).1=none/\HiGO lt x y (f c).2.1 (f c).2.2.1 (f c).2.2.2 T
 | .yield c=>(f c).1=none/\HiGO lt x y (f c).2.1 (f c).2.2.1 (f c).2.2.2 T'
abbrev hAO (c:MG):Option oU×oU×Nat×Nat:=(c.1,c.2.2.2.1,c.2.1,c.2.2.1)
abbrev Nh (c:Kt):Option oU×oU×Nat×Nat:=(c.1,c.2.2.2.1,c.2.1,c.2.2.1)
abbrev hUO (c:Of):Option oU×oU×Nat×Nat:=(c.1,c.2.2.2.1,c.2.1,c.2.2.1)
theorem HiF.finI (F:HiF lt x y)(h:MH lt x y o i j)(e:(i == 0)=true)(hj:j<=y.size):LoRO lt x y (some (rV x y o i j)):=⟨_,rfl,h.fin F.sx F.sy (by have:=pJ e;lia) hj λm m' h1 _=>by have:=pJ e;lia⟩
theorem HiF.finJ (F:HiF lt x y)(h:MH lt x y o i j)(e:(j == 0)=true)(hi:i<=x.size):LoRO lt x y (some (rV x y o i j)):=⟨_,rfl,h.fin F.sx F.sy hi (by have:=pJ e;lia) λm m' _ h2=>by have:=pJ e;lia⟩
theorem HiF.fstJ (F:HiF lt x y)(h:MH lt x y o i j)(e:(j == 1)=true)(hi:i<=x.size)(hj:j<=y.size):LoRO lt x y (some (yz x y o i j)):=⟨_,rfl,h.fin2 F.sx F.sy hi hj λm m' h1 h2=>by
 have:m'=0:=by have:=pJ e;lia
 subst this
 exact F.f0 m ⋯⟩
theorem F5 (C:Cmp prog w A E s kd Ok lt)(F:HiF lt x y)(hx:AllOk Ok x)(hy:AllOk Ok y)(h:HiGO lt x y o i j T){T':Nat}(hT:T'<=T+1):wpS (model prog w) A E s (LQ x y o i j G c d) (λr st=>st=ox kd a p g/\Ai lt x y hAO T' (T+1) r) (ox kd a p g):=by
 let(hM,h1,h2,h3,h4,h5):=h
 refine lV (nU ⋯ (lV (nU ⋯ (lV (C.run _ _ (hy.at ⋯) (hx.at ⋯) _ _ rfl ?_)))))
 cases e:lt (gA y (j-1)) (gA x (i-1)) with
 | true =>
  have hM:=hM.popX F.sx h1 ⋯ h4 λm' hm'=>C.trans _ _ _ (F.ay (show m'<=j-1 by lia) ⋯) (C.asym _ _ e)
  refine lV (nU ⋯ (nz (λe=>lS ⟨rfl,.inl (F.finI hM e h4)⟩) λe=>?_))
  have:=nK e
  have hb:xF x y (i-1) j (T+1):=by unfold xF;lia
  have hb':xF x y (i-1) j T':=by unfold xF at hb ⊢;lia
  exact nz (λ_=>lS ⟨rfl,.inr ⟨rfl,hM,hb'⟩⟩) λ_=>lS ⟨rfl,rfl,hM,hb⟩
 | false =>
  have hM:=hM.popY F.sy ⋯ h4 ⋯ λm' hm'=>C.trans _ _ _ (F.ax (show m'<=i-1 by lia) ⋯) e
  refine lV (nU ⋯ (nz (λe=>lS ⟨rfl,.inl (F.fstJ hM e ⋯ ⋯)⟩) λe=>?_))
  have:=nK e
  have hb:xF x y i (j-1) (T+1):=by unfold xF;lia
  have hb':xF x y i (j-1) T':=by unfold xF at hb ⊢;lia
  exact nz (λ_=>lS ⟨rfl,.inr ⟨rfl,hM,hb'⟩⟩) λ_=>lS ⟨rfl,rfl,hM,hb⟩
theorem yu (F:HiF lt x y)(h:MH lt x y o i j)(b:1<=i/\i<x.size/\2<=j/\j<=y.size/\T+i+j<=x.size+y.size+1)(key:∀ m',m'<j->lt (gA x (i-1)) (gA y m')=false){T':Nat}(hT:T'<=T):wpS (model prog w) A E s (DY x y o i j G c d) (λr st=>(∃ g,st=ox kd a p g)/\Ai lt x y Nh T' T r) (ox kd a p g):=by
 have hM:=h.popX F.sx b.1 ⋯ b.2.2.2.1 key
 refine lV (nU ⋯ (nz (λe=>lS ⟨⟨_,rfl⟩,.inl (F.finI hM e b.2.2.2.1)⟩) λe=>?_))
 have:=nK e
 have hb:xF x y (i-1) j T:=by unfold xF;lia
 have hb':xF x y (i-1) j T':=by unfold xF at hb ⊢;lia
 exact nz (λ_=>lS ⟨⟨_,rfl⟩,.inr ⟨rfl,hM,hb'⟩⟩) λ_=>lS ⟨⟨_,rfl⟩,rfl,hM,hb⟩
theorem yv (C:Cmp prog w A E s kd Ok lt)(F:HiF lt x y)(hx:AllOk Ok x)(hy:AllOk Ok y)(h:MH lt x y o i j)(b:1<=i/\i<x.size/\2<=j/\j<=y.size/\T+i+j<=x.size+y.size+1)(key:∀ m',m'<i->lt (gA y (j-1)) (gA x m')=false){T':Nat}(hT:T'<=T):wpS (model prog w) A E s (DZ x y o i j G c d) (λr st=>(∃ g,st=ox kd a p g)/\Ai lt x y Nh T' T r) (ox kd a p g):=by
 have hM:=h.popY F.sy ⋯ b.2.2.2.1 ⋯ key
 refine lV (nU ⋯ (nz (λe=>lS ⟨⟨_,rfl⟩,.inl (F.fstJ hM e ⋯ ⋯)⟩) λe=>?_))
 have:=nK e
 refine lV (nU ⋯ (lV (tq C (kd:=kd) rfl hy (hx.at (show i-1<x.size by lia)) ⋯ ⋯ ?_ ?_)))
 ·intro u v huv hv h
  simp only[oF,if_true,kn] at h ⊢
  cases e:lt (gA y u) (gA x (i-1)) with
  | true=>rfl
  | false =>
   have:=C.trans _ _ _ e (F.ay huv ⋯)
   rw[h] at this;cases this
 intro t ht kl kr
 simp only[oF,if_true,kn] at kl kr
 have k2:∀ m',m'<t->lt (gA x (i-1)) (gA y m')=false:=λm' hm'=>C.asym _ _ (kl m' hm')
 refine nz (λ_=>?_) λhk=>yu F hM ⋯ (λm' hm'=>k2 m' ⋯) hT
 have hM3:=hM.moreY (t:=t) F.sy ⋯ ⋯ ht λm m' g1 g2 g3=>C.trans _ _ _ (F.ax (show m'<=i-1 by lia) ⋯) (kr m g1 g2)
 refine nz (λe=>lS ⟨⟨_,rfl⟩,.inl (F.fstJ hM3 e ⋯ ⋯)⟩) λe=>?_
 refine nz (λe=>lS ⟨⟨_,rfl⟩,.inl (F.finJ hM3 e ⋯)⟩) λe'=>?_
 have:=nK e;have:=nK e'
 exact yu F hM3 ⋯ k2 hT
theorem yx (C:Cmp prog w A E s kd Ok lt)(F:HiF lt x y)(hx:AllOk Ok x)(hy:AllOk Ok y)(h:MH lt x y o i j)(b:1<=i/\i<x.size/\2<=j/\j<=y.size/\T+i+j<=x.size+y.size+1){T':Nat}(hT:T'<=T):wpS (model prog w) A E s (AN x y o i j G c d) (λr st=>(∃ g,st=ox kd a p g)/\Ai lt x y Nh T' T r) (ox kd a p g):=by
 unfold AN
 rw[tW]
 refine lV (k7 (lV (nU ⋯ (lV (tq C (kd:=kd) rfl hx (hy.at (show j-1<y.size by lia)) ⋯ ⋯ ?_ ?_)))))
 ·intro u v huv hv h
  simp only[oF,eD,if_false,fJ,kn] at h ⊢
  exact C.trans _ _ _ (F.ax ⋯ ⋯) h
 intro t ht kl kr
 simp only[oF,eD,if_false,fJ,eA,kn] at kl kr
 refine nz (λ_=>?_) λhk=>yv C F hx hy h b (λm' hm'=>kl m' ⋯) hT
 have hM1:=h.moreX (t:=t) F.sx ⋯ b.2.2.2.1 ht λm m' g1 g2 g3=>C.trans _ _ _ (F.ay (show m'<=j-1 by lia) ⋯) (C.asym _ _ (kr m g1 g2))
 refine nz (λe=>lS ⟨⟨_,rfl⟩,.inl (F.finI hM1 e b.2.2.2.1)⟩) λe=>?_
 have:=nK e
 exact yv C F hx hy hM1 ⋯ kl hT
theorem F4 (C:Cmp prog w A E s kd Ok lt)(F:HiF lt x y)(hx:AllOk Ok x)(hy:AllOk Ok y)(h:HiGO lt x y o i j T){T':Nat}(hT:T'<=T+1):wpS (model prog w) A E s (LP x y o i j G c d) (λr st=>(∃ g,st=ox kd a p g)/\Ai lt x y Nh T' (T+1) r) (ox kd a p g):=by
 let(hM,b):=h
 unfold xF at b
 exact nz (λ_=>yx C F hx hy hM ⋯ hT) λ_=>yx C F hx hy hM ⋯ hT
theorem DX (C:Cmp prog w A E s kd Ok lt)(F:HiF lt x y)(hx:AllOk Ok x)(hy:AllOk Ok y)(h:HiGO lt x y o i j (T+1))(hT:T<x.size+y.size):wpS (model prog w) A E s (G3 x y o i j G c d) (λr st=>(∃ g,st=ox kd a p g)/\Ai lt x y hUO (x.size+y.size) (T+1) r) (ox kd a p g):=by
 refine lV (lU (k8 ⟨rfl,?_⟩))
 refine lV (lT (j6 (I:=λn c st=>(∃ g,st=ox kd a p g)/\c.1=none/\HiGO lt x y c.2.2.2.1 c.2.1 c.2.2.1 (T+1+n))
  (Q:=λc st=>(∃ g,st=ox kd a p g)/\(LoRO lt x y c.1 ∨ c.1=none/\HiGO lt x y c.2.2.2.1 c.2.1 c.2.2.1 (T+1))) ?_ ?_ ⟨⟨_,rfl⟩,rfl,h⟩) ?_)
 ·rintro n ⟨r,i,j,o,G,c,d⟩ st'-hn ⟨⟨g,rfl⟩,hc,h⟩
  refine lT (F4 C F hx hy h (T':=T+1) ⋯) λr st h=>?_
  cases r with
  | done c=>exact h
  | yield c=>exact h
 ·rintro c st ⟨g,hc,h⟩
  exact⟨g,.inr ⟨hc,⟨h.m,by have:=h.b;unfold xF at this ⊢;lia⟩⟩⟩
 ·rintro⟨u,i,j,o,G,c,d⟩ st ⟨⟨g,rfl⟩,h⟩
  rcases h with⟨z,e,hz⟩|⟨e,h⟩
  ·cases e
   exact lS ⟨⟨_,rfl⟩,.inl ⟨z,rfl,hz⟩⟩
  ·cases e
   dsimp only
   rw[tW]
   exact lV (k7 (lS ⟨⟨_,rfl⟩,rfl,h⟩))
theorem F3 (C:Cmp prog w A E s kd Ok lt)(F:HiF lt x y)(hx:AllOk Ok x)(hy:AllOk Ok y)(h:HiGO lt x y o i j T)(hT:T<x.size+y.size):wpS (model prog w) A E s (LO x y o i j G) (λr st=>(∃ g,st=ox kd a p g)/\Ai lt x y hUO (x.size+y.size) (T+1) r) (ox kd a p g):=by
 refine lV (lT (j6 (I:=λn c st=>st=ox kd a p g/\c.1=none/\HiGO lt x y c.2.2.2.1 c.2.1 c.2.2.1 (T+n))
  (Q:=λc st=>st=ox kd a p g/\(LoRO lt x y c.1 ∨ c.1=none/\HiGO lt x y c.2.2.2.1 c.2.1 c.2.2.1 (T+1))) ?_ ?_ ⟨rfl,rfl,h⟩) ?_)
 ·rintro n ⟨r,i,j,o,c,d⟩ st'-hn ⟨rfl,hc,h⟩
  refine lT (F5 C F hx hy h (T':=T+1) ⋯) λr st h=>?_
  cases r with
  | done c=>exact h
  | yield c=>exact h
 ·rintro c st ⟨g,hc,h⟩
  exact⟨g,.inr ⟨hc,⟨h.m,by have:=h.b;unfold xF at this ⊢;lia⟩⟩⟩
 ·rintro⟨u,i,j,o,c,d⟩ st ⟨rfl,h⟩
  rcases h with⟨z,e,hz⟩|⟨e,h⟩
  ·cases e
   exact lS ⟨⟨_,rfl⟩,.inl ⟨z,rfl,hz⟩⟩
  ·cases e
   exact DX C F hx hy h hT
theorem Iq (C:Cmp prog w A E s kd Ok lt){Q:Array mR->mC->Prop}(hx:AllOk Ok x)(hy:AllOk Ok y)(nx:1<=x.size)(ny:1<=y.size)(sx:qO lt x.toList)(sy:qO lt y.toList)
  (hf:lt (gA x 0) (gA y 0)=false)(hl:∀ j,j<y.size->lt (gA x (x.size-1)) (gA y j)=false)
  (q:∀ r g',Mrg lt x.toList y.toList r.toList->Q r (ox kd a p g')):wpS (model prog w) A E s (OJ x y) Q (ox kd a p g):=by
 have L:LoF lt x y:=⟨sx,sy,λh1 h2=>xC sx C.refl h1 h2,λh1 h2=>xC sy C.refl h1 h2,hl⟩
 have F:HiF lt x y:=⟨L,λm hm=>C.trans _ _ _ hf (L.ax (kR _) hm)⟩
 rw[Ir]
 refine lV (lU (k8 ⟨rfl,?_⟩))
 have M0:MH lt x y #[gA x (x.size-1)] (x.size-1) y.size:=by
  have h0:MH lt x y #[] x.size y.size:=by
   refine⟨?_,by simp,by simp⟩
   simp
  exact h0.popX sx nx (kT _) (kT _) hl
 refine lV (nU ⋯ (nz (λe=>lS ?_) λe1=>nz (λe=>lS ?_) λe2=>lV (ml ?_)))
 ·let(z,e,hz):=F.finI M0 e (kT _);cases e;exact q _ _ hz
 ·let(z,e,hz):=F.fstJ M0 e ⋯ (kT _);cases e;exact q _ _ hz
 have:=nK e1;have:=nK e2
 refine lV (lT (j6 (I:=λn c st=>(∃ g,st=ox kd a p g)/\c.1=none/\HiGO lt x y c.2.2.2.1 c.2.1 c.2.2.1 n)
  (Q:=λc st=>(∃ g,st=ox kd a p g)/\LoRO lt x y c.1) ?_ ?_ ⟨⟨_,rfl⟩,rfl,M0,by unfold xF;dsimp only;lia⟩) ?_)
 ·rintro n ⟨r,i,j,o,G⟩ st'-hn ⟨⟨g,rfl⟩,hc,h⟩
  refine lT (F3 C F hx hy h hn) λr st h=>?_
  cases r with
  | done c=>exact⟨h.1,h.2.elim id λk=>by have:=k.2.b;unfold xF at this;lia⟩
  | yield c=>exact h
 ·rintro c st ⟨g,hc,h⟩
  have:=h.b
  unfold xF at this
  lia
 ·rintro⟨u,i,j,o,G⟩ st ⟨⟨g,rfl⟩,z,e,hz⟩
  cases e
  exact lS (q _ _ hz)
end
theorem wM {lt:mR->mR->Bool}(hr:∀ u,lt u u=false){a:Array mR}{lo hi:Nat}(hh:hi<=a.size):Srt lt a lo hi↔qO lt ((a.toList.drop lo).take (hi-lo)):=by
 rw[qO,aL]
 constructor
 ·intro h i j hi' hj hij
  simp at hi' hj
  simp only[fv,fw]
  have:=h (lo+i) (lo+j) ⋯ ⋯ ⋯
  rwa [nI (show lo+i<a.toList.length by simp;lia),nI (show lo+j<a.toList.length by simp;lia)] at this
 ·intro h i j h1 h2 h3
  by_cases e:i=j
  ·subst e;exact hr _
  ·have:=h (i-lo) (j-lo) (by simp;lia) (by simp;lia) ⋯
   simp only[fv,fw,show lo+(i-lo)=i by lia,show lo+(j-lo)=j by lia] at this
   rw[nI (show i<a.toList.length by simp;lia),nI (show j<a.toList.length by simp;lia)]
   exact this
def back (r:Array mR) (s:Nat)(a:Array mR):Array mR:=r.toList.zipIdx.foldl (λa q=>a.setIfInBounds (s+q.2) q.1) a
theorem wa (s:Nat):∀ (l:List mR) (k:Nat)(a:Array mR),s+k+l.length<=a.size->((l.zipIdx k).foldl (λa q=>a.setIfInBounds (s+q.2) q.1) a).toList=a.toList.take (s+k)++l++a.toList.drop (s+k+l.length)
 | [],k,a,_=>by simp
 | x :: l,k,a,h=>by
  rw[gc,iB,wa s l (k+1) _ (by simp at h ⊢;lia)]
  have hk:s+k<a.toList.length:=by simp at h ⊢;lia
  have e:(a.setIfInBounds (s+k) x).toList=a.toList.take (s+k)++x :: a.toList.drop (s+k+1):=by
   rw[Array.toList_setIfInBounds,List.set_eq_take_append_cons_drop,if_pos hk]
  show (a.setIfInBounds (s+k) x).toList.take (s+(k+1))++l++(a.setIfInBounds (s+k) x).toList.drop (s+(k+1)+l.length)=_
  have hl:(a.toList.take (s+k)).length=s+k:=by rw[gk];lia
  have e1:(a.setIfInBounds (s+k) x).toList.take (s+(k+1))=a.toList.take (s+k)++[x]:=by
   rw[e,List.take_append,bN (by rw[hl];lia),hl,show s+(k+1)-(s+k)=1 by lia];rfl
  have e2:(a.setIfInBounds (s+k) x).toList.drop (s+(k+1)+l.length)=a.toList.drop (s+k+(x :: l).length):=by
   rw[e,List.drop_append,bP (by rw[hl];lia),hl,show s+(k+1)+l.length-(s+k)=l.length+1 by lia,il,List.drop_succ_cons,jl,gp]
   congr 1;lia
  rw[e1,e2];simp
theorem Ci {r a:Array mR}{s:Nat}(h:s+r.size<=a.size):(back r s a).toList=a.toList.take s++r.toList++a.toList.drop (s+r.size):=by
 have:=wa s r.toList 0 a (by simpa using h)
 simpa[back] using this
theorem zB (i:Nat):mergeAt' i=(do
 let z <- get
 let (some (u,m,e),some (v,n,_)):=((pendingOf z)[i]?,(pendingOf z)[i+1]?)|unsupported "internal:list.sort.pending"
 set (lC (kindOf z) (arrOf z) (((pendingOf z).setIfInBounds i (u,m+n,e)).eraseIdxIfInBounds (i+1)) (gallopOf z) (failedOf z))
 let some k <- G4 false (<- elem' (arrOf z) v) (arrOf z) u m 0|return false
 let (u,m):=(u+k,m-k)
 if m == 0 then return true
 let some n <- G4 true (<- elem' (arrOf z) (u+m-1)) (arrOf z) v n (n-1)|return false
 if n == 0 then return true
 let x:=(arrOf z).extract u v
 let y:=(arrOf z).extract v (v+n)
 let r <- if m<=n then OI x y else OJ x y
 modify λz=>setArr z (r.toList.zipIdx.foldl (λa (p,j)=>a.setIfInBounds (u+j) p) (arrOf z))
 return (failedOf (<- get)).isNone):=rfl
section
variable {prog:mm}{w:mL}{A:mK}{E:mM->mD->Prop}{s:mD}{kd:lY}{Ok:mR->Prop}{lt:mR->mR->Bool}
theorem ED {Q:PUnit->mC->Prop}{st st':mC}(h:Q ⟨⟩ st'):wpS (model prog w) A E s (set st':StateT mC Sem PUnit) Q st:=by
 unfold wpS;rw[StateT.run_set];exact k9 ⟨rfl,h⟩
theorem xg {a:Array mR}{i j k:Nat}(hj:j<=a.size)(hk:i+k<j):gA (a.extract i j) k=gA a (i+k):=by
 apply p7
 rw[Array.getElem?_extract,if_pos ⋯]
theorem Iu (C:Cmp prog w A E s kd Ok lt){a:Array mR}{p:Array (Nat×Nat×Nat)}{g i u m e n f:Nat}{Q:Bool->mC->Prop}(ho:AllOk Ok a)(h1:p[i]?=some (u,m,e))(h2:p[i+1]?=some (u+m,n,f))(hm:1<=m)(hn:1<=n)(hz:u+m+n<=a.size)(s1:Srt lt a u (u+m))(s2:Srt lt a (u+m) (u+m+n))
  (q:∀ b g',Out a b u (u+m+n)->Srt lt b u (u+m+n)->Q true (ox kd b ((p.setIfInBounds i (u,m+n,e)).eraseIdxIfInBounds (i+1)) g')):wpS (model prog w) A E s (mergeAt' i) Q (ox kd a p g):=by
 rw[zB]
 refine lV (ml ?_)
 show wpS _ _ _ _ (match (p[i]?,p[i+1]?) with|(some (u,m,e),some (v,n,_))=>_|_=>_) _ _
 rw[h1,h2]
 refine lV (ED ?_)
 generalize ((p.setIfInBounds i (u,m+n,e)).eraseIdxIfInBounds (i+1))=p' at q ⊢
 rw[show arrOf (ox kd a p g)=a from rfl,show lC (kindOf (ox kd a p g)) a p' (gallopOf (ox kd a p g)) (failedOf (ox kd a p g))=ox kd a p' g from rfl,lW,tH (show u+m<a.size by lia)]
 refine lV (lS ?_)
 refine lV (tq C (kd:=kd) rfl ho (ho.at ⋯) ⋯ ⋯ ?_ ?_)
 ·intro x y hxy hy h
  simp only[oF,eD,if_false,fJ] at h ⊢
  exact C.trans _ _ _ (s1 _ _ ⋯ ⋯ ⋯) h
 intro k hk kl kr
 simp only[oF,eD,if_false,fJ,eA] at kl kr
 dsimp only
 -- where all of the first row is ahead of the second
 have whole:(∀ i j,u<=i->i<u+m->u+m<=j->j<u+m+n->lt (gA a j) (gA a i)=false)->Srt lt a u (u+m+n):=by
  intro h i j h1 h2 h3
  by_cases hj:j<u+m
  ·exact s1 i j h1 h2 hj
  ·by_cases hi:i<u+m
   ·exact h i j h1 hi ⋯ h3
   ·exact s2 i j ⋯ h2 h3
 by_cases hb:m-k=0
 ·rw[if_pos (by simpa using hb)]
  refine lS (q a g (Out.refl _ _ _) (whole λi j h1 h2 h3 h4=>?_))
  have:=kl (i-u) ⋯
  rw[show u+(i-u)=i by lia] at this
  exact C.trans _ _ _ this (s2 _ _ (kT _) h3 h4)
 rw[if_neg (by simpa using hb),lW,tH (show u+k+(m-k)-1<a.size by lia)]
 refine lV (lS ?_)
 rw[show u+k+(m-k)-1=u+m-1 by lia]
 refine lV (tq C (kd:=kd) rfl ho (ho.at ⋯) ⋯ ⋯ ?_ ?_)
 ·intro x y hxy hy h
  simp only[oF,if_true] at h ⊢
  cases e:lt (gA a (u+m+x)) (gA a (u+m-1)) with
  | true=>rfl
  | false =>
   have:=C.trans _ _ _ e (s2 (u+m+x) (u+m+y) ⋯ ⋯ ⋯)
   rw[h] at this;cases this
 intro t ht kl2 kr2
 simp only[oF,if_true] at kl2 kr2
 dsimp only
 by_cases hb2:t=0
 ·rw[if_pos (by simpa using hb2)]
  refine lS (q a g (Out.refl _ _ _) (whole λi j h1 h2 h3 h4=>?_))
  have:=kr2 (j-(u+m)) ⋯ ⋯
  rw[show u+m+(j-(u+m))=j by lia] at this
  exact C.trans _ _ _ (s1 i (u+m-1) h1 ⋯ ⋯) this
 rw[if_neg (by simpa using hb2)]
 have xs:(a.extract (u+k) (u+m)).size=m-k:=by rw[eE];lia
 have ys:(a.extract (u+m) (u+m+t)).size=t:=by rw[eE];lia
 have xl:(a.extract (u+k) (u+m)).toList=(a.toList.drop (u+k)).take (m-k):=by rw[pk];congr 1;lia
 have yl:(a.extract (u+m) (u+m+t)).toList=(a.toList.drop (u+m)).take t:=by rw[pk];congr 1;lia
 have hx:AllOk Ok (a.extract (u+k) (u+m)):=λz hz=>ho z (by rw[xl] at hz;exact cJ (cI hz))
 have hy:AllOk Ok (a.extract (u+m) (u+m+t)):=λz hz=>ho z (by rw[yl] at hz;exact cJ (cI hz))
 have sx:qO lt (a.extract (u+k) (u+m)).toList:=by
  rw[xl]
  have:Srt lt a (u+k) (u+m):=λi j h1 h2 h3=>s1 i j ⋯ h2 h3
  have:=(wM C.refl ⋯).mp this
  rwa [show u+m-(u+k)=m-k by lia] at this
 have sy:qO lt (a.extract (u+m) (u+m+t)).toList:=by
  rw[yl]
  have:Srt lt a (u+m) (u+m+t):=λi j h1 h2 h3=>s2 i j h1 h2 ⋯
  have:=(wM C.refl ⋯).mp this
  rwa [show u+m+t-(u+m)=t by lia] at this
 have hf:lt (gA (a.extract (u+k) (u+m)) 0) (gA (a.extract (u+m) (u+m+t)) 0)=false:=by
  rw[xg ⋯ ⋯,xg ⋯ ⋯]
  exact C.asym _ _ (kr k (kT _) ⋯)
 have hl:∀ j,j<(a.extract (u+m) (u+m+t)).size->lt (gA (a.extract (u+k) (u+m)) ((a.extract (u+k) (u+m)).size-1)) (gA (a.extract (u+m) (u+m+t)) j)=false:=by
  intro j hj
  rw[ys] at hj
  rw[xs,xg ⋯ ⋯,xg ⋯ ⋯,show u+k+(m-k-1)=u+m-1 by lia]
  exact C.asym _ _ (kl2 j hj)
 have last:∀ r g',Mrg lt (a.extract (u+k) (u+m)).toList (a.extract (u+m) (u+m+t)).toList r.toList->Q true (ox kd (back r (u+k) a) p' g'):=by
  intro r g' hr
  rw[xl,yl] at hr
  have rs:r.size=m-k+t:=by
   have:=hr.1.length_eq
   simp at this;lia
  have bl:=Ci (r:=r) (a:=a) (s:=u+k) ⋯
  have pm:(back r (u+k) a).Perm a:=by
   rw[aJ,bl,rs]
   have:a.toList=a.toList.take (u+k)++((a.toList.drop (u+k)).take (m-k)++(a.toList.drop (u+m)).take t)++a.toList.drop (u+k+(m-k+t)):=by
    have e1:(a.toList.drop (u+k)).take (m-k)++(a.toList.drop (u+m)).take t=(a.toList.drop (u+k)).take (m-k+t):=by
     rw[jN,jl,show u+k+(m-k)=u+m by lia]
    rw[e1,<- jN,cb]
   conv=>rhs;rw[this]
   exact (hr.1.append_left _).append_right _
  have bsz:(back r (u+k) a).size=a.size:=pm.size_eq
  have hlen:(a.toList.take (u+k)).length=u+k:=by simp;lia
  -- an item behind,by Z7 place
  have out1:∀ i,i<u+k->gA (back r (u+k) a) i=gA a i:=λi hi=>by
   rw[nI (show i<(back r (u+k) a).toList.length by simp;lia),nI (show i<a.toList.length by simp;lia)]
   simp only[bl]
   rw[aZ (by simp;lia),aZ (by simp;lia),fv]
  have out2:∀ i,u+m+t<=i->gA (back r (u+k) a) i=gA a i:=λi hi=>by
   by_cases hs:i<a.size
   ·rw[nI (show i<(back r (u+k) a).toList.length by simp;lia),nI (show i<a.toList.length by simp;lia)]
    simp only[bl]
    rw[aM (by simp;lia),fw]
    congr 1
    simp
    lia
   ·apply p7
    rw[bU ⋯,bU ⋯]
  have inr:∀ i,(h1:u+k<=i)->(h2:i<u+m+t)->gA (back r (u+k) a) i=r.toList[i-(u+k)]'(by simp;lia):=λi h1 h2=>by
   rw[nI (show i<(back r (u+k) a).toList.length by simp;lia)]
   simp only[bl]
   rw[aZ (by simp;lia),aM (by simp;lia)]
   congr 1
   simp;lia
  have inn:∀ i,u+k<=i->i<u+m+t->gA (back r (u+k) a) i∈r.toList:=λi h1 h2=>by
   rw[nI (show i<(back r (u+k) a).toList.length by simp;lia)]
   simp only[bl]
   rw[aZ (by simp;lia),aM (by simp;lia)]
   exact gu _
  have mem:∀ z∈r.toList,(∃ i,u+k<=i/\i<u+m/\z=gA a i) ∨ ∃ i,u+m<=i/\i<u+m+t/\z=gA a i:=λz hz=>by
   rcases iq.mp (hr.1.mem_iff.mp hz) with hz|hz
   ·let(i,hi,i1,i2,e):=qD hz
    exact .inl ⟨i,i1,by lia,by rw[nI hi,e]⟩
   ·let(i,hi,i1,i2,e):=qD hz
    exact .inr ⟨i,i1,by lia,by rw[nI hi,e]⟩
  refine q _ g' ⟨pm,λi hi=>?_⟩ λi j h1 h2 h3=>?_
  ·rcases hi with hi|hi
   ·exact out1 i ⋯
   ·exact out2 i ⋯
  ·by_cases hi1:i<u+k
   ·rw[out1 i hi1]
    have low:=kl (i-u) ⋯
    rw[show u+(i-u)=i by lia] at low
    by_cases hj1:j<u+k
    ·rw[out1 j hj1];exact s1 i j h1 h2 ⋯
    ·by_cases hj2:j<u+m+t
     ·rcases mem _ (inn j ⋯ hj2) with⟨j',a1,a2,e⟩|⟨j',a1,a2,e⟩
      ·rw[e];exact s1 i j' h1 ⋯ ⋯
      ·rw[e];exact C.trans _ _ _ low (s2 _ _ (kT _) a1 ⋯)
     ·rw[out2 j ⋯]
      exact C.trans _ _ _ low (s2 _ _ (kT _) ⋯ h3)
   ·by_cases hj2:j<u+m+t
    ·by_cases e:i=j
     ·subst e;exact C.refl _
     ·have ha:=aL.mp hr.2
      have:=ha (i-(u+k)) (j-(u+k)) (by simp;lia) (by simp;lia) ⋯
      rw[inr i ⋯ ⋯,inr j ⋯ hj2]
      exact this
    ·rw[out2 j ⋯]
     by_cases hi2:i<u+m+t
     ·have up:=kr2 (j-(u+m)) ⋯ ⋯
      rw[show u+m+(j-(u+m))=j by lia] at up
      rcases mem _ (inn i ⋯ hi2) with⟨i',a1,a2,e⟩|⟨i',a1,a2,e⟩
      ·rw[e];exact C.trans _ _ _ (s1 i' (u+m-1) ⋯ ⋯ ⋯) up
      ·rw[e];exact s2 i' j a1 ⋯ h3
     ·rw[out2 i ⋯]
      exact s2 i j ⋯ h2 h3
 by_cases hmn:m-k<=t
 ·rw[if_pos hmn]
  refine lV (Io C hx hy ⋯ ⋯ sx sy hf hl λr g' hr=>?_)
  refine lV (k7 (lV (ml (lS ?_))))
  exact last r g' hr
 ·rw[if_neg hmn]
  refine lV (Iq C hx hy ⋯ ⋯ sx sy hf hl λr g' hr=>?_)
  refine lV (k7 (lV (ml (lS ?_))))
  exact last r g' hr
end
def Cov (lt:mR->mR->Bool)(a:Array mR):List (Nat×Nat×Nat)->Nat->Nat->Prop
 | [],s,e=>s=e
 | (u,n,_) :: r,s,e=>u=s/\1<=n/\Srt lt a s (s+n)/\Cov lt a r (s+n) e
section
variable {lt:mR->mR->Bool}{a b:Array mR}
theorem Cov.le:∀ {l:List (Nat×Nat×Nat)}{s e:Nat},Cov lt a l s e->s+l.length<=e
 | [],s,e,h=>by cases (show s=e from h);simp
 | (u,n,_) :: r,s,e,q1=>by let(_,h2,_,h4):=q1;have:=h4.le;simp;lia
theorem Cov.out:∀ {l:List (Nat×Nat×Nat)}{s e lo hi:Nat},Cov lt a l s e->Out a b lo hi->e<=lo ∨ hi<=s->Cov lt b l s e
 | [],s,e,lo,hi,h,o,d=>h
 | (u,n,_) :: r,s,e,lo,hi,q1,o,d=>by let(h1,h2,h3,h4):=q1;exact⟨h1,h2,h3.out o (by have:=h4.le;lia),h4.out o ⋯⟩
theorem Cov.snoc:∀ {l:List (Nat×Nat×Nat)}{s e n f:Nat},Cov lt a l s e->1<=n->Srt lt a e (e+n)->Cov lt a (l++[(e,n,f)]) s (e+n)
 | [],s,e,n,f,h,h1,h2=>by cases (show s=e from h);exact⟨rfl,h1,h2,rfl⟩
 | (u,m,_) :: r,s,e,n,f,q1,h1,h2=>by let(g1,g2,g3,g4):=q1;exact⟨g1,g2,g3,g4.snoc h1 h2⟩
theorem Cov.join : ∀ {l : List (Nat × Nat × Nat)} {i s e : Nat}, Cov lt a l s e -> i + 1 < l.length -> ∃ u m f n f', l[i]? = some (u, m, f) /\ l[i + 1]? = some (u + m, n, f') /\ 1 <= m /\ 1 <= n /\ s <= u /\ u + m + n <= e /\ Srt lt a u (u + m) /\ Srt lt a (u + m) (u + m + n) /\
      ∀ b,Out a b u (u+m+n)->Srt lt b u (u+m+n)->Cov lt b ((l.set i (u,m+n,f)).eraseIdx (i+1)) s e
  | [],i,s,e,h,hi=>by simp at hi
  | [_],i,s,e,h,hi=>by simp at hi
  | (u,m,f) :: (v,n,f') :: r,0,s,e,q1,hi=>by
    let(g1,g2,g3,g4,g5,g6,g7):=q1
    subst g1;subst g4
    refine⟨u,m,f,n,f',rfl,rfl,g2,g5,kT _,by have:=g7.le;lia,g3,g6,λb o hs=>?_⟩
    refine⟨rfl,by lia,by rw[<- jL];exact hs,?_⟩
    rw[<- jL]
    exact g7.out o (.inr (kT _))
  | (u,m,f) :: q :: r,i+1,s,e,q2,hi=>by
    let(g1,g2,g3,g4):=q2
    let(u',m',f1,n',f2,e1,e2,h1,h2,h3,h4,h5,h6,h7):=Cov.join (i:=i) g4 (by simpa using hi)
    refine⟨u',m',f1,n',f2,by simpa using e1,by simpa using e2,h1,h2,by lia,h4,h5,h6,λb o hs=>?_⟩
    have:=h7 b o hs
    rw[dQ,bv]
    exact⟨g1,g2,g3.out o (.inl h3),this⟩
theorem Cov.pow:∀ {l:List (Nat×Nat×Nat)}{i s e:Nat}(f:Nat×Nat×Nat->Nat×Nat×Nat),(∀ x,(f x).1=x.1/\(f x).2.1=x.2.1)->Cov lt a l s e->Cov lt a (l.modify i f) s e
 | [],i,s,e,f,hf,h=>by simpa using h
 | (u,n,w) :: r,0,s,e,f,hf,q1=>by
  let(h1,h2,h3,h4):=q1
  let(e1,e2):=hf (u,n,w)
  rw[List.modify_zero_cons]
  rcases e0:f (u,n,w) with⟨u',n',w'⟩
  rw[e0] at e1 e2
  dsimp only at e1 e2
  subst e1;subst e2
  exact⟨h1,h2,h3,h4⟩
 | q :: r,i+1,s,e,f,hf,h=>by
  let(u,n,w):=q
  rw[List.modify_succ_cons]
  exact⟨h.1,h.2.1,h.2.2.1,h.2.2.2.pow f hf⟩
end
section
variable {prog:mm}{w:mL}{A:mK}{E:mM->mD->Prop}{s:mD}{kd:lY}{Ok:mR->Prop}{lt:mR->mR->Bool}
theorem x8 (C:Cmp prog w A E s kd Ok lt){a:Array mR}{p:Array (Nat×Nat×Nat)}{g i e:Nat}{Q:Bool->mC->Prop}(ho:AllOk Ok a)(hc:Cov lt a p.toList 0 e)(hh:e<=a.size)(hi:i+1<p.size)
  (q:∀ b p' g',Out a b 0 e->Cov lt b p'.toList 0 e->p'.size+1=p.size->Q true (ox kd b p' g')):wpS (model prog w) A E s (mergeAt' i) Q (ox kd a p g):=by
 let(u,m,f,n,f',e1,e2,h1,h2,h3,h4,h5,h6,h7):=hc.join (i:=i) (by simpa using hi)
 rw[cB] at e1 e2
 refine Iu C ho e1 e2 h1 h2 ⋯ h5 h6 λb g' o hs=>?_
 have hl:((p.setIfInBounds i (u,m+n,f)).eraseIdxIfInBounds (i+1)).toList=(p.toList.set i (u,m+n,f)).eraseIdx (i+1):=by
  simp
 refine q b _ g' (o.wide ⋯ h4) (by rw[hl];exact h7 b o hs) ?_
 rw[<- dw,hl,aA (by simpa using hi),iw,dw]
 lia
theorem EU (C:Cmp prog w A E s kd Ok lt){a:Array mR}{g:Nat}{Q:Unit->mC->Prop}(ho:AllOk Ok a)(h2:2<=a.size)
  (q:∀ b p g',b.Perm a->Srt lt b 0 a.size->Q () (ox kd b p g')):wpS (model prog w) A E s sortRuns' Q (ox kd a #[] g):=by
 rw[sortRuns'_eq]
 refine lV (ml ?_)
 dsimp only
 rw[show arrOf (ox kd a #[] g)=a from rfl]
 generalize minRun' a.size a.size 0=mr
 refine lV (lT (j6 (I:=λn c st'=>∃ b p g' lo,st'=ox kd b p g'/\c=(none,lo)/\b.Perm a/\Cov lt b p.toList 0 lo/\lo<=a.size/\(lo=a.size ∨ n<=lo))
  (Q:=λc st'=>∃ b p g',st'=ox kd b p g'/\c=(none,a.size)/\b.Perm a/\Cov lt b p.toList 0 a.size) ?_ ?_ ⟨a,#[],g,0,rfl,rfl,iM _,rfl,by lia,by lia⟩) ?_)
 ·rintro x c st'-hx ⟨b,p,g',lo,rfl,rfl,hp,hc,hlo,hor⟩
  dsimp only
  by_cases hge:lo ≥ a.size
  ·rw[if_pos hge]
   have:lo=a.size:=by lia
   subst this
   exact lS ⟨b,p,g',rfl,rfl,hp,hc⟩
  rw[if_neg hge]
  have hbz:=hp.size_eq
  have hob:=ho.perm hp
  refine lV (HB C hob ⋯ ⋯ λm b1 m1 m2 o1 s1=>?_)
  dsimp only
  have hp1:=o1.1.trans hp
  have hc1:=hc.out o1 (.inl (kT _))
  have hob1:=ho.perm hp1
  have hb1:=hp1.size_eq
  by_cases hmr:m<mr
  rw[if_pos hmr]
  refine lV (lU (k8 ⟨rfl,?_⟩))
  refine lV (IC C (n:=min (a.size-lo) mr) hob1 m1 ⋯ ⋯ s1 λb2 o2 s2=>?_)
  simp -iota only[jZ,eD,if_false]
  have hp2:=o2.1.trans hp1
  have hc2:=hc1.out o2 (.inl (kT _))
  have hn1:1<=min (a.size-lo) mr:=by lia
  have hn2:lo+min (a.size-lo) mr<=a.size:=by lia
  generalize min (a.size-lo) mr=n at s2 hn1 hn2 ⊢
  clear s1 o1 o2 hp1 hc1 hob1 hb1 hob hbz hc hp
  rotate_left
  rw[if_neg hmr]
  have hp2:=hp1
  have hc2:=hc1
  have s2:=s1
  have hn1:=m1
  have hn2:lo+m<=a.size:=by lia
  clear s1 o1 hp1 hc1 hob1 hb1 hob hbz hc hp m2
  generalize b1=b2 at hp2 hc2 s2 ⊢
  generalize m=n at s2 hn1 hn2 ⊢
  all_goals
   have fin:∀ (b3:Array mR)(p3:Array (Nat×Nat×Nat)) (g3:Nat),b3.Perm a->Cov lt b3 p3.toList 0 lo->Srt lt b3 lo (lo+n)->∃ (b:Array mR)(p:Array (Nat×Nat×Nat)) (g' lo':Nat),ox kd b3 (p3.push (lo,n,0)) g3=ox kd b p g'/\((none,lo+n):Option Unit×Nat)=(none,lo')/\b.Perm a/\Cov lt b p.toList 0 lo'/\lo'<=a.size/\(lo'=a.size ∨ x+1<=lo'):=by
    intro b3 p3 g3 i1 i2 i3
    refine⟨b3,_,g3,lo+n,rfl,rfl,i1,?_,hn2,by lia⟩
    rw[fK]
    exact i2.snoc hn1 i3
   refine lV (ml ?_)
   rw[show pendingOf (ox kd b2 p g')=p from rfl]
   rcases hbk:p.back? with _|⟨s1,n1,w1⟩
   ·exact lV (k7 (lS (fin b2 p g' hp2 hc2 s2)))
   ·dsimp only
    generalize power' a.size (2*s1+n1) (2*s1+n1+n1+n) a.size=pw
    refine lV (lT (j6 (I:=λ_ c st'=>∃ b p g',st'=ox kd b p g'/\c=(none,())/\b.Perm a/\Cov lt b p.toList 0 lo/\Srt lt b lo (lo+n))
     (Q:=λc st'=>∃ b p g',st'=ox kd b p g'/\c=(none,())/\b.Perm a/\Cov lt b p.toList 0 lo/\Srt lt b lo (lo+n)) ?_ (λ_ _ h=>h) ⟨b2,p,g',rfl,rfl,hp2,hc2,s2⟩) ?_)
    ·rintro x' c st'-hx' ⟨b3,p3,g3,rfl,rfl,i1,i2,i3⟩
     refine lV (ml ?_)
     rw[show pendingOf (ox kd b3 p3 g3)=p3 from rfl]
     have hb3:=i1.size_eq
     by_cases hz:p3.size > 1
     ·rw[if_pos hz]
      rcases hq:p3[p3.size-2]? with _|⟨t1,t2,t3⟩
      ·exact lS ⟨b3,p3,g3,rfl,rfl,i1,i2,i3⟩
      ·dsimp only
       by_cases ht:t3<=pw
       ·rw [if_pos ht]; exact lS ⟨b3,p3,g3,rfl,rfl,i1,i2,i3⟩
       ·rw [if_neg ht]
        refine lV (x8 C (ho.perm i1) i2 ⋯ ⋯ fun b4 p4 g4 o4 c4 _=>?_)
        simp -iota only [jZ,eD,if_false]
        exact lS ⟨b4,p4,g4,rfl,rfl,o4.1.trans i1,c4,i3.out o4 (.inr (kT _))⟩
     ·rw[if_neg hz]
      exact lS ⟨b3,p3,g3,rfl,rfl,i1,i2,i3⟩
    ·rintro c st' ⟨b3,p3,g3,rfl,rfl,i1,i2,i3⟩
     dsimp only
     refine lV (k7 (lV (k7 (lS (fin b3 _ g3 i1 ?_ i3)))))
     show Cov lt b3 (p3.modify (p3.size-1) _).toList 0 lo
     rw[Array.toList_modify]
     exact i2.pow _ λz=>⟨rfl,rfl⟩
 ·rintro c st' ⟨b,p,g',lo,rfl,rfl,hp,hc,hlo,hor⟩
  have:lo=a.size:=by lia
  subst this
  exact⟨b,p,g',rfl,rfl,hp,hc⟩
 ·rintro c st' ⟨b,p,g',rfl,rfl,hp,hc⟩
  dsimp only
  have hbz:=hp.size_eq
  refine lV (lT (j6 (I:=λn c st'=>∃ b p g',st'=ox kd b p g'/\c=(none,())/\b.Perm a/\Cov lt b p.toList 0 a.size/\p.size<=max 1 (a.size-n))
   (Q:=λc st'=>∃ b p g',st'=ox kd b p g'/\c=(none,())/\b.Perm a/\Cov lt b p.toList 0 a.size/\p.size<=1) ?_ ?_ ⟨b,p,g',rfl,rfl,hp,hc,by have:=hc.le;simp at this;lia⟩) ?_)
  ·rintro x c st'-hx ⟨b,p,g',rfl,rfl,hp,hc,hz⟩
   refine lV (ml ?_)
   rw[show pendingOf (ox kd b p g')=p from rfl]
   have hbz:=hp.size_eq
   by_cases h1:p.size<=1
   ·rw[if_pos h1]
    exact lS ⟨b,p,g',rfl,rfl,hp,hc,h1⟩
   rw[if_neg h1]
   generalize hi0:(if ((if p.size-2 > 0 then lF (λx=>x.2.1) p[p.size-2-1]? else none).any λx=>decide (x<p[p.size-2+1]?.elim 0 λx=>x.2.1))=true then p.size-2-1 else p.size-2)=i0
   have two:∀ c:Bool,(if c=true then p.size-2-1 else p.size-2)+1<p.size:=by
    intro c
    cases c
    ·rw[if_neg eB];lia
    ·rw[if_pos rfl];lia
   have hi:i0+1<p.size:=by rw[<- hi0];exact two _
   refine lV (x8 C (ho.perm hp) hc ⋯ hi λb4 p4 g4 o4 c4 hz4=>?_)
   simp -iota only[jZ,eD,if_false]
   exact lS ⟨b4,p4,g4,rfl,rfl,o4.1.trans hp,c4,by lia⟩
  ·rintro c st' ⟨b,p,g',rfl,rfl,hp,hc,hz⟩
   exact⟨b,p,g',rfl,rfl,hp,hc,by lia⟩
  ·rintro c st' ⟨b,p,g',rfl,rfl,hp,hc,hz⟩
   refine lS (q b p g' hp ?_)
   rcases hl:p.toList with _|⟨⟨u,n,w⟩,_|⟨y,r⟩⟩
   ·rw[hl] at hc
    have:(0:Nat)=a.size:=hc
    lia
   ·rw[hl] at hc
    let(h1,h2,h3,h4):=hc
    have:0+n=a.size:=h4
    rwa [this] at h3
   ·have:=congrArg kW hl
    simp at this;lia
end
theorem tY:∀ a:List Int,lexLt a a=false
 | []=>rfl
 | x :: r=>by rw[lexLt,if_pos rfl,tY r]
theorem ym:∀ a b:List Int,lexLt a b=true->lexLt b a=false
 | [],[],h=>by cases h
 | [],_ :: _,_=>rfl
 | _ :: _,[],h=>by cases h
 | x :: r,y :: q,h=>by
  rw[lexLt] at h ⊢
  by_cases e:x=y
  ·rw[if_pos e] at h;rw[if_pos e.symm];exact ym r q h
  ·rw[if_neg e] at h;rw[if_neg (mq e)]
   simp -iota only[decide_eq_true_eq,decide_eq_false_iff_not] at h ⊢;lia
theorem vU:∀ a b c:List Int,lexLt b a=false->lexLt c b=false->lexLt c a=false
 | [],b,c,h1,h2=>by cases c<;>rfl
 | x :: r,[],c,h1,h2=>by cases h1
 | x :: r,y :: q,[],h1,h2=>by cases h2
 | x :: r,y :: q,z :: t,h1,h2=>by
  rw[lexLt] at h1 h2 ⊢
  by_cases e1:y=x
  ·rw[if_pos e1] at h1
   by_cases e2:z=y
   ·rw[if_pos e2] at h2;rw[if_pos (e2.trans e1)];exact vU r q t h1 h2
   ·rw[if_neg e2] at h2;rw[if_neg (by rw[<- e1];exact e2),<- e1];exact h2
  ·rw[if_neg e1] at h1
   by_cases e2:z=y
   ·rw[if_pos e2] at h2;rw[if_neg (by rw[e2];exact e1),e2];exact h1
   ·rw[if_neg e2] at h2
    simp -iota only[decide_eq_false_iff_not] at h1 h2
    rw[if_neg ⋯]
    simp -iota only[decide_eq_false_iff_not];lia
def Et (m:Nat):Prop:=∀ (prog:mm)(w:mL)(A:mK)(E:mM->mD->Prop)(s:mD)(kd:lY)(Ok:mR->Prop)(lt:mR->mR->Bool),Cmp prog w A E s kd Ok lt->∀ (a:Array mR) (g:Nat)(Q:Unit->mC->Prop),AllOk Ok a->2<=a.size->a.size<=m ->
 (∀ b p g',b.Perm a->Srt lt b 0 a.size->Q () (ox kd b p g'))->wpS (model prog w) A E s sortRuns' Q (ox kd a #[] g)
theorem EV:Et 100000:=λ_ _ _ _ _ _ _ _ C _ _ _ ho h2 _ q=>EU C ho h2 q
section
variable {prog:mm}{w:mL}{A:mK}{E:mM->mD->Prop}{s:mD}{vs:List mM}{kd:lY}{kf:mM->List Int}
theorem Jy (hc:∀ x∈vs,∀ y∈vs,∀ Q:Bool->mD->Prop,∀ E':mM->mD->Prop,Q (lexLt (kf x) (kf y)) s->wpAny (model prog w) A (keyLt' kd x y) Q E' s):Cmp prog w A E s kd (λp=>p.1∈vs) (λp q=>lexLt (kf p.1) (kf q.1)) where
 run:=λx y hx hy st Q hk q=>by
  rw[lt'_eq]
  refine lV (ml ?_)
  rw[hk]
  refine lV (lU (jw (hc _ hx _ hy _ _ ⟨rfl,?_⟩)))
  exact lS q
 refl:=λx=>tY _
 trans:=λx y z h1 h2=>vU _ _ _ h1 h2
 asym:=λx y h=>ym _ _ h
theorem Lx {m:Nat}(RT:Et m)(hm:m<=100000){a:m4}{n:Nat}{P:PySem.Fin->mD->Prop}(ho:s.heap.get? a=some (seqObj "list" vs.toArray n))(hb:vs.length<=m)
  (hk:2<=vs.length->∀ h3:mY,(∀ b o,b≠a->s.heap.get? b=some o->h3.get? b=some o)->∀ Q:lY->mD->Prop,Q kd { s with heap:=h3 }->wpAny (model prog w) A (keyKind' vs.toArray) Q E { s with heap:=h3 })
  (hc:∀ h3:mY,(∀ b o,b≠a->s.heap.get? b=some o->h3.get? b=some o)->∀ x∈vs,∀ y∈vs,∀ Q:Bool->mD->Prop,∀ E':mM->mD->Prop,Q (lexLt (kf x) (kf y)) { s with heap:=h3 }->wpAny (model prog w) A (keyLt' kd x y) Q E' { s with heap:=h3 })
  (K:∀ (vs':List mM)(h':mY) (c tk:Nat),vs'.Perm vs->(vs'.Pairwise λx y=>lexLt (kf y) (kf x)=false)->h'.get? a=some (seqObj "list" vs'.toArray c)->(∀ b o,b≠a->s.heap.get? b=some o->h'.get? b=some o)->P (.done (.ret .none)) { s with heap:=h',toks:=tk }) :
  wpAny (model prog w) A (my.«list.sort» ⟨[.ref a],[]⟩) P E s:=by
 obtain⟨e1,ho1⟩:∃ e1,(s.heap.update a (lH λ_=>(#[]:Array mM))).get? a=some (seqObj "list" #[] e1):=⟨_,gQ ho λ_=>#[]⟩
 have kp:∀ b o,b≠a->s.heap.get? b=some o->(((s.heap.update a (lH λ_=>(#[]:Array mM))).push (seqObj "tuple" vs.toArray 0)).push (seqObj "list" #[] 0)).get? b=some o:=λb o hb e =>
  bR _ (bR _ ((bQ _ _ (mq hb)).trans e))
 have ho2:(((s.heap.update a (lH λ_=>(#[]:Array mM))).push (seqObj "tuple" vs.toArray 0)).push (seqObj "list" #[] 0)).get? a=some (seqObj "list" #[] e1):=bR _ (bR _ ho1)
 rw[list_sort_plain]
 refine lj (listItems_at ho rfl ?_)
 refine lj (jB ho rfl ?_ (by rw[fk,kN];lia) (kR _))
 refine lj (seqEpoch_at ho1 rfl ?_)
 refine lj (iR ?_ (by show vs.length<=_;rw[kN];lia))
 refine lj (jt ?_ (kR _))
 refine ju ?_
 show wpAny (model prog w) A _ P E { s with heap:=((s.heap.update a (lH λ_=>(#[]:Array mM))).push (seqObj "tuple" vs.toArray 0)).push (seqObj "list" #[] 0) }
 dsimp only
 generalize ((s.heap.update a (lH λ_=>(#[]:Array mM))).push (seqObj "tuple" vs.toArray 0)).push (seqObj "list" #[] 0)=h3 at kp ho2
 -- what comes behind the sorting
 have fin:∀ b:Array mR,b.Perm (pairsOf vs)->Srt (λp q=>lexLt (kf p.1) (kf q.1)) b 0 b.size->∀ st:mC,arrOf st=b->failedOf st=none->wpAny (model prog w) A (do
   let touched:=(<- seqEpoch a) != e1
   Builtin.List.listUpdate (.ref a) λ_=>(arrOf st).map (·.2)
   if let some e:=failedOf st then rule "list.sort.comparison-raised";throw e
   if touched then rule "list.sort.modified";raiseError "ValueError" "list modified during sort"
   ret .none) P E { s with heap:=h3 }:=by
  intro b hp hs st hst hf
  have hpl:b.toList.Perm (vs.zip vs):=by rw[<- iW];exact aJ.mp hp
  have hself:∀ p∈b.toList,p.1=p.2/\p.1∈vs:=λp hp=>mem_zip_self (hpl.mem_iff.mp hp)
  have hperm:((b.map (·.2)).toList).Perm vs:=by
   rw[gH]
   have:=hpl.map (·.2)
   rwa [show (vs.zip vs).map (·.2)=vs by rw[List.map_snd_zip (kT _)]] at this
  have hord:(b.map (·.2)).toList.Pairwise λx y=>lexLt (kf y) (kf x)=false:=by
   rw[gH,fo]
   have h1:=(wM (lt:=λp q=>lexLt (kf p.1) (kf q.1)) (λu=>tY _) (kT _)).mp hs
   rw[jk,bN (by simp)] at h1
   refine List.Pairwise.imp_of_mem (λ{x y} hx hy h=>?_) h1
   rw[<- (hself x hx).1,<- (hself y hy).1];exact h
  have hsz:(b.map (·.2)).size=vs.length:=by rw[<- dw];exact hperm.length_eq
  obtain⟨c2,hc2⟩:∃ c2,(h3.update a (lH λ_=>b.map (·.2))).get? a=some (seqObj "list" (b.map (·.2)) c2):=⟨_,gQ ho2 λ_=>b.map (·.2)⟩
  refine lj (seqEpoch_at ho2 rfl ?_)
  rw[hst]
  refine lj (jB ho2 rfl ?_ (kR _) (kA (kC hsz) (by rw[kN];lia)))
  rw[hf]
  simp -iota only[bne_self_eq_false,eD,if_false]
  exact k9 (K (b.map (·.2)).toList _ c2 _ hperm hord (by rw[cW];exact hc2) λb' o hb' e=>(bQ _ _ (mq hb')).trans (kp b' o hb' e))
 by_cases h2:vs.toArray.size<2
 ·rw[if_pos h2,if_pos h2]
  refine lj (k9 ?_)
  rw[StateT.run_pure]
  refine lj (k9 ?_)
  refine fin (pairsOf vs) (iM _) (λi j i1 i2 i3=>?_) _ rfl rfl
  rw[ka] at i3
  have:vs.length<2:=by simpa using h2
  have:i=j:=by lia
  subst this;exact tY _
 ·rw[if_neg h2,if_neg h2]
  have h2':2<=vs.length:=by simpa using h2
  refine lj (hk h2' h3 kp _ ?_)
  refine lj (lg (RT _ _ _ E _ _ _ _ (Jy (E:=E) (hc h3 kp)) (pairsOf vs) 7 (λ_ st'=>∃ b,b.Perm (pairsOf vs)/\Srt (λp q=>lexLt (kf p.1) (kf q.1)) b 0 (pairsOf vs).size/\arrOf st'=b/\failedOf st'=none)
   (λp hp=>by rw[iW] at hp;exact (mem_zip_self hp).2) (by rw[ka];exact h2') (by rw[ka];exact hb) λb p g' q1 q2=>⟨b,q1,q2,rfl,rfl⟩) ?_ λ_ _ e=>e)
  rintro⟨⟨⟩,st'⟩ s' ⟨rfl,b,q1,q2,q3,q4⟩
  rw[<- q1.size_eq] at q2
  exact fin b q1 q2 st' q3 q4
end
theorem BP {P:mm}{w:mL}{H:Hp}{h:mY}{a:m4}{o:HO}(x:ObjOk P w H h a o):∃ u,h.get? a=some u:=by
 cases o with
 | lst xs=>exact let ⟨_,_,_,_,e⟩:=x;⟨_,e⟩
 | tup xs=>exact let ⟨_,_,_,o,e,_⟩:=x;⟨o,e⟩
 | dK Z6=>exact let ⟨_,_,_,_,o,_,_,e,_⟩:=x;⟨o,e⟩
 | dT Z6=>exact let ⟨_,_,_,_,o,_,_,e,_⟩:=x;⟨o,e⟩
 | set S n=>exact let ⟨o,_,_,_,e,_⟩:=x;⟨o,e⟩
 | ins C dx fs=>exact let ⟨_,_,_,e,_⟩:=x;⟨_,e⟩
 | big C dx fs gs=>exact let ⟨_,_,_,_,e,_⟩:=x;⟨_,e⟩
 | own y=>exact x
 | xd fs=>exact let ⟨_,⟨o,_,_,e,_⟩,_⟩:=x;⟨o,e⟩
 | rng lo hi=>exact let ⟨_,_,_,e⟩:=x;⟨_,e⟩
 | frz ob u=>exact⟨ob,x.1⟩
 | tbl ps=>exact⟨_,x⟩
 | met f y=>exact⟨_,x⟩
 | ext φ=>exact x.2.1
theorem DT {X:Cx}{Z9:List (m4×Obj)}{σ:L2.St}{H:Hp}{s:mD}{h':mY}{a:m4}{o:HO}{t':Nat}(I:Inv X Z9 σ H s)(k:∀ b u,s.heap.get? b=some u->h'.get? b=some u)(hp:∀ b u,s.heap.get? b=some u->b≠a)(new:ObjOk X.prog X.w (oj H a o) h' a o):Inv X Z9 σ (oj H a o) { s with heap:=h',toks:=t' }/\H a=none:=by
 have tr:∀ {b u},H b=some u->b≠a:=λ{b u} e=>let ⟨v,hv⟩:=BP (I.hok b u e);hp b v hv
 have ow:∀ b u,H b=some u->oj H a o b=some u:=λb u e=>by rw[nv (tr e)];exact e
 refine⟨I.un (t':=t') ⟨λb o' e _ _ _=>k b o' e,λb o' e _ _ _=>⟨o'.slots,k b o' e⟩,λb o' e n _=>by rw[nv (hp b o' e)];exact n,λb o' e _=>⟨o',k b o' e⟩,λb xs e=>ow b _ e,λb o' u e=>ow b _ e,λb ps e=>⟨#[],by rw[eF];exact ow b _ e⟩⟩ λb u e=>?_,?_⟩
 ·by_cases z:b=a
  ·subst z;rw[nD] at e;cases e;exact new
  ·rw[nv z] at e
   exact (I.hok b u e).stay (λc v _ q=>k c v q) (λc e=>ow c _ e) λc xs e=>ow c _ e
 ·cases q:H a with
  | none=>rfl
  | some u=>exact absurd rfl (tr q)
def vn (xs:Array Nat):Prop:=∀ i j (hi:i<xs.size)(hj:j<xs.size),i<j->xs[i]<xs[j]
def Hd (xs:Array Nat) (j r:Nat):Prop:=r<=xs.size/\(∀ k (h:k<xs.size),k<r->xs[k]<j)/\∀ k (h:k<xs.size),r<=k->j<=xs[k]
theorem vk {xs:Array Nat}{j:Nat}(rs:vn xs):∀ (f lo hi:Nat),hi<=xs.size->lo<=hi->hi-lo<=f->(∀ k (h:k<xs.size),k<lo->xs[k]<j)->(∀ k (h:k<xs.size),hi<=k->j<=xs[k])->Hd xs j (eW xs j f lo hi)
 | 0,lo,hi,h1,h2,h3,a,b=>by
  have e:lo=hi:=by lia
  subst e
  exact⟨h1,a,b⟩
 | f+1,lo,hi,h1,h2,h3,a,b=>by
  unfold eW
  by_cases h:lo<hi
  ·rw[if_pos h]
   have hm:(lo+hi) / 2<xs.size:=by lia
   dsimp only
   rw[av,aT hm,fV]
   by_cases q:xs[(lo+hi) / 2]<j
   ·rw[if_pos q]
    refine vk rs f _ _ h1 ⋯ ⋯ (λk hk hl=>?_) b
    by_cases e:k=(lo+hi) / 2
    ·subst e;exact q
    ·exact kw (rs k _ hk hm ⋯) q
   ·rw[if_neg q]
    refine vk rs f _ _ ⋯ ⋯ ⋯ a λk hk hl=>?_
    by_cases e:k=(lo+hi) / 2
    ·subst e;lia
    ·have:=rs _ k hm hk ⋯;lia
  ·rw[if_neg h]
   have e:lo=hi:=by lia
   subst e
   exact⟨h1,a,b⟩
theorem tL {xs:Array Nat}(rs:vn xs) (j:Nat):Hd xs j (i7 xs j):=by
 unfold i7
 exact vk rs _ _ _ (kT _) (kR _) ⋯ (λk _ h=>absurd h (ia _)) λk h1 h2=>absurd h1 ⋯
theorem vA {α:Type}(xs:Array α) (p:Nat)(x:α)(hp:p<=xs.size):(eV xs p x).toList=xs.toList.take p++x :: xs.toList.drop p:=by
 unfold eV
 simp
 exact bN (by simp)
theorem rise_list {xs:Array Nat}:vn xs↔xs.toList.Pairwise (· < ·):=by
 rw[aL]
 constructor
 ·intro h i j hi hj l
  simpa using h i j (by simpa using hi) (by simpa using hj) l
 ·intro h i j hi hj l
  have:=h i j (by simpa using hi) (by simpa using hj) l
  rwa [cX,cX] at this
theorem yt {xs:Array Nat}{j:Nat}(rs:vn xs)(ne:xs[i7 xs j]?≠some j):vn (eV xs (i7 xs j) j):=by
 let(h1,h2,h3):=tL rs j
 rw[rise_list,vA _ _ _ h1,cH]
 have rl:=rise_list.mp rs
 refine⟨rl.sublist (fj _ _),dS.mpr ⟨λy hy=>?_,rl.sublist (fA _ _)⟩,λx hx y hy=>?_⟩
 ·let(i,hi,e):=cL.mp hy
  simp at hi e
  have hb:i7 xs j+i<xs.size:=by lia
  have g:=h3 _ hb ⋯
  rw[e] at g
  rcases Nat.lt_or_ge j y with l|l
  ·exact l
  ·have e2:y=j:=by lia
   exfalso
   by_cases z:i=0
   ·subst z
    apply ne
    rw[aT ⋯]
    simp at e
    rw[e,e2]
   ·have hb0:i7 xs j<xs.size:=by lia
    have g0:=h3 _ hb0 (kT _)
    have g1:=rs _ _ hb0 hb ⋯
    rw[e] at g1;lia
 ·let(i,hi,e):=cL.mp hx
  simp at hi e
  have gx:=h2 i ⋯ ⋯
  rw[e] at gx
  rcases jP.mp hy with rfl|hy
  ·exact gx
  ·let(k,hk,e'):=cL.mp hy
   simp at hk e'
   have g:=h3 _ (show i7 xs j+k<xs.size by lia) ⋯
   rw[e'] at g;lia
def TabOk (t:lZ)(l:Bool):Prop:=t.led=l/\t.dummies = #[]/\(t.plain=true->vn t.place)
theorem TabOk.fresh (f m:Nat)(l:Bool):TabOk (.fresh f m l) l:=⟨rfl,rfl,λ_ i j hi=>absurd hi (ia _)⟩
theorem TabOk.stand {t:lZ}{l:Bool}(h:TabOk t l) (n:Nat):TabOk (t.standIn n) l:=⟨h.1,rfl,λz=>gF z⟩
theorem TabOk.orStand {t:lZ}{l:Bool}(h:TabOk t l) (n:Nat):TabOk (t.orStandIn n) l:=by
 unfold SetTable.orStandIn
 split
 ·exact h
 ·exact h.stand n
theorem has_none (j:Nat):kg #[] j=false:=by
 unfold kg
 rfl
theorem xT {t:lZ}(hd:t.dummies = #[]){f:Nat->Int}{h:Int}:∀ (n:Nat)(p:SetTable.Probe) (j:Nat) (d:Option Nat),p.dummy=none->eU t f h n p=some (.empty j d)->d=none/\t.slot j=.empty
 | 0,p,j,d,_,e=>by cases e
 | n+1,p,j,d,hp,e=>by
  unfold eU at e
  have ad:(t.advance p).dummy=none:=by
   unfold SetTable.advance
   split
   ·exact hp
   ·exact hp
  cases q:t.slot p.j with
  | empty=>rw[q] at e;cases e;exact⟨hp,q⟩
  | dummy =>
   exfalso
   unfold jG at q
   rw[hd,has_none] at q
   dsimp only at q
   by_cases z:(t.place[i7 t.place p.j]? == some p.j)=true
   ·rw[if_pos z] at q;exact nomatch q
   ·rw[if_neg z,if_neg (by simp)] at q;exact nomatch q
  | live i =>
   rw[q] at e
   dsimp only at e
   split at e
   ·cases e
   ·exact xT hd n _ j d ad e
theorem B3 {t:lZ}(hd:t.dummies = #[]){h:Int}{j:Nat}{b:Bool}(e:t.freeSlot h=some (j,b)):t.slot j=.empty:=by
 unfold SetTable.freeSlot SetTable.probe at e
 split at e
 ·rename_i j' d q
  let(rfl,q2):=xT hd _ _ _ _ rfl q
  cases e
  exact q2
 ·cases e
theorem TabOk.put {t:lZ}{l:Bool}(h:TabOk t l){j:Nat}(e:t.slot j=.empty):TabOk (t.put j).1 l:=by
 refine⟨h.1,?_,λp=>?_⟩
 ·show (if kg t.dummies j then _ else t.dummies) = #[]
  rw[h.2.1,has_none];rfl
 ·refine yt (h.2.2 p) λz=>?_
  unfold jG at e
  rw[if_pos (by rw[z];simp)] at e
  cases e
theorem TabOk.layNew {t:lZ}{l:Bool}(h:TabOk t l)(es:Array (Int×mM)) (k:Int)(x:mM):TabOk (layNew t es k x).2.1 l:=by
 unfold PySem.layNew
 cases q:t.freeSlot k with
 | none=>exact h.stand _
 | some jb=>exact (h.put (B3 h.2.1 q)).orStand _
theorem TabOk.relay {t:lZ}{l:Bool}(h:TabOk t l)(es:Array (Int×mM)) (n:Nat):TabOk (relayAll t es n).2.1 l:=by
 unfold relayAll
 cases q:t.relaid (es.map (·.1)) n with
 | none=>exact h.stand _
 | some p =>
  let(t',od):=p
  dsimp only
  split
  ·show TabOk t' l
   unfold SetTable.relaid SetTable.laid at q
   cases ow:SetTable.layClean (SetTable.sizeAbove n-1) (es.map (·.1)) with
   | none=>rw[ow] at q;cases q
   | some owner =>
    rw[ow] at q
    cases q
    refine⟨h.1,rfl,λ_=>?_⟩
    rw[rise_list]
    show (List.map Prod.fst (jj (λj=>(owner.getD j none).map (j,·)) (lK _))).Pairwise (· < ·)
    rw[fo,List.pairwise_filterMap]
    refine List.pairwise_lt_range.imp λ{a b} hab x hx y hy=>?_
    cases hoa:owner.getD a none with
    | none=>rw[hoa] at hx;cases hx
    | some va =>
     cases hob:owner.getD b none with
     | none=>rw[hob] at hy;cases hy
     | some vb =>
      rw[hoa] at hx;rw[hob] at hy
      cases hx;cases hy
      exact hab
  ·exact h.stand _
def NumEs (l:List (Int×mM)):Prop:=∀ e∈l,∃ k tk,e=(hashInt k,Value.int k tk)
theorem NumEs.elems {prog:mm}{w:mL}{l:List (Int×mM)}(h:NumEs l):ElemsOf (intKind prog w) l:=λe he=>by
 let(k,tk,rfl):=h e he
 exact⟨⟨k,lu _ _ _ _,rfl⟩,rfl⟩
theorem NumEs.perm {l l':List (Int×mM)}(h:NumEs l)(p:l'.Perm l):NumEs l':=λe he=>h e (p.mem_iff.mp he)
def tx (l:List (Int×mM)):List Int:=l.map λe=>numOf e.2
structure SetData (w:mL)(o:Obj)(ns:List Int)(es:Array (Int×mM)) (ep:Nat)(t:lZ):Prop where
 ex:o.ExactSet
 dat:o.data=.set es ep t
 num:NumEs es.toList
 perm:(tx es.toList).Perm ns
 small:ns.length<scanBound
 fits:t.fits es.size=true
 tab:TabOk t (!w.params.followText "set-order")
inductive SetN (w:mL)(h:mY)(a:m4)(ns:List Int):Prop
 | mk (_:ns.Nodup)(o:_)(es:_)(ep:_)(t:_)(_:h.get? a=some o)(_:SetData w o ns es ep t):SetN w h a ns
theorem SetData.size {w:mL}{o:Obj}{ns:List Int}{es:Array (Int×mM)}{ep:Nat}{t:lZ}(d:SetData w o ns es ep t):es.size=ns.length:=by
 have:=d.perm.length_eq
 rw[tx,iz,dw] at this
 exact this
section
variable {prog:mm}{w:mL}{A:mK}{E:mM->mD->Prop}{s:mD}{a:m4}
theorem SetData.put {o:Obj}{ns ms:List Int}{es es':Array (Int×mM)}{ep:Nat}{t t':lZ}{h:mY}(d:SetData w o ns es ep t)(ho:h.get? a=some o)(n':NumEs es'.toList)(p':(tx es'.toList).Perm ms)(s':ms.length<scanBound)(f':t'.fits es'.size=true)(t2:TabOk t' (!w.params.followText "set-order")) :
  ∃ o',(h.update a (lG es' t')).get? a=some o'/\SetData w o' ms es' (ep+1) t':=by
 refine⟨_,cx (lG es' t') ho (by rw[putSet_of es' t' d.dat];rfl),?_⟩
 rw[putSet_of es' t' d.dat]
 exact⟨d.ex,rfl,n',p',s',f',t2⟩
theorem AR (b:Bool){Q:Unit->mD->Prop}(q:Q () s):wpAny (model prog w) A (match b with|true=>rule "set.scan.the-table-gave-way" | false=>pure ()) Q E s:=by
 cases b
 ·exact k9 q
 ·exact k8 q
theorem add_num {k:Int}{tk:Nat}{ns:List Int}{Q:Bool->mD->Prop}(hS:SetN w s.heap a ns)(hr:ns.length+1<scanBound)
  (q:∀ h' b,kI a s.heap h'->SetN w h' a (if k∈ns then ns else ns++[k])->Q b { s with heap:=h' }) :
  wpAny (model prog w) A (setAddHashed a (.int k tk) (hashInt k)) Q E s:=by
 let(nd,o,es,ep,t,ho,d):=hS
 have hz:es.size<scanBound:=by rw[d.size];exact d.small
 have hk:(intKind prog w).is k (.int k tk)=true:=lu _ _ _ _
 unfold setAddHashed setAddHashedIn
 refine ju (lj (eK ho d.dat d.fits ?_))
 dsimp only
 rw[byScan_of (knd:=intKind prog w) rfl hz d.num.elems,if_pos rfl]
 unfold setAddByScan
 refine lj (lj (k8 (lj (wpAny_setScan_of (knd:=intKind prog w) hk ho d.dat d.fits d.num.elems ?_))))
 have mem:k∈ns↔∃ e∈es.toList,(intKind prog w).is k e.2=true:=by
  rw[<- d.perm.mem_iff,tx,kE]
  constructor
  ·rintro⟨e,he,ek⟩
   let(j,tj,rfl):=d.num e he
   cases (show j=k from ek)
   exact⟨_,he,lu _ _ _ _⟩
  ·rintro⟨e,he,ek⟩
   let(j,tj,rfl):=d.num e he
   refine⟨_,he,?_⟩
   exact (intKind prog w).inj (.int j tj) _ _ (lu _ _ _ _) ek
 cases fr:es.toList.findIdx? (λe=>(intKind prog w).is k e.2) with
 | some j =>
  let(hj,pj,_):=List.findIdx?_eq_some_iff_getElem.mp fr
  have hin:k∈ns:=mem.mpr ⟨_,gu hj,pj⟩
  refine k9 (k9 ?_)
  have:=q s.heap false (Heap.SameBut.refl a s.heap)
  rw[if_pos hin] at this
  exact this ⟨nd,o,es,ep,t,ho,d⟩
 | none =>
  have hni:k ∉ ns:=λz=>by
   let(e,he,pe):=mem.mp z
   have:=List.findIdx?_eq_none_iff.mp fr e he
   rw[pe] at this;cases this
  rw[if_neg hni] at q
  have nd':(ns++[k]).Nodup:=by
   rw[fq]
   exact⟨nd,by simp,λx hx y hy z=>hni (by rw[dU.mp hy] at z;rw[<- z];exact hx)⟩
  dsimp only
  have lp:=layNew_perm t es (hashInt k) (.int k tk)
  have lf:=layNew_fits t es (hashInt k) (.int k tk)
  have lt:=d.tab.layNew es (hashInt k) (.int k tk)
  generalize layNew t es (hashInt k) (.int k tk)=R at lp lf lt ⊢
  let(es1,t1,wd,gv):=R
  dsimp only at lp lf lt ⊢
  rw[fK] at lp
  have n1:NumEs es1.toList:=λe he=>by
   rcases iq.mp (lp.mem_iff.mp he) with he|he
   ·exact d.num e he
   ·exact⟨k,tk,dU.mp he⟩
  have p1:(tx es1.toList).Perm (ns++[k]):=by
   refine (lp.map _).trans ?_
   rw[ir]
   exact d.perm.append (.refl _)
  have s1:(ns++[k]).length<scanBound:=by rw[dY];exact hr
  have fin:∀ t2:lZ,t2.fits es1.size=true->TabOk t2 (!w.params.followText "set-order")->wpAny (model prog w) A (do
    storeSet a es1 t2
    if (!wd && t2.tooFull)=true then do
      (match (relayAll t2 es1 (i6 es1.size)).2.2 with|true=>rule "set.scan.the-table-gave-way" | false=>pure ())
      storeSet a (relayAll t2 es1 (i6 es1.size)).1 (relayAll t2 es1 (i6 es1.size)).2.1
      pure (some true)
     else pure (some true)) (λr s'=>wpAny (model prog w) A (match r with|some added=>pure added|none=>setAddHashedIn a (.int k tk) (hashInt k) 99999) Q E s') E s:=by
   intro t2 f2 g2
   have sz:es1.size<scanBound:=by
    have:=p1.length_eq
    rw[tx,iz,dw] at this
    rw[this];exact s1
   let(o1,ho1,d1):=d.put ho n1 p1 s1 f2 g2
   refine lj (eJ ho d.dat ?_ (eS sz))
   have b1:=dm s.heap a (lG es1 t2)
   split
   ·have rp:=relayAll_perm t2 es1 (i6 es1.size)
    have rf:=relayAll_fits t2 es1 (i6 es1.size)
    have rt:=g2.relay es1 (i6 es1.size)
    generalize relayAll t2 es1 (i6 es1.size)=R at rp rf rt ⊢
    let(es2,t3,gv2):=R
    dsimp only at rp rf rt ⊢
    let(o2,ho2,d2):=d1.put ho1 (n1.perm rp) ((rp.map _).trans p1) s1 rf rt
    refine lj (AR _ (lj (eJ ho1 d1.dat ?_ (eS (by rw[d2.size];exact s1)))))
    exact k9 (k9 (q _ true (b1.trans (dm _ a _)) ⟨nd',o2,es2,_,t3,ho2,d2⟩))
   ·exact k9 (k9 (q _ true b1 ⟨nd',o1,es1,_,t2,ho1,d1⟩))
  refine lj (AR _ ?_)
  split
  ·refine lj ?_
   rw[hashByValue_scannable 8 rfl]
   refine k9 ?_
   simp only[plainKind,if_true]
   exact fin t1 lf lt
  ·refine lj (k9 ?_)
   simp only[if_true]
   exact fin t1 lf lt
end
theorem sit_next:Slot "set_iterator" "__next__" "set_iterator.__next__":=.of (owner:="set_iterator") (n:="__next__") (by rw[gO,bW];kernel_rfl) (by decide +kernel) (by decide +kernel) (by decide +kernel) (by first|exact .inl (by decide +kernel)|exact .inr (by decide +kernel)) (by rw[iX];kernel_rfl)
theorem xP:Slot "set_iterator" "__iter__" "set_iterator.__iter__":=.of (owner:="set_iterator") (n:="__iter__") (by rw[gO,bW];kernel_rfl) (by decide +kernel) (by decide +kernel) (by decide +kernel) (by first|exact .inl (by decide +kernel)|exact .inr (by decide +kernel)) (by rw[iX];kernel_rfl)
theorem uk:entryFor table "set_iterator.__next__" = some my.«set_iterator.__next__»:=entryFor_of_tree (by kernel_rfl)
theorem zk:entryFor table "set.__iter__" = some my.«frozenset.__iter__»:=iZ (id':="frozenset.__iter__") (by kernel_rfl) rfl (by nofun) (by kernel_rfl)
theorem zh:entryFor table "set_iterator.__iter__" = some my.«dict_keyiterator.__iter__»:=iZ (id':="dict_keyiterator.__iter__") (by kernel_rfl) rfl (by nofun) (by kernel_rfl)
theorem ul (a:mM):argsOk "set_iterator.__next__" ⟨[a],[]⟩:=by kernel_rfl
theorem zj (a:mM):argsOk "set_iterator.__iter__" ⟨[a],[]⟩:=by kernel_rfl
theorem rZ {α:Type}:∀ {l:List α}{i:Nat}(h:i<l.length),(l[i] :: l.eraseIdx i).Perm l
 | x :: l,0,_=>by simp
 | x :: l,i+1,h=>by
  have:=rZ (l:=l) (i:=i) (by simpa using h)
  simp only[List.getElem_cons_succ,bv]
  exact (List.Perm.swap x _ _).trans (this.cons x)
theorem Ar {α:Type}(f:Nat->Nat):∀ (n k:Nat)(l:List α)(out:Array α),n=l.length->(j9 f n k l out).toList.Perm (out.toList++l)
 | 0,k,l,out,h=>by
  cases l with
  | nil=>unfold j9;simp
  | cons=>simp at h
 | n+1,k,l,out,h=>by
  unfold j9
  have hp:0<l.length:=by lia
  have hm:f k % l.length<l.length:=Nat.mod_lt _ hp
  rw[bd hm]
  dsimp only
  refine (Ar f n (k+1) (l.eraseIdx (f k % l.length)) _ (by rw[aA hm];lia)).trans ?_
  rw[fK,fB]
  refine cw _ ?_
  exact rZ hm
theorem BG {α:Type}(f:Nat->Nat)(xs:Array α):(pickOrder f xs).toList.Perm xs.toList:=by
 unfold pickOrder
 simpa using Ar f xs.size 0 xs.toList #[] (by simp)
section
variable {prog:mm}{w:mL}{A:mK}{E:mM->mD->Prop}{s:mD}
theorem Cd {n:Nat}{src:Source}{Q:Nat->mD->Prop}(hn:n≠0)(q:∀ i,i<n->Q i { s with drawn:=s.drawn.bump src }):wpAny (model prog w) A (choose src n) Q E s:=λΓ p hΓ=>⟨hn,q _ (Nat.mod_lt _ (Nat.pos_of_ne_zero hn))⟩
theorem A0 {α:Type}:∀ (n:Nat)(xs:List α){s:mD}{Q:List α->mD->Prop},n=xs.length->(∀ ys dr,ys.Perm xs->Q ys { s with drawn:=dr })->wpAny (model prog w) A (drawOrder n xs) Q E s
 | 0,xs,s,Q,h,q=>by
  cases xs with
  | nil=>exact k9 (q [] s.drawn (.refl _))
  | cons=>simp at h
 | n+1,[],s,Q,h,q=>by simp at h
 | n+1,x :: xs,s,Q,h,q=>by
  unfold drawOrder
  refine lj (Cd (by simp) λi hi=>?_)
  rw[bd hi]
  dsimp only
  refine lj (A0 n ((x :: xs).eraseIdx i) (by rw[aA hi];lia) λys dr hy=>k9 (q _ dr ((hy.cons _).trans (rZ hi))))
end
section
variable {prog:mm}{w:mL}{A:mK}{E:mM->mD->Prop}{s:mD}{a:m4}
def SetIt (h:mY)(it a:m4)(f:mM) (i n ep:Nat):Prop:=∃ o,h.get? it=some o/\o.cls=.type "set_iterator"/\o.data=.fields #[f,.int i 0,.ref a,.int n 0,.int ep 0]
theorem SetIt.ty {it a:m4}{f:mM}{i n ep:Nat}(x:SetIt s.heap it a f i n ep):s.TypeIs (.ref it) "set_iterator":=let ⟨o,ho,hc,_⟩:=x;⟨o,ho,hc⟩
theorem SetIt.keep {h h':mY}{it a:m4}{f:mM}{i n ep:Nat}(x:SetIt h it a f i n ep)(k:∀ o,h.get? it=some o->h'.get? it=some o):SetIt h' it a f i n ep:=let ⟨o,ho,r⟩:=x;⟨o,k o ho,r⟩
inductive Goes (w:mL)(h:mY)(a:m4)(es:Array (Int×mM)) (ep:Nat)(t:lZ):List mM->Nat->mM->Prop
 | text {i:Nat}{sl:Nat}:w.params.followText "set-order" = true->Goes w h a es ep t ((pickOrder (w.params.setOrder a ep) es).toList.map (·.2)) i (.int sl 0)
 | table {i:Nat}:w.params.followText "set-order" = false->(!t.plain && decide (es.size > 1))=false->Goes w h a es ep t (es.toList.map (·.2)) i (.int ((if i=0 then 0 else t.place.getD (i-1) 0+1:Nat):Int) 0)
 | drawn {i:Nat}{p:m4}{od:List Nat}:w.params.followText "set-order" = false->h.IsTuple p (od.map λ(n:Nat)=>rawInt n).toArray->od.Perm (lK es.size)->Goes w h a es ep t (od.map λn=>(es.getD n (0,.none)).2) i (.ref p)
theorem DQ {ns:List Int}{o:Obj}{es:Array (Int×mM)}{ep:Nat}{t:lZ}{Q:mM->mD->Prop}(ho:s.heap.get? a=some o)(d:SetData w o ns es ep t)
  (q:∀ (I:m4)(h':mY)(dr:mU)(vs:List mM)(f:mM),s.heap.objs.size<=I->(∀ p,f=.ref p->s.heap.objs.size<=p/\p≠I)->(∀ b o,s.heap.get? b=some o->h'.get? b=some o)->SetIt h' I a f 0 es.size ep->Goes w h' a es ep t vs 0 f->Q (.ref I) { s with heap:=h',drawn:=dr }):wpAny (model prog w) A (pyIter (.ref a)) Q E s:=by
 have hT:s.TypeIs (.ref a) "set":=⟨o,ho,d.ex.1⟩
 refine eM hT iI (fP iI hT zk ?_ (F.args_set_iter_1 _))
 unfold my.«frozenset.__iter__»
 refine lj (k9 ?_)
 refine lj (lj (cZ ho d.dat d.fits (k9 ?_)))
 unfold setDrawn setsByText
 refine lj (lj (eK ho d.dat d.fits (lj (lj (fQ (k9 (k9 ?_)))))))
 show wpAny _ _ (if (!w.params.followText "set-order" && (!t.plain && decide (es.size > 1)))=true then _ else _) _ _ _
 have fin:∀ (h1:mY)(dr:mU)(vs:List mM)(f:mM),s.heap.objs.size<=h1.objs.size->(∀ p,f=.ref p->s.heap.objs.size<=p/\p<h1.objs.size)->(∀ b o,s.heap.get? b=some o->h1.get? b=some o)->(∀ h':mY,(∀ b o,h1.get? b=some o->h'.get? b=some o)->Goes w h' a es ep t vs 0 f)->wpAny (model prog w) A.in1 (do
   let l <- setEpoch a
   let r <- newFields "set_iterator" [f,rawInt 0,.ref a,rawInt es.size,rawInt l]
   ret r) (λfin s'=>∃ v,fin=Fin.done (Flow.ret v)/\∃ T' r,s'.TypeIs v T'/\typeLookup (Value.type T') (ke "__next__")=pure (some r)/\Q v s') E { s with heap:=h1,drawn:=dr }:=by
  intro h1 dr vs f sz pz kp g
  refine lj (wpAny_setEpoch_of (s:={ s with heap:=h1,drawn:=dr }) (kp _ _ ho) d.dat d.fits (lj (eP (k9 ⟨_,rfl,"set_iterator",_,⟨_,dj _ rfl,rfl⟩,sit_next.lookup,?_⟩))))
  have k2:∀ b o,h1.get? b=some o->(h1.push { cls:=.type "set_iterator",data:=.fields #[f,rawInt 0,.ref a,rawInt es.size,rawInt ep] }).get? b=some o:=λb o e=>bR _ e
  exact q _ _ dr vs f sz (λp z=>⟨(pz p z).1,kq (pz p z).2⟩) (λb o e=>k2 b o (kp b o e)) ⟨_,dj _ rfl,rfl,rfl⟩ (g _ k2)
 by_cases hb:w.params.followText "set-order" = true
 ·rw[if_neg (by rw[hb];simp)]
  refine lj (k9 ?_)
  exact fin s.heap s.drawn _ _ (kT _) (λp z=>nomatch z) (λb o e=>e) λh' _=>Goes.text (sl:=0) hb
 ·have hb:w.params.followText "set-order" = false:=by simpa using hb
  by_cases hd:(!t.plain && decide (es.size > 1))=true
  ·rw[if_pos (by rw[hb,hd];rfl)]
   refine lj (A0 _ _ (by simp) λod dr p=>?_)
   have hl:od.length=es.size:=by rw[p.length_eq,fu]
   have hz:es.size<=sizeLine:=eS (by rw[d.size];exact d.small)
   refine lj (eP ?_ (by show (od.map _).toArray.size<=_;simp;lia))
   refine fin _ dr _ _ (by rw[jn];exact kS _) (λp z=>by cases z;exact⟨kT _,by rw[jn];exact f8 _⟩) (λb o e=>bR _ e) λh' k=>Goes.drawn hb ?_ p
   exact⟨_,k _ _ (dj _ rfl),rfl,_,rfl⟩
  ·have hd:(!t.plain && decide (es.size > 1))=false:=by simpa using hd
   rw[if_neg (by rw[hb,hd];simp)]
   refine lj (k9 ?_)
   exact fin s.heap s.drawn _ _ (kT _) (λp z=>nomatch z) (λb o e=>e) λh' _=>Goes.table (i:=0) hb hd
theorem xI {ns:List Int}{o:Obj}{es:Array (Int×mM)}{ep:Nat}{t:lZ}(d:SetData w o ns es ep t)(hd:(!t.plain && decide (es.size > 1))=false) (i:Nat)(hi:i<=es.size):i7 t.place (if i=0 then 0 else t.place.getD (i-1) 0+1)=i/\t.place.size=es.size:=by
 have hs:t.place.size=es.size:=by
  have:=d.fits
  unfold SetTable.fits at this
  simp at this
  exact this.1
 have rs:vn t.place:=by
  by_cases hp:t.plain=true
  ·exact d.tab.2.2 hp
  ·have:es.size<=1:=by simp[hp] at hd;exact hd
   intro x y hx hy l
   lia
 refine⟨?_,hs⟩
 let(h1,h2,h3):=tL rs (if i=0 then 0 else t.place.getD (i-1) 0+1)
 by_cases h0:i=0
 ·subst h0
  rw[if_pos rfl] at h1 h2 h3 ⊢
  by_cases z:i7 t.place 0=0
  ·exact z
  ·have:=h2 0 ⋯ ⋯
   lia
 ·rw[if_neg h0] at h1 h2 h3 ⊢
  have hg:t.place.getD (i-1) 0=t.place[i-1]'⋯:=by rw[av,aT ⋯];rfl
  rw[hg] at h1 h2 h3 ⊢
  generalize i7 t.place (t.place[i-1]'⋯ + 1)=r at h1 h2 h3 ⊢
  rcases Nat.lt_trichotomy r i with l|l|l
  ·have:=h3 (i-1) ⋯ ⋯
   lia
  ·exact l
  ·have a1:=h2 i ⋯ l
   have a2:=rs (i-1) i ⋯ ⋯ ⋯
   lia
theorem Dw {ns:List Int}{o:Obj}{es:Array (Int×mM)}{ep:Nat}{t:lZ}{it:m4}{vs:List mM}{i:Nat}{f:mM}{Q:Option mM->mD->Prop}(ne:a≠it)(hit:SetIt s.heap it a f i es.size ep)(ho:s.heap.get? a=some o)(d:SetData w o ns es ep t)(g:Goes w s.heap a es ep t vs i f)(hi:i<vs.length)
  (q:∀ (h':mY)(f':mM),(∀ p,f'=.ref p->f=.ref p)->kI it s.heap h'->SetIt h' it a f' (i+1) es.size ep->(∀ h2:mY,(∀ b o,b≠it->s.heap.get? b=some o->h2.get? b=some o)->Goes w h2 a es ep t vs (i+1) f')->Q (some vs[i]) { s with heap:=h' }):wpAny (model prog w) A (pyNext (.ref it)) Q E s:=by
 have hT:=hit.ty
 let(oi,e0,c0,d0):=id hit
 unfold pyNext
 refine lj (jw (bn (name:=ke "__next__") hT sit_next (fP sit_next hT uk ?_ (ul _))))
 unfold my.«set_iterator.__next__»
 refine lj (k9 (lj (iS e0 d0 ?_)))
 show wpAny _ _ (setEntries a >>= _) _ _ s
 refine lj (cZ ho d.dat d.fits ?_)
 rw[if_neg (by simp)]
 have step:∀ (sl nx:Nat)(x:mM),f=.int sl 0->x=vs[i]->(∀ h2:mY,(∀ b o,b≠it->s.heap.get? b=some o->h2.get? b=some o)->Goes w h2 a es ep t vs (i+1) (.int nx 0))->(∀ (Q':Option (mM×Nat)->mD->Prop)(E':mM->mD->Prop),Q' (some (x,nx)) s->wpAny (model prog w) A.in1 (setNext a sl i ep) Q' E' s)->wpAny (model prog w) A.in1 (do
   let r <- setNext a (sl:Int).toNat (i:Int).toNat (ep:Int).toNat
   match r with
    | some (x,next)=>do
     setField (Value.ref it) 0 (rawInt next)
     setField (Value.ref it) 1 (rawInt (i+1))
     ret x
    | none=>do
     setField (Value.ref it) 2 Value.none
     let e <- newExc (Value.type "StopIteration") []
     raiseNew e) (λfin s'=>∃ v,fin=Fin.done (Flow.ret v)/\wpAny (model prog w) A (pure (some v)) Q E s') (λe s'=>wpAny (model prog w) A (do
      let b <- isInstance e (Value.type "StopIteration")
      if b=true then pure none else throw e) Q E s') s:=by
  intro sl nx x ef ex g' hn
  subst ef
  simp -iota only[fC]
  refine lj (hn _ _ ?_)
  dsimp only
  refine lj (iO e0 d0 (by simp) ?_)
  have e1:=cx (jJ (·.setIfInBounds 0 (rawInt nx))) e0 (b9 (dL d0 _))
  have d1:=dL d0 (·.setIfInBounds 0 (rawInt nx))
  refine lj (iO (s:={ s with heap:=_ }) e1 d1 (by simp) ?_)
  have e2:=cx (jJ (·.setIfInBounds 1 (rawInt ((i:Int)+1)))) e1 (b9 (dL d1 _))
  have d2:=dL d1 (·.setIfInBounds 1 (rawInt ((i:Int)+1)))
  refine k9 ⟨_,rfl,k9 ?_⟩
  rw[ex]
  refine q _ (.int nx 0) (λp z=>nomatch z) ((dm ..).trans (dm ..)) ⟨_,e2,?_,?_⟩ g'
  ·rw[ff,ff];exact c0
  ·rw[d2];simp[rawInt]
 cases g with
 | @text _ sl hb =>
  refine step sl sl _ rfl rfl (λh2 _=>.text hb) λQ' E' q'=>?_
  unfold setNext setsByText
  refine lj (eK ho d.dat d.fits (lj (lj (fQ (k9 ?_)))))
  dsimp only
  refine gM (λ_=>?_) λz=>absurd hb z
  rw[if_neg (by simp)]
  unfold setWalk setsByText
  refine lj (lj (eK ho d.dat d.fits (lj (lj (fQ (k9 ?_))))))
  dsimp only
  refine gM (λ_=>?_) λz=>absurd hb z
  refine lj (fQ (k9 (k9 ?_)))
  have hl:i<(pickOrder (w.params.setOrder a ep) es).size:=by simpa using hi
  show Q' (lF (λe=>(e.snd,sl)) (pickOrder (w.params.setOrder a ep) es)[i]?) s
  rw[aT hl]
  simpa using q'
 | table hb hd =>
  have hl:i<es.size:=by simpa using hi
  let(t1,t2):=xI d hd i ⋯
  refine step _ (t.place.getD i 0+1) _ rfl rfl (λh2 _=>?_) λQ' E' q'=>?_
  ·have:=Goes.table (w:=w) (h:=h2) (a:=a) (es:=es) (ep:=ep) (t:=t) (i:=i+1) hb hd
   simpa using this
  ·unfold setNext setsByText
   refine lj (eK ho d.dat d.fits (lj (lj (fQ (k9 ?_)))))
   dsimp only
   rw[if_neg (by show ¬ w.params.followText "set-order" = true;rw[hb];simp)]
   refine gM (λz=>absurd (hd.symm.trans z) (by simp)) λ_=>?_
   refine lj (gM (λz=>?_) λ_=>k9 ?_)
   ·have:t.led=true:=by rw[d.tab.1,hb];rfl
    rw[this] at z;simp at z
   ·rw[t1]
    rw[aT hl,aT (show i<t.place.size by lia)]
    refine k9 ?_
    have hp:t.place.getD i 0=t.place[i]'⋯:=by rw[av,aT ⋯];rfl
    rw[hp] at q'
    simpa using q'
 | @drawn _ p od hb ht pm =>
  have hl:i<od.length:=by simpa using hi
  let(ot,o1,o2,nt,o3):=id ht
  refine lj (iP o1 o3 ?_)
  dsimp only
  rw[fC,fC]
  rw[cr,fx,bd hl]
  dsimp -iota only[hZ,rawInt]
  have hm:od[i]<es.size:=jh.mp (pm.mem_iff.mp (gu hl))
  unfold setNextDrawn
  refine lj (lj (eK ho d.dat d.fits ?_))
  dsimp only
  rw[if_neg (by simp),fC,aT hm]
  refine k9 ?_
  refine lj (iO e0 d0 (by simp) ?_)
  have e1:=cx (jJ (·.setIfInBounds 1 (rawInt ((i:Int)+1)))) e0 (b9 (dL d0 _))
  have d1:=dL d0 (·.setIfInBounds 1 (rawInt ((i:Int)+1)))
  refine k9 ⟨_,rfl,k9 ?_⟩
  have hx:(es[od[i]]'hm).2=(od.map λn=>(es.getD n (0,.none)).2)[i]'hi:=by
   rw[gw,av,aT hm];rfl
  show Q (some (es[od[i]]'hm).2) _
  rw[hx]
  refine q _ (.ref p) (λp' z=>z) (dm ..) ⟨_,e1,?_,?_⟩ λh2 k=>.drawn hb ?_ pm
  ·rw[ff];exact c0
  ·rw[d1];simp[rawInt]
  ·refine⟨ot,k p ot (λz=>?_) o1,o2,nt,o3⟩
   subst z
   rw[e0] at o1;cases o1
   rw[d0] at o3;cases o3
theorem Gc {ns : List Int} {o : Obj} {es : Array (Int × mM)} {ep : Nat} {t : lZ} {it : m4} {vs : List mM} {i : Nat} {f : mM} {Q : Option mM -> mD -> Prop} (hh : A.handled = none) (hit : SetIt s.heap it a f i es.size ep) (ho : s.heap.get? a = some o) (d : SetData w o ns es ep t) (g : Goes w s.heap a es ep t vs i f) (hi : vs.length = i)
    (q:∀ h':mY,k6 it s.heap h'->Q none { s with heap:=h' }):wpAny (model prog w) A (pyNext (.ref it)) Q E s:=by
  have hT:=hit.ty
  let(oi,e0,c0,d0):=id hit
  unfold pyNext
  refine lj (jw (bn (name:=ke "__next__") hT sit_next (fP sit_next hT uk ?_ (ul _))))
  unfold my.«set_iterator.__next__»
  refine lj (k9 (lj (iS e0 d0 ?_)))
  show wpAny _ _ (setEntries a >>= _) _ _ s
  refine lj (cZ ho d.dat d.fits ?_)
  rw[if_neg (by simp)]
  have stop : ∀ h1 : mY, k6 it s.heap h1 -> wpAny (model prog w) A.in1 (do
          let e <- newExc (Value.type "StopIteration") []
          raiseNew e) (fun fin s' => ∃ v, fin = Fin.done (Flow.ret v) /\ wpAny (model prog w) A (pure (some v)) Q E s') (fun e s' => wpAny (model prog w) A (do
            let b <- isInstance e (Value.type "StopIteration")
            if b = true then pure none else throw e) Q E s') { s with heap := h1 } := by
    intro h1 x1
    refine lj ?_
    simp -iota only[newExc,newTuple]
    refine lj (eP ?_ (by size_fits));refine lj (m:=firstArgMember _ _) (kK (a:=Value.none) (by first|rfl|(simp -iota only[firstArgMember];rfl)) ?_);refine eP ?_ (by size_fits);simp -iota only[raiseNew]
    refine lj (jv ?_);rw[show A.in1.handled=none from hh];refine lj (k9 (wpAny_throw ?_))
    refine lj (fM (T:="StopIteration") (b:=true) ⟨_,dj _ rfl,rfl⟩ iY ?_);exact k9 (q _ ((x1.push _).push _))
  have step : ∀ sl : Nat, f = .int sl 0 -> (∀ (Q' : Option (mM × Nat) -> mD -> Prop) (E' : mM -> mD -> Prop), Q' none s -> wpAny (model prog w) A.in1 (setNext a sl i ep) Q' E' s) -> wpAny (model prog w) A.in1 (do
      let r <- setNext a (sl:Int).toNat (i:Int).toNat (ep:Int).toNat
      match r with
        | some (x, next) => do
          setField (Value.ref it) 0 (rawInt next)
          setField (Value.ref it) 1 (rawInt (i + 1))
          ret x
        | none => do
          setField (Value.ref it) 2 Value.none
          let e <- newExc (Value.type "StopIteration") []
          raiseNew e) (fun fin s' => ∃ v, fin = Fin.done (Flow.ret v) /\ wpAny (model prog w) A (pure (some v)) Q E s') (fun e s' => wpAny (model prog w) A (do
            let b <- isInstance e (Value.type "StopIteration")
            if b = true then pure none else throw e) Q E s') s := by
    intro sl ef hn
    subst ef
    simp -iota only[fC]
    refine lj (hn _ _ ?_)
    dsimp only
    refine lj (iO e0 d0 (by simp) ?_)
    exact stop _ (dm ..).extBut
  cases g with
  | @text _ sl hb =>
    refine step sl rfl λQ' E' q'=>?_
    unfold setNext setsByText
    refine lj (eK ho d.dat d.fits (lj (lj (fQ (k9 ?_)))))
    dsimp only
    refine gM (λ_=>?_) λz=>absurd hb z
    rw[if_neg (by simp)]
    unfold setWalk setsByText
    refine lj (lj (eK ho d.dat d.fits (lj (lj (fQ (k9 ?_))))))
    dsimp only
    refine gM (λ_=>?_) λz=>absurd hb z
    refine lj (fQ (k9 (k9 ?_)))
    have hl:(pickOrder (w.params.setOrder a ep) es).size<=i:=by simp at hi;lia
    show Q' (lF (λe=>(e.snd,sl)) (pickOrder (w.params.setOrder a ep) es)[i]?) s
    rw[bU hl]
    exact q'
  | table hb hd =>
    have hl:es.size=i:=by simpa using hi
    let(t1,t2):=xI d hd i ⋯
    refine step _ rfl λQ' E' q'=>?_
    unfold setNext setsByText
    refine lj (eK ho d.dat d.fits (lj (lj (fQ (k9 ?_)))))
    dsimp only
    rw[if_neg (by show ¬ w.params.followText "set-order" = true;rw[hb];simp)]
    refine gM (λz=>absurd (hd.symm.trans z) (by simp)) λ_=>?_
    refine lj (gM (λz=>?_) λ_=>k9 ?_)
    · have:t.led=true:=by rw[d.tab.1,hb];rfl
      rw[this] at z;simp at z
    · rw[t1]
      rw[bU ⋯]
      exact k9 q'
  | @drawn _ p od hb ht pm =>
    have hl:od.length=i:=by simpa using hi
    let(ot,o1,o2,nt,o3):=id ht
    refine lj (iP o1 o3 ?_)
    dsimp only
    rw[fC,fC]
    rw[cr,List.getElem?_eq_none (by simp;lia)]
    refine lj (iO e0 d0 (by simp) ?_)
    have e1:=cx (jJ (·.setIfInBounds 0 (rawInt 0))) e0 (b9 (dL d0 _))
    have d1:=dL d0 (·.setIfInBounds 0 (rawInt 0))
    refine lj (iO (s:={ s with heap:=_ }) e1 d1 (by simp) ?_)
    exact stop _ ((dm ..).trans (dm ..)).extBut
theorem Goes.keep {h h':mY}{es:Array (Int×mM)}{ep:Nat}{t:lZ}{vs:List mM}{i:Nat}{f:mM}(g:Goes w h a es ep t vs i f)(k:∀ p,f=.ref p->∀ o,h.get? p=some o->h'.get? p=some o):Goes w h' a es ep t vs i f:=by
 cases g with
 | text hb=>exact .text hb
 | table hb hd=>exact .table hb hd
 | @drawn _ p od hb ht pm =>
  let(ot,o1,r):=ht
  exact .drawn hb ⟨ot,k p rfl ot o1,r⟩ pm
theorem Goes.perm {ns:List Int}{o:Obj}{h:mY}{es:Array (Int×mM)}{ep:Nat}{t:lZ}{vs:List mM}{i:Nat}{f:mM}(d:SetData w o ns es ep t)(g:Goes w h a es ep t vs i f):vs.Perm (es.toList.map (·.2)):=by
 cases g with
 | text hb=>exact (BG _ _).map _
 | table hb hd=>exact .refl _
 | @drawn _ p od hb ht pm =>
  refine (pm.map _).trans (.of_eq ?_)
  apply gy
  ·simp
  ·intro i i1 i2
   simp at i1
   simp[av,i1]
end
section
variable {prog:mm}{w:mL}{A:mK}{E:mM->mD->Prop}{s:mD}{a:m4}{ns:List Int}{o:Obj}{es:Array (Int×mM)}{ep:Nat}{t:lZ}
def Bk (w:mL)(I a:m4)(o:Obj)(es:Array (Int×mM)) (ep:Nat)(t:lZ)(vs:List mM)(pl:List m4) (i:Nat)(h:mY):Prop:=(∃ f,(∀ p,f=.ref p->p∈pl)/\SetIt h I a f i es.size ep/\Goes w h a es ep t vs i f)/\h.get? a=some o
theorem Ct {I:m4}{vs:List mM}{pl:List m4}(hh:A.handled=none)(d:SetData w o ns es ep t)(ne:a≠I)(np:I ∉ pl):Walks prog w A I (I :: a :: pl) [I] vs.length (λi v=>vs[i]?=some v) (Bk w I a o es ep t vs pl) where
 sub:=λb hb=>by simp at hb;simp[hb]
 frame:=λi h h' st hk=>by
  let((f,f1,f2,f3),ho):=st
  exact⟨⟨f,f1,f2.keep λo e=>hk I (by simp) o e,f3.keep λp z o e=>hk p (by simp[f1 p z]) o e⟩,hk a (by simp) o ho⟩
 item:=λi s Q E hi st hQ=>by
  let((f,f1,f2,f3),ho):=st
  refine Dw ne f2 ho d f3 hi λh' f' p1 sb it' g'=>?_
  have kp:∀ b o,b≠I->s.heap.get? b=some o->h'.get? b=some o:=λb o n e=>(sb.2 b n).trans e
  exact hQ _ h' s.toks (by simp[hi]) ⟨⟨f',λp z=>f1 p (p1 p z),it',g' h' kp⟩,kp a o ne ho⟩ λb o hb e=>kp b o (λz=>hb (by simp[z])) e
 done:=λs Q E st hQ=>by
  let((f,f1,f2,f3),ho):=st
  exact Gc hh f2 ho d f3 rfl λh' eb=>hQ h' s.toks λb o hb e=>eb b o (λz=>hb (by simp[z])) e
 self:=λi s Q E st hQ=>by
  let((f,f1,f2,f3),ho):=st
  refine eM f2.ty xP (fP xP f2.ty zh ?_ (zj _))
  show wpAny _ _ (ret (.ref I)) _ _ s
  exact k9 ⟨_,rfl,"set_iterator",_,f2.ty,sit_next.lookup,hQ⟩
theorem DV {Q:Bool->mD->Prop}(hT:s.TypeIs (.ref a) "set")(q:Q false s):wpAny (model prog w) A (aq (.ref a)) Q E s:=by
 unfold aq
 refine lj (gJ hT F.slot_set_len.lookup ?_)
 generalize hid:("set.__len__":String)=id0
 wp_delta
 rw[show splitId id0=some ("set","__len__") from by subst hid;nofun]
 subst hid
 refine lj (fM (T:="set") (b:=true) hT (by rw[iX];kernel_rfl) ?_)
 exact gM (λz=>absurd z (by decide)) λ_=>gM (λ_=>lj (j7 hT (k9 q))) λz=>absurd (by nofun) z
theorem yQ {R:List mM->mD->Prop}(hh:A.handled=none)(ho:s.heap.get? a=some o)(d:SetData w o ns es ep t)
  (q:∀ (h':mY) (tk:Nat)(dr:mU)(vs:List mM),(∀ b o,s.heap.get? b=some o->h'.get? b=some o)->vs.Perm (es.toList.map (·.2))->R vs { s with heap:=h',toks:=tk,drawn:=dr }):wpAny (model prog w) A (collect (.ref a)) R E s:=by
 have hlt:a<s.heap.objs.size:=kH ho
 have hz:es.size<=sizeLine:=eS (by rw[d.size];exact d.small)
 unfold collect
 refine lj (iQ (gS entry_proto_collect' ?_))
 rw[cY cA _]
 refine lj (m:=newList []) (eP (k9 ⟨jA fG _,gS entry_list_iadd' ?_⟩))
 rw[cY fG _]
 have L0:(s.heap.push { cls:=.type "list",data:=.seq ([]:List mM).toArray }).get? s.heap.objs.size=some { cls:=.type "list",data:=.seq #[] }:=dj _ rfl
 have k0:∀ b o,s.heap.get? b=some o->(s.heap.push { cls:=.type "list",data:=.seq ([]:List mM).toArray }).get? b=some o:=λb o e=>bR _ e
 show wpAny _ A.in1 (ar (.ref s.heap.objs.size) (.ref a) (.ref s.heap.objs.size)) _ _ _
 generalize hl0:s.heap.push { cls:=.type "list",data:=.seq ([]:List mM).toArray } = g0 at L0 k0 ⊢
 have s0:g0.objs.size=s.heap.objs.size+1:=by rw[<- hl0,jn]
 unfold ar
 have hT:Shared.TypeIs { s with heap:=g0 } (.ref a) "set":=⟨o,k0 _ _ ho,d.ex.1⟩
 refine lj (j7 (T:="set") hT ?_)
 have h1:bi (.ref s.heap.objs.size) (.ref a)=false:=by simp[bi];exact ku hlt
 have h2:(Value.type "set" == Value.type "list")=false:=by decide
 have h3:(Value.type "set" == Value.type "tuple")=false:=by decide
 simp -iota only[h1,h2,h3,Bool.or_false,eD,if_false]
 refine lj (DQ (k0 _ _ ho) d λI h' dr vs f hI pz kp it g=>?_)
 have hI':s.heap.objs.size<I:=by
  have:g0.objs.size<=I:=hI
  rw[s0] at this;exact this
 have pm:=g.perm d
 have hvs:vs.length=es.size:=by rw[pm.length_eq];simp
 obtain⟨pl,p1,p2,p3⟩:∃ pl:List m4,(∀ p,f=.ref p->p∈pl)/\I ∉ pl/\s.heap.objs.size ∉ pl:=by
  by_cases z:∃ p,f=.ref p
  ·let(p,z):=z
   let(y1,y2):=pz p z
   have y1:g0.objs.size<=p:=y1
   rw[s0] at y1
   refine⟨[p],λp' z'=>?_,?_,?_⟩
   ·rw[z] at z';cases z';simp
   ·simp;exact λe=>y2 e.symm
   ·simp;exact kq y1
  ·exact⟨[],λp e=>absurd ⟨p,e⟩ z,by simp,by simp⟩
 have loop:∀ (h4:mY) (c tk:Nat),Bk w I a o es ep t vs pl 0 h4->(∀ b o,s.heap.get? b=some o->h4.get? b=some o)->h4.get? s.heap.objs.size=some { cls:=.type "list",data:=.seq #[] c }->codeAny (model prog w) A (.builtin "list.extend.loop" ⟨[.ref s.heap.objs.size,.ref I,.ref s.heap.objs.size],[]⟩) (wants (λr s'=>∃ (h':mY) (tk:Nat)(Z8:Array mM) (c':Nat),r=.ref s.heap.objs.size/\s' = { s with heap:=h',toks:=tk,drawn:=dr }/\(∀ b o,s.heap.get? b=some o->h'.get? b=some o)/\h'.get? s.heap.objs.size=some { cls:=.type "list",dict:=none,data:=.seq Z8 c',slots:=#[] }/\Z8.toList=vs) E) { s with heap:=h4,toks:=tk,drawn:=dr }:=by
  intro h4 c tk st k4 l4
  refine cE (Ct (A:=A.in1) (prog:=prog) hh d (kq (kw hlt hI')) p2).toS (by rw[hvs];exact hz) s.heap.objs.size (by simp;exact⟨kq hI',ku hlt,p3⟩) (.ref s.heap.objs.size) vs.length 0 _ #[] c rfl (kR _) st l4 (ItemsOf.nil _) λs' Z8 c' hm l5 it=>?_
  rw[Moved.eq_with hm]
  refine⟨s'.heap,s'.toks,Z8,c',rfl,rfl,λb o e=>hm.heap b o (λz=>?_) (k4 b o e),l5,?_⟩
  ·have hb:=kH e
   rcases jP.mp z with z|z
   ·rw[z] at hb;exact jK _ hb
   ·rw[dU.mp z] at hb;exact jK _ (kw hb hI')
  ·let(i1,i2):=it
   apply gy
   ·simpa using i1
   ·intro i j1 j2
    have:=i2 i Z8[i] (by simp at j1;simp[j1])
    have:vs[i]?=some Z8[i]:=this
    rw[bd j2] at this
    rw[hW this];simp
 have st0:Bk w I a o es ep t vs pl 0 h':=⟨⟨f,p1,it,g⟩,kp _ _ (k0 _ _ ho)⟩
 have fin:∀ (r:mM)(s':mD),(∃ (h':mY) (tk:Nat)(Z8:Array mM) (c':Nat),r=.ref s.heap.objs.size/\s' = { s with heap:=h',toks:=tk,drawn:=dr }/\(∀ b o,s.heap.get? b=some o->h'.get? b=some o)/\h'.get? s.heap.objs.size=some { cls:=.type "list",dict:=none,data:=.seq Z8 c',slots:=#[] }/\Z8.toList=vs)->wpAny (model prog w) A (do
   let .ref l:=r|unsupported "internal:collect"
   match (<- load l).data with
   | .seq xs _=>pure xs.toList
   | _=>unsupported "internal:collect") R E s':=by
  rintro r s' ⟨h5,tk,Z8,c',rfl,rfl,k5,l5,e5⟩
  refine lj (lh l5 (k9 ?_))
  rw[e5]
  exact q h5 tk dr vs k5 pm
 have L1:h'.get? s.heap.objs.size=some { cls:=.type "list",data:=.seq #[] }:=kp _ _ L0
 have last:∀ (h4:mY) (c tk:Nat),Bk w I a o es ep t vs pl 0 h4->(∀ b o,s.heap.get? b=some o->h4.get? b=some o)->h4.get? s.heap.objs.size=some { cls:=.type "list",data:=.seq #[] c }->wpAny (model prog w) A.in1 (again (.builtin "list.extend.loop" ⟨[.ref s.heap.objs.size,.ref I,.ref s.heap.objs.size],[]⟩)) (λfin s'=>match fin with
   | .done f=>match (Except.ok f:mE) with
    | .ok (.ret v)=>wpAny (model prog w) A (do
     let .ref l:=v|unsupported "internal:collect"
     match (<- load l).data with
     | .seq xs _=>pure xs.toList
     | _=>unsupported "internal:collect") R E s'
    | .ok _=>False
    | .error e=>E e s'
   | .again c'=>c'.quiet=true/\codeAny (model prog w) A c' (λr s'=>match r with
    | .ok (.ret v)=>wpAny (model prog w) A (do
     let .ref l:=v|unsupported "internal:collect"
     match (<- load l).data with
     | .seq xs _=>pure xs.toList
     | _=>unsupported "internal:collect") R E s'
    | .ok _=>False
    | .error e=>E e s') s') (λe s'=>E e s') { s with heap:=h4,toks:=tk,drawn:=dr }:=by
  intro h4 c tk x1 x2 x3
  refine k9 ⟨jA dq _,kc (loop h4 c tk x1 x2 x3) λr s' y=>?_⟩
  cases r with
  | error e=>exact y
  | ok fl=>cases fl with
   | ret v=>exact fin v s' y
   | _=>exact y.elim
 have k1:∀ b o,s.heap.get? b=some o->h'.get? b=some o:=λb o e=>kp b o (k0 b o e)
 refine lj (ju (DV (s:={ s with heap:=h',drawn:=dr }) ⟨o,k1 _ _ ho,d.ex.1⟩ ?_))
 refine gM (λ_=>?_) λ_=>last h' 0 s.toks st0 k1 L1
 refine lj (k8 (lj ?_))
 show wpAny _ _ (updateSeq s.heap.objs.size (·.push .none) >>= λ_=>updateSeq s.heap.objs.size (·.pop)) _ _ _
 refine lj (gI (s:={ s with heap:=h',drawn:=dr }) L1 rfl ?_)
 have L2:=cx (lH (·.push Value.none)) L1 rfl
 refine gI (s:={ s with heap:=_,drawn:=dr }) (hz:=by seq_fits) L2 rfl ?_
 have L3:=cx (lH (·.pop)) L2 rfl
 have k3:∀ b o,b≠s.heap.objs.size->h'.get? b=some o->((h'.update s.heap.objs.size (lH (·.push Value.none))).update s.heap.objs.size (lH (·.pop))).get? b=some o:=λb o n e=>(bQ _ _ (mq n)).trans ((bQ _ _ (mq n)).trans e)
 refine last _ _ s.toks ?_ (λb o e=>k3 b o (kq (kH e)) (k1 b o e)) L3
 exact⟨⟨f,p1,it.keep λo e=>k3 _ o (ku hI') e,g.keep λp z o e=>k3 p o (λy=>p3 (y ▸ p1 p z)) e⟩,k3 _ _ (kq hlt) (k1 _ _ ho)⟩
end
theorem SetN.none {w:mL}{h:mY}{a:m4}(e:h.get? a=some { cls:=.type "set",dict:=none,data:=.set #[] 0 (.fresh 0 0 (!w.params.followText "set-order")) }):SetN w h a [] :=
 ⟨jg,_,#[],0,_,e,⟨⟨rfl,rfl,rfl⟩,rfl,λe he=>by simp at he,.refl _,by decide,rfl,TabOk.fresh _ _ _⟩⟩
theorem SetN.keep {w:mL}{h h':mY}{a:m4}{ns:List Int}(x:SetN w h a ns)(k:∀ o,h.get? a=some o->h'.get? a=some o):SetN w h' a ns:=by
 let(nd,o,es,ep,t,ho,d):=x
 exact⟨nd,o,es,ep,t,k o ho,d⟩
def addOne (ns:List Int) (k:Int):List Int:=if k∈ns then ns else ns++[k]
theorem Ae (ns:List Int) (k x:Int):x∈addOne ns k↔x∈ns ∨ x=k:=by
 unfold addOne
 by_cases h:k∈ns
 ·rw[if_pos h]
  exact⟨.inl,λz=>z.elim id λz=>z ▸ h⟩
 ·rw[if_neg h];simp
theorem Af (ns:List Int) (k:Int):(addOne ns k).length<=ns.length+1:=by
 unfold addOne
 split
 ·lia
 ·simp
theorem yA (x:Int):∀ (ks ns:List Int),x∈ks.foldl addOne ns↔x∈ns ∨ x∈ks
 | [],ns=>by simp
 | k :: ks,ns=>by rw[iB,yA x ks,Ae,jP,or_assoc]
theorem uW:∀ (ks ns:List Int),(ks.foldl addOne ns).length<=ns.length+ks.length
 | [],ns=>by simp
 | k :: ks,ns=>by
  have h1:=uW ks (addOne ns k)
  have h2:=Af ns k
  rw[iB,gp];lia
abbrev freshSet (w:mL):Obj:={ cls:=.type "set",dict:=none,data:=.set #[] 0 (.fresh 0 0 (!w.params.followText "set-order")) }
def Hc (prog:mm)(w:mL) (m:Nat):Prop:=∀ (A:mK)(E:mM->mD->Prop)(s:mD)(a:m4) (n:Nat)(vs:List mM)(ns:List Int)(P:PySem.Fin->mD->Prop),s.heap.get? a=some (seqObj "list" vs.toArray n)->mw vs ns->vs.length<=m ->
 (∀ (us:List mM)(ms:List Int)(h':mY) (c tk:Nat),mw us ms->ms.Perm ns->ms.Pairwise (·<=·)->h'.get? a=some (seqObj "list" us.toArray c)->(∀ b o,b≠a->s.heap.get? b=some o->h'.get? b=some o)->P (.done (.ret .none)) { s with heap:=h',toks:=tk }) ->
 wpAny (model prog w) A (my.«list.sort» ⟨[.ref a],[]⟩) P E s
theorem AD (a b:Int):lexLt [a] [b]=decide (a<b):=by
 rw[lexLt]
 split
 ·rename_i e;subst e;simp[lexLt]
 ·rfl
theorem CO (prog:mm)(w:mL):Hc prog w 100000:=by
 intro A E s a n vs ns P ho hi hl k
 have int:∀ x∈vs,∃ t,x=.int (numOf x) t:=λx hx=>by
  let(i,hi',rfl):=cL.mp hx
  let(t,e):=IntsAre.int_at hi i vs[i] (by simp[hi'])
  exact⟨t,by rw[e];rfl⟩
 refine Lx EV (by decide) (kd:=oneType') (kf:=λv=>[numOf v]) ho hl (λh2 h3 kp Q q=>?_) (λh3 kp x hx y hy Q E' q=>?_) λus h' c tk p1 p2 p3 p4=>?_
 ·obtain⟨v1,v2,r,rfl⟩:∃ v1 v2 r,vs=v1 :: v2 :: r:=by
   match vs,h2 with
   | v1 :: v2 :: r,_=>exact⟨v1,v2,r,rfl⟩
  rw[keyKind_ints hi]
  exact k9 q
 ·let(t1,e1):=int x hx
  let(t2,e2):=int y hy
  rw[AD] at q
  rw[keyLt'_oneType,e1,e2]
  exact oneLt_int q
 ·have iu:mw us (us.map numOf):=by
   have:∀ x∈us,∃ t,x=.int (numOf x) t:=λx hx=>int x (p1.mem_iff.mp hx)
   clear p1 p2 p3 p4
   induction us with
   | nil=>exact .nil
   | cons x r ih =>
    let(t,e):=this x (by simp)
    have z:=ih λy hy=>this y (by simp[hy])
    clear this
    rw[jS]
    generalize numOf x=i at e ⊢
    subst e
    exact .cons i t z
  refine k us (us.map numOf) h' c tk iu ?_ ?_ p3 p4
  ·have:=p1.map numOf
   rwa [IntsAre.nums hi] at this
  ·rw[fo]
   refine p2.imp λ{x y} h=>?_
   rw[AD] at h
   simpa using h
section
variable {X:Cx}
def SetO (w:mL)(a:m4)(ns:List Int):HO:=.ext λh=>SetN w h a ns
inductive rSortS (X:Cx) (m:Nat)(xs:List V)(H:Hp)(Q:VK):Prop
 | mk (a:m4)(ns:List Int)(_:xs=[.ref a])(_:H a=some (SetO X.w a ns))(_:ns.length<=m)(_:∀ p (ms:List Int),H p=none->ms.Perm ns->ms.Pairwise (·<=·)->Q (.ref p) (oj H p (.lst (ms.map V.int)))):rSortS X m xs H Q
theorem Gz (hc:X.calm=true){m:Nat}(hm:m<=100000)(S:Hc X.prog X.w m):og X (.builtin "sorted") (rSortS X m):=by
 rintro Z9 s σ H xs us Q I r ⟨a,ns,rfl,ha,hb,k⟩
 let(u,rfl,ru):=vals1 r
 cases (show u=Value.ref a from ru)
 let((nd,o,es,ep,t,ho,d),_,_):=(show ObjOk X.prog X.w H s.heap a (SetO X.w a ns) from I.hok a _ ha)
 refine Calls.call_function_entry kind_sorted plain_sorted entry_sorted (args_sorted1 _) ?_
 unfold my.«sorted»
 refine lj (m:=checkCount "sorted" 1 1 _) (k9 (lj (yQ (I.ok.hd hc) ho d λh1 tk dr vs k1 pv=>?_)))
 have hi:mw vs (vs.map numOf):=by
  have:∀ x∈vs,∃ i t,x=.int i t:=λx hx=>by
   let(e,he,rfl):=kE.mp (pv.mem_iff.mp hx)
   let(i,t,rfl):=d.num e he
   exact⟨i,t,rfl⟩
  clear pv
  induction vs with
  | nil=>exact .nil
  | cons x r ih =>
   let(i,t,rfl):=this x (by simp)
   exact .cons i t (ih λy hy=>this y (by simp[hy]))
 have pn:(vs.map numOf).Perm ns:=by
  refine (pv.map numOf).trans ?_
  rw[kG]
  exact d.perm
 have hl:vs.length<=m:=by have:=pn.length_eq;rw[iz] at this;lia
 refine lj (jt ?_ (by rw[kN];lia))
 have hoL:(h1.push (seqObj "list" vs.toArray 0)).get? h1.objs.size=some (seqObj "list" vs.toArray 0):=dj _ rfl
 have old:∀ b o,s.heap.get? b=some o->b≠h1.objs.size:=λb o e=>kq (kH (k1 b o e))
 show wpAny _ _ _ _ _ { s with heap:=h1.push (seqObj "list" vs.toArray 0),toks:=tk,drawn:=dr }
 refine lj (ju (fP slot_list_sort ⟨_,hoL,rfl⟩ entry_list_sort (S _ _ { s with heap:=h1.push (seqObj "list" vs.toArray 0),toks:=tk,drawn:=dr } _ _ vs _ _ hoL hi hl λus ms h' c tk' i1 i2 i3 i4 i5=>⟨_,rfl,?_⟩) (args_list_sort _)))
 have kp:∀ b o,s.heap.get? b=some o->h'.get? b=some o:=λb o e=>i5 b o (old b o e) (bR _ (k1 b o e))
 have I0:Inv X Z9 σ H { s with drawn:=dr }:=⟨I.ok,I.os,I.bare,I.base,I.loc,I.cell,I.free,I.freeC,I.pin,I.hok,I.len⟩
 let(I2,hD):=DT (a:=h1.objs.size) (o:=.lst (ms.map V.int)) (t':=tk') I0 kp old ⟨by rw[iz,i2.length_eq,iz,kN];lia,us,c,GY i1,i4⟩
 exact k9 ⟨_,rfl,.ref h1.objs.size,_,I2,rfl,k _ ms hD (i2.trans pn) i3⟩
end
theorem uV:∀ (ks ns:List Int),ns.Nodup->(ks.foldl addOne ns).Nodup
 | [],ns,h=>h
 | k :: ks,ns,h=>by
  refine uV ks _ ?_
  unfold addOne
  split
  ·exact h
  ·rename_i hk
   rw[fq]
   exact⟨h,by simp,λx hx y hy z=>hk (by rw[dU.mp hy] at z;rw[<- z];exact hx)⟩
theorem Bu {ms:List Int}(h1:ms.Pairwise (·<=·))(h2:ms.Nodup):ms.Pairwise (· < ·):=by
 have:=List.Pairwise.and h1 h2
 exact this.imp λ{a b} h=>by have:=h.1;have:=h.2;lia
end Kq
namespace L2
open PySem PySem.Spec PyProof.Rows
def AZ (Z3:Expr)(Z8:mM)(env:Env)(c:m3):Sem Fin:=do
 (do let v <- eval Z3 env;standAt Z3.pos;let _ <- call (.builtin "set.add") [Z8,v])
 again c
theorem Dx {prog:mm}{w:mL}{A:mK}{E:mM->mD->Prop}{s:mD}{Q:mM->mD->Prop}(q:Q (.ref s.heap.objs.size) { s with heap:=s.heap.push (Kq.freshSet w) }):wpAny (model prog w) A (newSet (.type "set")) Q E s :=
 lj (lj (fQ (k9 (lj (wpAny_alloc (k9 q))))))
theorem Co {Y:Cx}{Z9:List (m4×Obj)}{σ:St}{H:Hp}{s:mD}{Z8:m4}{ys:List Int}{k:Int}{tk:Nat}{Q:mM->mD->Prop}{E:mM->mD->Prop}(I:Inv Y Z9 σ H s)(hy:H Z8=some (Kq.SetO Y.w Z8 ys))(hz:ys.length+1<scanBound)
  (q:∀ s',Inv Y Z9 σ (oj H Z8 (Kq.SetO Y.w Z8 (Kq.addOne ys k))) s'->Q .none s'):wpAny (model Y.prog Y.w) Y.A (call (.builtin "set.add") [.ref Z8,.int k tk]) Q E s:=by
 have hS:Kq.SetN Y.w s.heap Z8 ys:=(show ObjOk Y.prog Y.w H s.heap Z8 (Kq.SetO Y.w Z8 ys) from I.hok Z8 _ hy).1
 have hT:s.TypeIs (.ref Z8) "set":=by let(_,o,_,_,_,ho,d):=hS;exact⟨o,ho,d.ex.1⟩
 refine fP F.slot_set_add hT F.entry_set_add ?_ (F.args_set_add_2 _ _)
 unfold my.«set.add» Builtin.Frozenset.oneOther
 simp only[List.isEmpty_nil,bind_assoc]
 unfold Builtin.Frozenset.addrOf setAdd
 refine lj (k9 (lj (k9 (lj (ju (lj ((intKind Y.prog Y.w).pyHash (k:=k) (lu _ _ _ _) ?_)))))))
 refine Kq.add_num (s:={ s with toks:=s.toks+1 }) hS hz λh' b sb x=>?_
 refine k9 ⟨_,rfl,q _ (I.write (x:=Z8) (e:=Z8) (t':=s.toks+1) (by rw[hy];exact True.intro) (.inl rfl) (λb o hb e=>(sb.2 b hb).trans e) ?_ ⟨x,?_,λh1 h2 y kk=>y.keep kk⟩)⟩
 all_goals
  let(_,o,_,_,_,ho,_):=x
  exact⟨o,ho⟩
theorem Cz (Z3:Expr)(g1:jX)(Z1 Z5:Expr)(Z4:List Expr)(scope:mN)(pos:Pos)(it Z8:mM)(env:Env) :
  compTurn (.SetComp Z3 [g1,⟨Z1,Z5,Z4,0⟩] scope pos) 1 it Z8 env=uf Z1 Z5 Z4 it env (AZ Z3 Z8 env (.compLoop (.SetComp Z3 [g1,⟨Z1,Z5,Z4,0⟩] scope pos) 1 it Z8 env)) (.compLoop (.SetComp Z3 [g1,⟨Z1,Z5,Z4,0⟩] scope pos) 1 it Z8 env):=rfl
theorem Bs (Z3 Z1 Z5:Expr)(Z4:List Expr)(tg2 iter2:Expr)(ifs2:List Expr)(scope:mN)(pos:Pos)(it Z8:mM)(env:Env) :
  compTurn (.SetComp Z3 [⟨Z1,Z5,Z4,0⟩,⟨tg2,iter2,ifs2,0⟩] scope pos) 0 it Z8 env=uf Z1 Z5 Z4 it env (xm (.SetComp Z3 [⟨Z1,Z5,Z4,0⟩,⟨tg2,iter2,ifs2,0⟩] scope pos) iter2 Z8 env (.compLoop (.SetComp Z3 [⟨Z1,Z5,Z4,0⟩,⟨tg2,iter2,ifs2,0⟩] scope pos) 0 it Z8 env)) (.compLoop (.SetComp Z3 [⟨Z1,Z5,Z4,0⟩,⟨tg2,iter2,ifs2,0⟩] scope pos) 0 it Z8 env):=rfl
section
variable {prog:mm}{w:mL}{A:mK}{R:mE->mD->Prop}{s:mD}
theorem Bv {Z3:Expr}{g1:jX}{Z1 Z5:Expr}{Z4:List Expr}{scope:mN}{pos:Pos}{it Z8:mM}{env:Env}
  (h0:codeAny (model prog w) A (.compLoop (.SetComp Z3 [g1,⟨Z1,Z5,Z4,0⟩] scope pos) 1 it Z8 env) R s)
  (h:wpAny (model prog w) A (pyIter it) (λit' s'=>codeAny (model prog w) A (.compLoop (.SetComp Z3 [g1,⟨Z1,Z5,Z4,0⟩] scope pos) 1 it' Z8 env) R s')
   (notedBy (model prog w) A env λx s'=>R (.error x) s') s) :
  codeAny (model prog w) A (.compStart (.SetComp Z3 [g1,⟨Z1,Z5,Z4,0⟩] scope pos) 1 it Z8 env) R s:=by
 refine gR ?_
 show wpAny _ _ ((compStart (.SetComp Z3 [g1,⟨Z1,Z5,Z4,0⟩] scope pos) 1 it Z8 env).onRaise (λx=>do noteFrame x env;standAt theWindowsPlace)) _ _ s
 refine js ?_
 unfold compStart
 show wpAny _ _ (ask >>= _) _ _ s
 refine lj (fQ (wpAny_ite ?_))
 split
 ·first
   | exact lj (k9 (k9 (And.intro rfl h0)))
   | exact k9 (And.intro rfl h0)
 ·first
   | exact lj (k8 (lj (jq (lj (lg h (λit' s' h'=>k9 (And.intro rfl h')) λ_ _ x=>x)))))
   | (refine lj (k8 ?_);show wpAny _ _ (standAt Z5.pos >>= _) _ _ s;exact lj (jq (lj (lg h (λit' s' h'=>k9 (And.intro rfl h')) λ_ _ x=>x))))
theorem zf {Z3:Expr}{g2:jX}{Z1 Z5:Expr}{Z4:List Expr}{scope:mN}{pos:Pos}{it Z8:mM}{env:Env}
  (h0:codeAny (model prog w) A (.compLoop (.SetComp Z3 [⟨Z1,Z5,Z4,0⟩,g2] scope pos) 0 it Z8 env) R s)
  (h:wpAny (model prog w) A (pyIter it) (λit' s'=>codeAny (model prog w) A (.compLoop (.SetComp Z3 [⟨Z1,Z5,Z4,0⟩,g2] scope pos) 0 it' Z8 env) R s')
   (notedBy (model prog w) A env λx s'=>R (.error x) s') s) :
  codeAny (model prog w) A (.compStart (.SetComp Z3 [⟨Z1,Z5,Z4,0⟩,g2] scope pos) 0 it Z8 env) R s:=by
 refine gR ?_
 show wpAny _ _ ((compStart (.SetComp Z3 [⟨Z1,Z5,Z4,0⟩,g2] scope pos) 0 it Z8 env).onRaise (λx=>do noteFrame x env;standAt theWindowsPlace)) _ _ s
 refine js ?_
 unfold compStart
 show wpAny _ _ (ask >>= _) _ _ s
 refine lj (fQ (wpAny_ite ?_))
 split
 ·first
   | exact lj (k9 (k9 (And.intro rfl h0)))
   | exact k9 (And.intro rfl h0)
 ·first
   | exact lj (k8 (lj (jq (lj (lg h (λit' s' h'=>k9 (And.intro rfl h')) λ_ _ x=>x)))))
   | (refine lj (k8 ?_);show wpAny _ _ (standAt Z5.pos >>= _) _ _ s;exact lj (jq (lj (lg h (λit' s' h'=>k9 (And.intro rfl h')) λ_ _ x=>x))))
end
def CG (ww:mL)(wi:TI)(g:TG)(tt:TT)(te:TE)(Z8:m4)(σ:St)(H:Hp)(R:St->Hp->Prop):Prop:=wi σ H λJ H1=>∃ W:Nat->Nat->St->Hp->Prop,(∃ m,W 0 m σ H1)/\∀ i m σ H,W i m σ H ->
 (J.stop i H/\R σ H) ∨ (J.go i H/\∀ x H',J.yld i H x H'->g x σ H' λσ2 H2=>tt σ2 H2 λb H3 =>
  if b=true then te σ2 H3 λv H4=>∃ ys k,v=.int k/\H4 Z8=some (Kq.SetO ww Z8 ys)/\ys.length+1<scanBound/\∃ m',m'<m/\W (i+1) m' σ2 (oj H4 Z8 (Kq.SetO ww Z8 (Kq.addOne ys k))) else ∃ m',m'<m/\W (i+1) m' σ2 H3)
theorem FZ {Y:Cx}{Z3:Expr}{g1:jX}{tg Z5:Expr}{Z4:List Expr}{scope:mN}{pos:Pos}{wi:TI}{g:TG}{tt:TT}{te:TE}{Z8:m4}{c:m3}
  (hc:Y.calm=true)(hx:Y.xe=λ_ _=>False)(hi:PI Y tg Z5 wi)(hg:PG Y tg g)(ht:PTs Y Z4 tt)(he:PE Y Z3 te)(hs:∀ x,foldedSetIterable Z5 Y.env x=pure x)
  {Z9:List (m4×Obj)}{s:mD}{σ:St}{H:Hp}{R:St->Hp->Prop}(I:Inv Y Z9 σ H s)(h:CG Y.w wi g tt te Z8 σ H R) :
  wpAny (model Y.prog Y.w) Y.A (xm (.SetComp Z3 [g1,⟨tg,Z5,Z4,0⟩] scope pos) Z5 (.ref Z8) Y.env c) (λf s'=>f=.again c/\∃ σ' H',Inv Y Z9 σ' H' s'/\R σ' H') (λ_ _=>False) s:=by
 unfold xm
 have hi':=hi Z9 s σ H _ I h
 rw[hx] at hi'
 refine lj (nW hi' λv s1 h1=>lj (jq (lj (kK (hs v) ?_))))
 refine lj (ju (nW h1 λitv s2 h2=>lj (wpAny_runOwn ?_)))
 let(it,fp,tn,J,H2,e,I2,T,st2,f2,W,(m0,w0),turn):=h2
 subst e
 have stat:∀ {H':Hp},(∀ b∈fp,H' b=none)->∀ b∈fp,rM Y Z9 H' b:=λhn b hb=>⟨hn b hb,(f2 b hb).2⟩
 have loop:codeAny (model Y.prog Y.w) Y.A (.compLoop (.SetComp Z3 [g1,⟨tg,Z5,Z4,0⟩] scope pos) 1 (.ref it) (.ref Z8) Y.env) (λr s'=>match r with
   | .ok f=>wpAny (model Y.prog Y.w) Y.A (again c) (λf s'=>f=.again c/\∃ σ' H',Inv Y Z9 σ' H' s'/\R σ' H') (λ_ _=>False) s'
   | .error e=>cameBackBy (model Y.prog Y.w) Y.A Y.env (λ_ _=>False) e s') s2:=by
  refine tm (Cz ..) (λn s'=>∃ i σ' H',Inv Y Z9 σ' H' s'/\tn i s'.heap/\(∀ b∈fp,H' b=none)/\W i n σ' H') ?_ m0 ⟨0,σ,H2,I2,st2,λb hb=>(f2 b hb).1,w0⟩
  rintro n s3 ⟨i,σ3,H3,I3,st3,fr3,w3⟩
  rcases turn i n σ3 H3 w3 with⟨stop,qn⟩|⟨go,step⟩
  ·refine nW (T.done Y rfl rfl rfl hc i Z9 s3 σ3 H3 (λ_ _=>False) I3 (stat fr3) st3 stop) λr s4 q1=>?_;let(hr,I4):=q1
   subst hr
   exact k9 ⟨rfl,σ3,H3,I4,qn⟩
  ·refine nW (T.item Y rfl rfl rfl hc i Z9 s3 σ3 H3 (λ_ _=>False) I3 (stat fr3) st3 go) λr s4 q2=>?_;let(u,hr,h4):=q2
   subst hr
   refine nW h4 λ_ s5 q3=>?_;let(x,H5,I5,r5,y5,st5,fr5):=q3
   have I5':=I5.pinned (stat fr5) (T.obj _ _ st5)
   have pinK:∀ {σ':St}{H':Hp}{s':mD},Inv Y (Z9++rX fp s5.heap) σ' H' s'->tn (i+1) s'.heap/\∀ b∈fp,H' b=none:=λ{σ' H' s'} I' =>
    ⟨T.keep _ _ _ st5 λb hb o e=>(I'.pin (b,o) (ck _ (ck _ (oP hb e)))).1,λb hb=>by
     let(o,e,_):=T.obj _ _ st5 b hb
     exact (I'.pin (b,o) (ck _ (ck _ (oP hb e)))).2.1⟩
   have dg:=hg _ s5 _ H5 x u _ I5' r5 (step x H5 y5)
   rw[hx] at dg
   refine nW dg λ_ s6 q4=>?_;let(σ6,H6,I6,q6):=q4
   have dt:=ht _ s6 σ6 H6 _ I6 q6
   rw[hx] at dt
   refine nW dt λok s7 q5=>?_;let(H7,I7,q7):=q5
   cases ok with
   | true =>
    rw[if_pos rfl] at q7 ⊢
    have de:=he _ s7 σ6 H7 _ I7 q7
    rw[hx] at de
    unfold AZ
    refine lj (lj (nW de λy s8 ⟨v8,H8,I8,r8,ys,k,ev,hys,hz,m',hm,w8⟩=>lj (jq (lj ?_))))
    subst ev
    let(tk,rfl):=r8
    refine Co I8 hys hz λs9 I9=>k9 (k9 ?_)
    let(t9,f9):=pinK I9
    exact⟨rfl,m',hm,i+1,_,_,I9.unpinned,t9,f9,w8⟩
   | false =>
    rw[if_neg eB] at q7 ⊢
    let(m',hm,w7):=q7
    let(t7,f7):=pinK I7
    exact⟨m',hm,i+1,_,_,I7.unpinned,t7,f7,w7⟩
 exact Bv loop (T.self _ 0 _ _ _ st2 loop)
def EI (ww:mL)(wi:TI)(g:TG)(tt:TT)(wi2:TI)(g2:TG)(tt2:TT)(te:TE) (own:Nat):TE:=λσ H Q=>wi σ H λJ H1=>∀ Z8,H1 Z8=none->∃ W:Nat->Nat->Hp->Prop,(∃ m,W 0 m (oj H1 Z8 (Kq.SetO ww Z8 [])))/\∀ i m H,W i m H ->
 (J.stop i H/\Q (.ref Z8) H) ∨ (J.go i H/\∀ x H',J.yld i H x H'->g x (σ++jf own none) H' λσ2 H2=>Wk (σ++jf own none) σ2/\tt σ2 H2 λb H3 =>
  if b=true then CG ww wi2 g2 tt2 te Z8 σ2 H3 λσ3 H4=>Wk (σ++jf own none) σ3/\∃ m',m'<m/\W (i+1) m' H4 else ∃ m',m'<m/\W (i+1) m' H3)
section
variable {X:Cx}{Z3 tg Z5 tg2 iter2:Expr}{Z4 ifs2:List Expr}{scope:mN}{own:List Str}{pos:Pos}{wi wi2:TI}{g g2:TG}{tt tt2:TT}{te:TE}
theorem z0 {Z9:List (m4×Obj)}{σ:St}{H2:Hp}{s2:mD}{Q:VK}{it:m4}{fp:List m4}{tn:Nat->mY->Prop}{J:It}{RR:mM->m4->mE->mD->Prop}
  (hc:X.calm=true)(SC:CScope X scope own)
  (Z2:∀ C s H,PG (pH X scope own fp C s H) tg g/\PTs (pH X scope own fp C s H) Z4 tt/\(PI (pH X scope own fp C s H) tg2 iter2 wi2/\PG (pH X scope own fp C s H) tg2 g2/\PTs (pH X scope own fp C s H) ifs2 tt2/\PE (pH X scope own fp C s H) Z3 te/\∀ x,foldedSetIterable iter2 (pH X scope own fp C s H).env x=pure x))
  (I2:Inv X Z9 σ H2 s2)(T:Turn X.prog X.w X.K tg J fp it tn)(st2:tn 0 s2.heap)(f2:∀ b∈fp,rM X Z9 H2 b)
  (h:∀ Z8,H2 Z8=none->∃ W:Nat->Nat->Hp->Prop,(∃ m,W 0 m (oj H2 Z8 (Kq.SetO X.w Z8 [])))/\∀ i m H,W i m H ->
   (J.stop i H/\Q (.ref Z8) H) ∨ (J.go i H/\∀ x H',J.yld i H x H'->g x (σ++jf own.length none) H' λσ2 H2=>Wk (σ++jf own.length none) σ2/\tt σ2 H2 λb H3 =>
    if b=true then CG X.w wi2 g2 tt2 te Z8 σ2 H3 λσ3 H4=>Wk (σ++jf own.length none) σ3/\∃ m',m'<m/\W (i+1) m' H4 else ∃ m',m'<m/\W (i+1) m' H3))
  (hRR:∀ Z8 C H' m s',Inv X Z9 σ H' s'->s'.heap.Ns C m->C≠X.env.locals->(∀ x c,X.env.cells.lookup x=some c->c≠C)->s2.heap.objs.size<=C->H' C=none->Q (.ref Z8) H'->RR (.ref Z8) C (.ok .next) s'){E:mM->mD->Prop} :
  wpAny (model X.prog X.w) X.A (newSet (.type "set")) (λZ8 s3=>wpAny (model X.prog X.w) X.A (newFunctionEnv scope X.env.globals (qN X.env.cells scope.names []) [] X.env.qual none .none (some X.env)) (λcenv s4 =>
   codeAny (model X.prog X.w) X.A (.compStart (.SetComp Z3 [⟨tg,Z5,Z4,0⟩,⟨tg2,iter2,ifs2,0⟩] scope pos) 0 (.ref it) Z8 { cenv with scope:=relabel scope X.env }) (RR Z8 cenv.locals) s4) E s3) E s2:=by
 have hacc:=I2.fresh
 have I3:Inv X Z9 σ (oj H2 s2.heap.objs.size (Kq.SetO X.w s2.heap.objs.size [])) { s2 with heap:=s2.heap.push (Kq.freshSet X.w),toks:=s2.toks }:=I2.laid (a:=s2.heap.objs.size) (o:=Kq.SetO X.w s2.heap.objs.size []) (t':=s2.toks) (λ_ _ q=>bR _ q) (kT _) ⟨Kq.SetN.none (dj _ rfl),⟨_,dj _ rfl⟩,λh1 h2 y kk=>y.keep kk⟩
 refine Dx ?_
 let(W,(m0,w0),turn):=h _ hacc
 generalize hs3:({ s2 with heap:=s2.heap.push (Kq.freshSet X.w),toks:=s2.toks }:mD)=s3 at I3
 have keep23:∀ b o,s2.heap.get? b=some o->s3.heap.get? b=some o:=λb o e=>by rw[<- hs3];exact bR _ e
 have hf3:∀ b∈fp,rM X Z9 (oj H2 s2.heap.objs.size (Kq.SetO X.w s2.heap.objs.size [])) b:=λb hb=>by
  let(o,ho,_):=T.obj _ _ st2 b hb
  exact⟨by rw[nv (kq (kH ho))];exact (f2 b hb).1,(f2 b hb).2⟩
 have st3:tn 0 s3.heap:=T.keep _ _ _ st2 λb hb o e=>keep23 b o e
 refine sE λh4 hns' keep34 ok34=>?_
 have I4:=yq (t4:=s3.toks+([]:List (Str×mM)).length) I3 SC hc hf3 (λb hb=>by let(o,ho,_):=T.obj _ _ st3 b hb;exact⟨o,ho⟩) hns' keep34 ok34
 have st4:tn 0 h4:=T.keep _ _ _ st3 λb hb o e=>keep34 b o e
 let(hg,ht,he):=Z2 s3.heap.objs.size s3 (oj H2 s2.heap.objs.size (Kq.SetO X.w s2.heap.objs.size []))
 have e5:(pH X scope own fp s3.heap.objs.size s3 (oj H2 s2.heap.objs.size (Kq.SetO X.w s2.heap.objs.size []))).env=compEnvC scope (cellsFrom (s3.heap.objs.size+1) scope.names (qN X.env.cells scope.names [])) s3.heap.objs.size X.env:=rfl
 generalize hY:pH X scope own fp s3.heap.objs.size s3 (oj H2 s2.heap.objs.size (Kq.SetO X.w s2.heap.objs.size []))=Y at hg ht he I4 e5
 have fpY:∀ {H':Hp},(∀ b∈fp,H' b=none)->∀ b∈fp,rM Y [] H' b:=λhn b hb=>by
  let(o,ho,_):=T.obj _ _ st3 b hb
  refine⟨hn b hb,?_,?_,?_,?_,?_⟩
  ·rw[<- hY];exact kq (kH ho)
  ·have:=I4.ok.exfs b (by rw[<- hY];exact hb)
   exact this
  ·exact .inl (by rw[<- hY];exact hb)
  ·exact λx c h=>(I4.ok.exf b (by rw[<- hY];exact hb)).2 x c h
  ·intro p hp;rw[<- hY] at hp;exact absurd (show p∈([]:List (m4×Obj)) from hp) (by simp)
 have hYp:Y.prog=X.prog/\Y.w=X.w/\Y.K=X.K/\Y.calm=true/\Y.A=X.A/\Y.xe=(λ_ _=>False)/\Y.s₀=s3/\Y.H₀=oj H2 s2.heap.objs.size (Kq.SetO X.w s2.heap.objs.size [])/\Y.outer=X.stack/\Y.ex=fp:=by rw[<- hY];exact⟨rfl,rfl,rfl,hc,rfl,rfl,rfl,rfl,rfl,rfl⟩
 let(y1,y2,y3,y4,y5,y6,y7,y8,y9,y10):=hYp
 have loop:∀ s5:mD,s5 = { s3 with heap:=h4,toks:=s3.toks+([]:List (Str×mM)).length } ->
   codeAny (model X.prog X.w) X.A (.compLoop (.SetComp Z3 [⟨tg,Z5,Z4,0⟩,⟨tg2,iter2,ifs2,0⟩] scope pos) 0 (.ref it) (.ref s2.heap.objs.size) Y.env) (RR (.ref s2.heap.objs.size) s3.heap.objs.size) s5:=by
  rintro s5 rfl
  refine tm (Bs ..) (λn s'=>∃ i H',Inv Y [] (σ++jf own.length none) H' s'/\tn i s'.heap/\(∀ b∈fp,H' b=none)/\W i n H') ?_ m0 ⟨0,_,I4,st4,λb hb=>(hf3 b hb).1,w0⟩
  rintro n s6 ⟨i,H6,I6,st6,fr6,w6⟩
  rcases turn i n H6 w6 with⟨stop,q⟩|⟨go,step⟩
  ·have d:=T.done Y y1 y2 y3 y4 i [] s6 _ H6 (λ_ _=>False) I6 (fpY fr6) st6 stop
   rw[y5] at d
   refine nW d λr s7 q1=>?_;let(hr,I7):=q1
   subst hr
   let(m,hn,_):=I7.loc
   have hL:Y.env.locals=s3.heap.objs.size:=by rw[e5];rfl
   rw[hL] at hn
   have b7:=I7.base
   rw[y7,y8,y10] at b7
   have b7':Un (xG X.stack) fp (oj H2 s2.heap.objs.size (Kq.SetO X.w s2.heap.objs.size [])) H6 s3.heap s7.heap:=by
    have z:Y.fs=xG X.stack:=by show xG Y.outer=_;rw[y9]
    rw[z] at b7
    exact b7
   have hok7:=I7.hok
   rw[y1,y2] at hok7
   have os7:=I7.os
   rw[y7] at os7
   have I8:Inv X Z9 σ H6 s7:=I3.call' os7 b7' hok7 I7.bare λb hb=>⟨(hf3 b hb).2.2.2.1,(hf3 b hb).2.1,(hf3 b hb).2.2.2.2.1,(hf3 b hb).2.2.2.2.2⟩
   have hfree:=I7.free
   rw[hL] at hfree
   refine hRR _ _ H6 m s7 I8 hn (ku I3.lt) (λx c h z=>?_) ?_ hfree q
   ·let(v,y):=I3.cell x c h
    exact absurd y.lt (by rw[z];exact jK _)
   ·rw[<- hs3,jn];exact kS _
  ·have d:=T.item Y y1 y2 y3 y4 i [] s6 _ H6 (λ_ _=>False) I6 (fpY fr6) st6 go
   rw[y5] at d
   refine nW d λr s7 q2=>?_;let(u,hr,h7):=q2
   subst hr
   refine nW h7 λ_ s8 q3=>?_;let(x,H8,I8,r8,y8',st8,fr8):=q3
   have I8':=I8.pinned (fpY fr8) (T.obj _ _ st8)
   have pinK:∀ {σ':St}{H':Hp}{s':mD},Inv Y ([]++rX fp s8.heap) σ' H' s'->tn (i+1) s'.heap/\∀ b∈fp,H' b=none:=λ{σ' H' s'} I' =>
    ⟨T.keep _ _ _ st8 λb hb o e=>(I'.pin (b,o) (ck _ (ck _ (oP hb e)))).1,λb hb=>by
     let(o,e,_):=T.obj _ _ st8 b hb
     exact (I'.pin (b,o) (ck _ (ck _ (oP hb e)))).2.1⟩
   have dg:=hg _ s8 _ H8 x u _ I8' r8 (step x H8 y8')
   rw[y1,y2,y5,y6] at dg
   refine nW dg λ_ s9 q4=>?_;let(σ9,H9,I9,wk,q9):=q4
   have dt:=ht _ s9 σ9 H9 _ I9 q9
   rw[y1,y2,y5,y6] at dt
   refine nW dt λok s10 q5=>?_;let(H10,I10,q10):=q5
   cases ok with
   | true =>
    rw[if_pos rfl] at q10 ⊢
    let(hi2,hg2,ht2,he2,hs2):=he
    rw[<- y2] at q10
    have de:=FZ (c:=.compLoop (.SetComp Z3 [⟨tg,Z5,Z4,0⟩,⟨tg2,iter2,ifs2,0⟩] scope pos) 0 (.ref it) (.ref s2.heap.objs.size) Y.env) (g1:=⟨tg,Z5,Z4,0⟩) (scope:=scope) (pos:=pos) y4 y6 hi2 hg2 ht2 he2 hs2 I10 q10
    rw[y1,y2,y5] at de
    refine nW de λ_ s12 ⟨e12,σ12,H12,I12,wk2,m',hm,w11⟩=>⟨e12,?_⟩
    let(t12,f12):=pinK I12
    exact⟨m',hm,i+1,_,(I12.unpinned).weak wk2.1.symm wk2.2,t12,f12,w11⟩
   | false =>
    rw[if_neg eB] at q10 ⊢
    let(m',hm,w10):=q10
    let(t10,f10):=pinK I10
    exact⟨m',hm,i+1,_,(I10.unpinned).weak wk.1.symm wk.2,t10,f10,w10⟩
 rw[e5] at loop
 exact zf (loop _ rfl) (T.self _ 0 _ _ _ st4 (loop _ rfl))
theorem BK (hc:X.calm=true)(SC:CScope X scope own)(hi:PI X.nox tg Z5 wi)
  (Z2:∀ fp C s H,PG (pH X scope own fp C s H) tg g/\PTs (pH X scope own fp C s H) Z4 tt/\(PI (pH X scope own fp C s H) tg2 iter2 wi2/\PG (pH X scope own fp C s H) tg2 g2/\PTs (pH X scope own fp C s H) ifs2 tt2/\PE (pH X scope own fp C s H) Z3 te/\∀ x,foldedSetIterable iter2 (pH X scope own fp C s H).env x=pure x))
  (hs:∀ x,foldedSetIterable Z5 X.env x=pure x:=by intro _;rfl) :
  PE X.nox (.SetComp Z3 [⟨tg,Z5,Z4,0⟩,⟨tg2,iter2,ifs2,0⟩] scope pos) (EI X.w wi g tt wi2 g2 tt2 te own.length):=by
 intro Z9 s σ H Q I h
 have fr:∀ p∈scope.names,p.2=.free->∃ c,X.env.cells.lookup p.1=some c:=λp hp hq=>I.ok.has p.1 (SC.free p hp hq)
 rw[arm_eval_SetComp]
 refine aU (use:=none) rfl hs (sg fr) SC.kind SC.names (nW (hi Z9 s σ H _ I h) λv s1 h1=>nW h1 λitv s2 h2=>?_)
 let(it,fp,tn,J,H2,e,I2,T,st2,f2,h2):=h2
 subst e
 refine z0 (X:=X.nox) (own:=own) (RR:=λZ8 C=>compPost (model X.prog X.w) X.A (λ_ _=>False) none (EP X.nox Z9 σ Q) Z8 C) hc ⟨SC.kind,SC.nocell,SC.names,SC.free,SC.apart,SC.hid⟩ (λC s H=>Z2 fp C s H) I2 T st2 f2 h2 ?_
 intro Z8 C H' m s' I' hn hL hcl hC hH q
 let(f0,f1,f2',f3,f4,f5):=I2.fpOk hC hH
 refine⟨m,hn,λh' hsb=>⟨.ref Z8,H',?_,rfl,q⟩⟩
 exact I'.turned (t':=s'.toks) (λb o hb e=>(hsb.2 b hb).trans e) f0 f1 f3 f4 f5
end
end L2
namespace Kq
open PySem PySem.Spec PyProof.Rows L2
def ID (tg:Tg)(t:BW)(e:EW):List FV->List Int->m7->(List Int->m7->Prop)->Prop
 | [],Z8,L,Q=>Q Z8 L
 | y :: r,Z8,L,Q=>gW tg y L λL1=>t L1 λb L2=>if b=true then e L2 λv L3=>wp (o9 v) λk=>ID tg t e r (Z8++[k]) L3 Q else ID tg t e r Z8 L2 Q
def rm (n m:Nat)(tg:Tg)(t:BW)(it2:AW)(tg2:Tg)(t2:BW)(e:EW):List FV->List Int->m7->(List Int->m7->Prop)->Prop
 | [],Z8,L,Q=>Q Z8 L
 | x :: xs,Z8,L,Q=>gW tg x (L++jf m none) λL1=>t L1 λb L2=>if b=true then it2 L2 λys L3=>Z8.length+ys.length<=4000/\ID tg2 t2 e ys Z8 L3 λacc' L4=>rm n m tg t it2 tg2 t2 e xs acc' (L4.take n) Q else rm n m tg t it2 tg2 t2 e xs Z8 (L2.take n) Q
def xp (n m:Nat)(it:AW)(tg:Tg)(t:BW)(it2:AW)(tg2:Tg)(t2:BW)(e:EW):EW:=λL Q=>it L λxs L1=>L1.length=n/\rm n m tg t it2 tg2 t2 e xs [] L1 λns L2=>ns.length<=4000/\∀ ms:List Int,(∀ x,x∈ms↔x∈ns)->ms.Pairwise (· < ·)->Q (.lst (ms.map .int)) L2
@[scoped simp ↓] theorem Js (n m:Nat)(it:AW)(tg:Tg)(t:BW)(it2:AW)(tg2:Tg)(t2:BW)(e:EW)(L:m7)(Q:FV->m7->Prop):xp n m it tg t it2 tg2 t2 e L Q=(it L λxs L1=>L1.length=n/\rm n m tg t it2 tg2 t2 e xs [] L1 λns L2=>ns.length<=4000/\∀ ms:List Int,(∀ x,x∈ms↔x∈ns)->ms.Pairwise (· < ·)->Q (.lst (ms.map .int)) L2):=propext mx
section
variable {X:Cx}{C:CC}{n:Nat}{sp:kj->Nat->Sp}{a b tg:Expr}{ea eb:EW}{pos p:Pos}
theorem LW (G:Good X C n sp)(hg:C.gl (ke "range")=true)(hs:nC a=false)(hs2:nC b=false)(ha:FE X C a ea)(hb:FE X C b eb):FIv X C tg (.Call (.Name (ke "range") p) [a,b] [] pos) (iRng2 ea eb) :=
 PI.imp (vM (G.gl hg) (G.blt "range" (by decide)) (nE ha (nE hb oM (m8 hs2)) (m8 hs)) (by rw[m8 hs,m8 hs2];rfl) (m8 hs2)) λσ H R q1=>by let(c,L,S,Q0,I,h,k):=q1;exact
 ⟨c,L,S,_,I,h,λv L1 hv x S1 H1 r1 I1 s1=>⟨c,L1,S1,_,I1,hv,λw L2 hw y S2 H2 r2 I2 s2=>by
  let(j,e,hw):=oE hw
  let(j',e',hb,q):=oE hw
  cases nN e;cases nN e'
  have hb:=b2 hb
  have h1:=de hb.1
  have h2:=de hb.2
  exact⟨j,j',by rw[show x=.int j from r1,show y=.int j' from r2],⟨h1.1,h1.2,h2.1,h2.2⟩,k _ L2 q _ S2 H2 I2 (λ_ _=>zH) (s1.trans s2)⟩⟩⟩
end
section
variable {K:kj}{c:Cn}{md:Md}{L:m7}{σ:L2.St}{S H:Hp}
theorem FY {ww:mL}{n:Nat}{it2:AW}{tg:Tg}{t:BW}{e:EW}{Z8:m4}{ps:List Int}{Q1:List Int->m7->Prop}{R:L2.St->Hp->Prop}(I:Iv K { c with pr:=(Z8,SetO ww Z8 (ps.foldl addOne [])) :: c.pr } md L σ S H)
  (h0:c.H0 Z8=none)(hp:∀ p∈c.pr,p.1≠Z8)(hz:∀ p∈c.fz,∃ o,(p.2,o)∈c.pr)(ht:pE md tg=true)(hg:rN n tg=true)
  (hh:it2 L λys L1=>ps.length+ys.length<=4000/\ID tg t e ys ps L1 Q1)
  (k:∀ ps' L' σ' S' H',Q1 ps' L'->Iv K { c with pr:=(Z8,SetO ww Z8 (ps'.foldl addOne [])) :: c.pr } md L' σ' S' H'->Same S S'->σ'.length=σ.length->(∀ q,q<n->σ'[q]?=σ[q]?)->R σ' H') :
  CG ww (liv K md it2) (gT K tg) (lb K md t) (lv K md e) Z8 σ H R:=by
 refine⟨_,L,S,_,I,hh,λys L1 hx J S1 H1 I1 hJ s1=>?_⟩
 let(hb,hc):=hx
 let W:Nat->Nat->L2.St->Hp->Prop:=λi j σ' H'=>∃ L' S' ps',j=(ys.drop i).length/\Iv K { c with pr:=(Z8,SetO ww Z8 (ps'.foldl addOne [])) :: c.pr } md L' σ' S' H'/\Same S1 S'/\σ'.length=σ.length/\(∀ q,q<n->σ'[q]?=σ[q]?)/\ps'.length<=ps.length+i/\ID tg t e (ys.drop i) ps' L' Q1
 refine⟨W,⟨_,L1,S1,ps,rfl,I1,Same.refl _,rfl,λ_ _=>rfl,kT _,by rw[jk];exact hc⟩,?_⟩
 rintro i j σ' H' ⟨L',S',ps',rfl,I',s',hl,far0,hps,hc⟩
 let(j1,j2):=hJ _ _ i L' σ' S' H' I' s'
 cases hd:ys.drop i with
 | nil =>
  left
  rw[hd] at hc
  exact⟨j1 (aO.mpr (cP.mp hd)),k ps' L' σ' S' H' hc I' (s1.trans s') hl far0⟩
 | cons p rest =>
  right
  rw[hd] at hc
  have hi:ys[i]?=some p:=by
   have:=congrArg (·[0]?) hd
   simpa using this
  have hd':ys.drop (i+1)=rest:=by
   have:=congrArg lO hd
   simpa[je] using this
  have hix:i<ys.length:=(aN.mp hi).1
  let(go,yl):=j2 p hi
  refine⟨go,λx H2 y=>?_⟩
  let(S2,s2,tr,rx):=yl x H2 y
  have I2:=tr _ _ _ _ I'
  let(σ2,L2,gq,q2,I2,len2,far):=uS ht I2 rx hc
  refine gq _ ?_
  refine⟨_,L2,S2,_,I2,q2,λb L3 hb3 S3 H3 I3 s3=>?_⟩
  cases b with
  | false =>
   rw[if_neg eB] at hb3 ⊢
   exact⟨rest.length,by simp,L3,S3,ps',by rw[hd'],I3,s'.trans (s2.trans s3),len2.trans hl,λq hq=>(far n hg q hq).trans (far0 q hq),by lia,by rw[hd'];exact hb3⟩
  | true =>
   rw[if_pos rfl] at hb3 ⊢
   refine⟨_,L3,S3,_,I3,hb3,λv L4 hv u S4 H4 r4 I4 s4=>?_⟩
   let(k1,_):=I4.prs (Z8,SetO ww Z8 (ps'.foldl addOne [])) dX
   let(kk,ek,hv):=oE hv
   cases nN ek
   have fl:=uW ps' []
   simp at fl
   have e5:(ps'++[kk]).foldl addOne []=addOne (ps'.foldl addOne []) kk:=by rw[List.foldl_append];rfl
   refine⟨ps'.foldl addOne [],kk,r4,k1,by unfold scanBound;lia,rest.length,by simp,L4,S4,ps'++[kk],by rw[hd'],?_,s'.trans (s2.trans (s3.trans s4)),len2.trans hl,λq hq=>(far n hg q hq).trans (far0 q hq),by simp;lia,by rw[hd'];exact hv⟩
   rw[e5]
   exact I4.regrow h0 hp hz
theorem zZ {ww:mL}{J:It}{xs:List FV}{n m:Nat}{tg:Tg}{t:BW}{it2:AW}{tg2:Tg}{t2:BW}{e:EW}{Q:VK}{Q1:List Int->m7->Prop}(I:Iv K c md L σ S H)(hJ:Cq K c md J xs S)(hL:L.length=n)(hmd:md.length<=n)(ht:pE md tg=true)(hg:rN n tg=true)(ht2:pE md tg2=true)(hg2:rN n tg2=true)(h:rm n m tg t it2 tg2 t2 e xs [] L Q1)
  (k:∀ Z8 ps L' S' H',H Z8=none->Q1 ps L'->H' Z8=some (SetO ww Z8 (ps.foldl addOne []))->Iv K c md L' σ S' H'->Same S S'->Q (.ref Z8) H') :
  ∀ Z8,H Z8=none->∃ W:Nat->Nat->Hp->Prop,(∃ m,W 0 m (oj H Z8 (SetO ww Z8 [])))/\∀ i j H,W i j H ->
   (J.stop i H/\Q (.ref Z8) H) ∨ (J.go i H/\∀ x H',J.yld i H x H'->gT K tg x (σ++jf m none) H' λσ2 H2=>Wk (σ++jf m none) σ2/\lb K md t σ2 H2 λb H3 =>
    if b=true then CG ww (liv K md it2) (gT K tg2) (lb K md t2) (lv K md e) Z8 σ2 H3 λσ3 H4=>Wk (σ++jf m none) σ3/\∃ m',m'<j/\W (i+1) m' H4 else ∃ m',m'<j/\W (i+1) m' H3):=by
 intro Z8 hacc
 have h0:=I.h0 hacc
 have hp:∀ p∈c.pr,p.1≠Z8:=(I.fresh hacc).2.1
 have hz:=I.fzp
 have hl:σ.length=n:=by rw[<- I.len];exact hL
 let W:Nat->Nat->Hp->Prop:=λi j H1=>∃ L S1 ps,j=(xs.drop i).length/\Iv K { c with pr:=(Z8,SetO ww Z8 (ps.foldl addOne [])) :: c.pr } md L σ S1 H1/\Same S S1/\L.length=n/\rm n m tg t it2 tg2 t2 e (xs.drop i) ps L Q1
 have I1:Iv K { c with pr:=(Z8,SetO ww Z8 []) :: c.pr } md L σ S (oj H Z8 (SetO ww Z8 [])):=(I.lay hacc _).prot nD (I.sn hacc) λj w hm hj=>(I.fresh hacc).2.2 j w (Mo.w_imm hm) hj
 refine⟨W,⟨_,L,S,[],rfl,I1,Same.refl S,hL,by rw[jk];exact h⟩,?_⟩
 rintro i j H1 ⟨L,S1,ps,rfl,I,s,hL,hc⟩
 have I0:=I.unprot hz
 let(j1,j2):=hJ i L σ S1 H1 I0 s
 let(g1,g2,g3):=I.prs (Z8,SetO ww Z8 (ps.foldl addOne [])) dX
 cases hd:xs.drop i with
 | nil =>
  left
  rw[hd] at hc
  refine⟨j1 (aO.mpr (cP.mp hd)),k Z8 ps L S1 H1 hacc hc g1 I0 s⟩
 | cons p rest =>
  right
  rw[hd] at hc
  have hi:xs[i]?=some p:=by
   have:=congrArg (·[0]?) hd
   simpa using this
  have hd':xs.drop (i+1)=rest:=by
   have:=congrArg lO hd
   simpa[je] using this
  have hix:i<xs.length:=(aN.mp hi).1
  let(go,yl):=j2 p hi
  refine⟨go,λx H2 y=>?_⟩
  let(S2,s2,tr,rx):=yl x H2 y
  have I2:=(tr _ _ _ _ I).more m
  let(σ2,L2,gq,q2,I2,len2,far):=uS ht I2 rx hc
  have l2:n<=σ2.length:=by rw[len2,dY,hl];lia
  have far':∀ q,q<n->σ2[q]?=σ[q]?:=λq hq=>by rw[far n hg q hq,aP (by rw[hl];exact hq)]
  have wk:∀ {σ3:List (Option V)},σ3.length=(σ++jf m none).length->(∀ q,q<n->σ3[q]?=σ[q]?)->Wk (σ++jf m none) σ3:=λ{σ3} hl3 f3=>⟨hl3,λq v hv=>by
   have hq:q<n:=by
    by_cases h:q<σ.length
    ·rw[<- hl];exact h
    ·rw[aB ⋯,bu] at hv
     split at hv<;>cases hv
   rw[aP (by rw[hl];exact hq)] at hv
   rw[f3 q hq];exact hv⟩
  refine gq _ ⟨wk len2 far',?_⟩
  refine⟨_,L2,S2,_,I2,q2,λb L3 hb3 S3 H3 I3 s3=>?_⟩
  cases b with
  | false =>
   rw[if_neg eB] at hb3 ⊢
   exact⟨rest.length,by simp,L3.take n,S3,ps,by rw[hd'],I3.take hmd hl l2 far',s.trans (s2.trans s3),by rw[gk,I3.len];lia,by rw[hd'];exact hb3⟩
  | true =>
   rw[if_pos rfl] at hb3 ⊢
   refine FY (n:=n) I3 h0 hp hz ht2 hg2 hb3 λps' L' σ' S' H' q' I' s' hl' f'=>?_
   have f'':∀ q,q<n->σ'[q]?=σ[q]?:=λq hq=>(f' q hq).trans (far' q hq)
   exact⟨wk (hl'.trans len2) f'',rest.length,by simp,L'.take n,S',ps',by rw[hd'],I'.take hmd hl (by rw[hl'];exact l2) f'',s.trans (s2.trans (s3.trans s')),by rw[gk,I'.len,hl'];lia,by rw[hd'];exact q'⟩
end
section
variable {X:Cx}{C:CC}{n:Nat}{sp:kj->Nat->Sp}{pos pos' p:Pos}
variable {scope:mN}{own:List Str}{Z3 ZY Z5 tgx2 iter2:Expr}{Z4 ifs2:List Expr}{it it2:AW}{tg tg2:Tg}{t t2:BW}{e:EW}{nn m:Nat}{md':Md}
theorem B4 (G:Good X C n sp)(hg:C.gl (ke "sorted")=true)(h:CompOk2 X C n sp scope own Z3 ZY Z5 Z4 tgx2 iter2 ifs2 nn m md' it tg t it2 tg2 t2 e):FE X C (.Call (.Name (ke "sorted") p) [.SetComp Z3 [⟨ZY,Z5,Z4,0⟩,⟨tgx2,iter2,ifs2,0⟩] scope pos'] [] pos) (xp nn m it tg t it2 tg2 t2 e):=by
 let(s1,s2,s3):=h.blk G
 refine PE.imp (qU (Gz (X:=X.nox) G.calm (m:=100000) (by decide) (CO _ _)) (G.gl hg) (G.blt "sorted" (by decide)) (by nofun) (nE (BK (pos:=pos') G.calm s1 h.it s2 s3) oM (m8 rfl)) (by nofun) (by nofun) (m8 rfl) rfl) λσ H Q q1=>?_;let(c,L,S,Q0,I,hh,k):=q1
 have h0:=b2 h.st;have h1:=b2 h0.1;have h2:=b2 h1.1;have h3:=b2 h2.1;have h4:=b2 h3.1;have h5:=b2 h4.1;have h6:=b2 h5.1
 have g0:=b2 h.st2;have g1:=b2 g0.1
 refine⟨c,L,S,_,I,hh,λxs L1 hx J c' S1 H1 I1 un e0 hJ s1'=>?_⟩
 let(hl,hc):=hx
 rw[de h5.2]
 refine zZ (ww:=X.w) (Q:=λv H=>rSortS X.nox 100000 [v] H Q) I1 hJ hl (de h4.2) h2.2 h1.2 g1.1 g1.2 hc λZ8 ps L' S' H' hn q ho I' s'=>?_
 let(q1,q):=q
 have fl:=uW ps []
 simp at fl
 have I2:=un _ _ _ _ I'
 refine⟨Z8,ps.foldl addOne [],rfl,ho,by lia,λp2 ms hp2 pm po=>?_⟩
 refine k _ L' (q ms (λx=>?_) (Bu po (pm.nodup_iff.mpr (uV ps [] jg)))) _ _ _ ⟨p2,_,rfl,nD,RVs.ns ms⟩ (I2.new hp2 _) ((s1'.trans s').trans (nX (I2.sn hp2)))
 rw[pm.mem_iff,yA];simp
end
theorem AJ {α:Type}{tg:Tg}{e:EW}{f:α->FV}{g:α->Int}{Q:List Int->m7->Prop}{P:m7->Prop}:∀ (ys:List α)(Z8:List Int)(L:m7),P L->(∀ y∈ys,∀ (L:m7)(K:FV->m7->Prop),P L->(∀ L',P L'->K (.int (g y)) L')->gW tg (f y) L λL1=>e L1 K)->(∀ L',P L'->Q (Z8++ys.map g) L')->ID tg nR e (ys.map f) Z8 L Q
 | [],Z8,L,hL,_,E=>by
  have:=E L hL
  rw[kF,iE] at this
  exact this
 | y :: ys,Z8,L,hL,B,E=>B y dX L _ hL λL' hL'=>AJ ys (Z8++[g y]) L' hL' (λz hz=>B z (cM _ hz)) (by simpa using E)
theorem u6 {α:Type}{n m:Nat}{tg tg2:Tg}{it2:AW}{e:EW}{f:α->FV}{g:α->List Int}{Q:List Int->m7->Prop}{L:m7}:∀ (xs:List α)(Z8:List Int),
  (∀ x∈xs,∀ (Z8:List Int)(K:List Int->m7->Prop),Z8.length<=31*31->K (Z8++g x) L->gW tg (f x) (L++jf m none) λL1=>it2 L1 λys L3=>Z8.length+ys.length<=4000/\ID tg2 nR e ys Z8 L3 λacc' L4=>K acc' (L4.take n))->(∀ x∈xs,(g x).length<=31)->Z8.length+31*xs.length<=31*31->Q (Z8++xs.flatMap g) L->rm n m tg nR it2 tg2 nR e (xs.map f) Z8 L Q
 | [],Z8,_,_,_,E=>by
  rw[List.flatMap_nil,iE] at E
  exact E
 | x :: xs,Z8,B,hg,hl,E=>by
  have h1:=hg x dX
  simp at hl
  exact B x dX Z8 (λacc' L'=>rm n m tg nR it2 tg2 nR e (xs.map f) acc' L' Q) ⋯ (u6 xs (Z8++g x) (λy hy=>B y (cM _ hy)) (λy hy=>hg y (cM _ hy)) (by simp;lia) (by simpa using E))
end Kq
namespace Kq
@[scoped simp ↓ high] theorem lk_1 (a0:Option FV)(v:FV)(L:m7)(Q:FV->Prop):wp (lk (a0 :: some v :: L) 1) Q=Q v:=propext mx
@[scoped simp ↓ high] theorem lk_2 (a0 a1:Option FV)(v:FV)(L:m7)(Q:FV->Prop):wp (lk (a0 :: a1 :: some v :: L) 2) Q=Q v:=propext mx
@[scoped simp ↓ high] theorem lk_3 (a0 a1 a2:Option FV)(v:FV)(L:m7)(Q:FV->Prop):wp (lk (a0 :: a1 :: a2 :: some v :: L) 3) Q=Q v:=propext mx
@[scoped simp ↓ high] theorem lk_4 (a0 a1 a2 a3:Option FV)(v:FV)(L:m7)(Q:FV->Prop):wp (lk (a0 :: a1 :: a2 :: a3 :: some v :: L) 4) Q=Q v:=propext mx
@[scoped simp ↓ high] theorem lk_5 (a0 a1 a2 a3 a4:Option FV)(v:FV)(L:m7)(Q:FV->Prop):wp (lk (a0 :: a1 :: a2 :: a3 :: a4 :: some v :: L) 5) Q=Q v:=propext mx
@[scoped simp ↓ high] theorem lk_6 (a0 a1 a2 a3 a4 a5:Option FV)(v:FV)(L:m7)(Q:FV->Prop):wp (lk (a0 :: a1 :: a2 :: a3 :: a4 :: a5 :: some v :: L) 6) Q=Q v:=propext mx
@[scoped simp ↓ high] theorem lk_7 (a0 a1 a2 a3 a4 a5 a6:Option FV)(v:FV)(L:m7)(Q:FV->Prop):wp (lk (a0 :: a1 :: a2 :: a3 :: a4 :: a5 :: a6 :: some v :: L) 7) Q=Q v:=propext mx
@[scoped simp ↓ high] theorem lk_8 (a0 a1 a2 a3 a4 a5 a6 a7:Option FV)(v:FV)(L:m7)(Q:FV->Prop):wp (lk (a0 :: a1 :: a2 :: a3 :: a4 :: a5 :: a6 :: a7 :: some v :: L) 8) Q=Q v:=propext mx
@[scoped simp ↓ high] theorem lk_9 (a0 a1 a2 a3 a4 a5 a6 a7 a8:Option FV)(v:FV)(L:m7)(Q:FV->Prop):wp (lk (a0 :: a1 :: a2 :: a3 :: a4 :: a5 :: a6 :: a7 :: a8 :: some v :: L) 9) Q=Q v:=propext mx
@[scoped simp ↓ high] theorem lk_10 (a0 a1 a2 a3 a4 a5 a6 a7 a8 a9:Option FV)(v:FV)(L:m7)(Q:FV->Prop):wp (lk (a0 :: a1 :: a2 :: a3 :: a4 :: a5 :: a6 :: a7 :: a8 :: a9 :: some v :: L) 10) Q=Q v:=propext mx
@[scoped simp ↓ high] theorem lk_11 (a0 a1 a2 a3 a4 a5 a6 a7 a8 a9 a10:Option FV)(v:FV)(L:m7)(Q:FV->Prop):wp (lk (a0 :: a1 :: a2 :: a3 :: a4 :: a5 :: a6 :: a7 :: a8 :: a9 :: a10 :: some v :: L) 11) Q=Q v:=propext mx
@[scoped simp ↓ high] theorem lk_12 (a0 a1 a2 a3 a4 a5 a6 a7 a8 a9 a10 a11:Option FV)(v:FV)(L:m7)(Q:FV->Prop):wp (lk (a0 :: a1 :: a2 :: a3 :: a4 :: a5 :: a6 :: a7 :: a8 :: a9 :: a10 :: a11 :: some v :: L) 12) Q=Q v:=propext mx
@[scoped simp ↓ high] theorem lk_13 (a0 a1 a2 a3 a4 a5 a6 a7 a8 a9 a10 a11 a12:Option FV)(v:FV)(L:m7)(Q:FV->Prop):wp (lk (a0 :: a1 :: a2 :: a3 :: a4 :: a5 :: a6 :: a7 :: a8 :: a9 :: a10 :: a11 :: a12 :: some v :: L) 13) Q=Q v:=propext mx
@[scoped simp ↓ high] theorem lk_14 (a0 a1 a2 a3 a4 a5 a6 a7 a8 a9 a10 a11 a12 a13:Option FV)(v:FV)(L:m7)(Q:FV->Prop):wp (lk (a0 :: a1 :: a2 :: a3 :: a4 :: a5 :: a6 :: a7 :: a8 :: a9 :: a10 :: a11 :: a12 :: a13 :: some v :: L) 14) Q=Q v:=propext mx
end Kq
namespace Kq
open PySem PySem.Spec PyProof.Rows L2
def uo:SW:=λ_ _=>False
@[scoped simp ↓] theorem MW (L:m7)(Q:FFl->m7->Prop):uo L Q=False:=rfl
section
variable {X:Cx}{C:CC}{fr:Bool}
theorem O3 {st:mX}:FS X C fr st uo:=λZ9 s σ H D I q1=>by let(c,L,S,Q0,_,h,_):=q1;exact h.elim
end
end Kq
namespace Kq
open PySem PySem.Spec PyProof.Rows L2
def ET (a b:SW):SW:=λL Q=>a L Q ∨ b L Q
def Hy (j:Nat)(r:SW):SW:=λL Q=>r (L.set j none) λfl L'=>Q fl (L'.set j none)
theorem HA {a b:SW}{L:m7}{Q:FFl->m7->Prop}(h:a L Q):ET a b L Q:=.inl h
theorem Hz {a b:SW}{L:m7}{Q:FFl->m7->Prop}(h:b L Q):ET a b L Q:=.inr h
@[scoped simp ↓] theorem MX (j:Nat)(r:SW)(L:m7)(Q:FFl->m7->Prop):Hy j r L Q=r (L.set j none) λfl L'=>Q fl (L'.set j none):=propext mx
section
variable {X:Cx}{C:CC}{n:Nat}{sp:kj->Nat->Sp}{fr:Bool}{sts:List mX}{r s:SW}{md':Md}{j:Nat}
theorem O4 (h:wA X C fr sts r)(g:wA X C fr sts s):wA X C fr sts (ET r s):=by
 rintro Z9 σ0 σ H D I ⟨c,L,S,Q0,I1,hh,k⟩
 rcases hh with hh|hh
 ·exact h Z9 σ0 σ H D I ⟨c,L,S,Q0,I1,hh,k⟩
 ·exact g Z9 σ0 σ H D I ⟨c,L,S,Q0,I1,hh,k⟩
theorem II (G:Good X C n sp)(h:AS C.md md' j=true)(hr:Good X (C.wmd md') n sp->wA X (C.wmd md') fr sts r):wA X C fr sts (Hy j r) :=
 PSs.imp (hr (G.wmd md')) λD σ H q1=>by
  let(c,L,S,Q0,I,hh,k):=q1
  let(m,hj,m',far):=uU h
  have I1:Iv X.K c C.md ((L.set j none).set j none) σ S H:=by rw[List.set_set];exact I.drop m hj
  refine⟨c,_,S,_,I1.cold h (λw z=>?_),hh,λfl L1 q σ1 S1 H1 I2 s1=>k fl _ q σ1 S1 H1 (I2.warm h) s1⟩
  rw[List.getElem?_set] at z
  split at z
  ·split at z<;>cases z
  ·rename_i ne;exact absurd rfl ne
theorem Nm {sts:List mX}:wA X C fr sts uo:=λZ9 s σ H D I q1=>by let(c,L,S,Q0,_,h,_):=q1;exact h.elim
end
inductive rPre (x:V)(lo hi:Option Int)(H:Hp)(Q:VK):Prop
 | mk (p m:Str)(_:x=.str (p++m))(_:lo=none)(_:hi=some (p.length:Int))(_:(p++m).length<=sizeLine)(_:Q (.str p) H):rPre x lo hi H Q
theorem zt {n len:Nat}(h:n<=len):am none (some (n:Int)) 1 len=lK n:=by
 unfold am sliceRange
 have e:max (0:Int) (min (if (n:Int)<0 then (n:Int)+len else n) (len:Int))=n:=by lia
 simp only[show (1:Int) > 0 from by decide,if_true,e]
 by_cases z:(0:Int)<n
 ·rw[if_pos z]
  have:(((n:Int)-0+1-1) / 1).toNat=n:=by lia
  rw[this]
  conv=>rhs;rw[<- List.map_id (lK n)]
  refine db λk _=>?_
  simp
 ·have:n=0:=by lia
  subst this;rfl
theorem vL {α:Type}(c:Array α):∀ n,n<=c.size->(lK n).filterMap (c[·]?)=c.toList.take n
 | 0,_=>rfl
 | n+1,h=>by
  rw[ii,cv,vL c n ⋯]
  have hn:n<c.toList.length:=by simp;lia
  rw[ae hn]
  congr 1
  simp[show n<c.size by lia]
theorem EO (p m:Str):(⟨((lK p.length).filterMap ((p++m).cps[·]?)).toArray⟩:Str)=p:=by
 let⟨p⟩:=p
 let⟨m⟩:=m
 have h:p.size<=(p++m).size:=by simp
 show (⟨((lK p.size).filterMap ((p++m)[·]?)).toArray⟩:Str)=⟨p⟩
 rw[vL _ _ h]
 congr 1
 rw[dv,List.take_append_of_le_length (by simp)]
 rw[bN (by simp)]
theorem sG (p m:Str):(p++m).length=p.length+m.length:=by
 show (p.cps++m.cps).size=_
 rw[Array.size_append];rfl
theorem Ht {X:Cx}:Kr X rPre:=by
 intro Z9 s σ H x v vl vu lo hi sl Q I rx hs pl pu h
 let(p,m,rfl,rfl,rfl,hz,q):=h
 let(t,rfl):=rx
 have el:vl=.none:=by cases pl;rfl
 have eu:∃ tk,vu=.int p.length tk:=by cases pu;exact⟨_,rfl⟩
 let(tk,rfl):=eu
 subst el
 refine⟨"str",_,PySem.F.slot_str_getitem.lookup,typeIs_str s _ t,?_⟩
 let(o,h1,h2,h3):=hs
 refine wpAny_getItem_str_slice (l:=none) (u:=some ((p.length:Int),tk)) (st:=none) ⟨o,h1,h2,h3⟩ rfl ?_
 have hl:=sG p m
 unfold sliceMade
 have e:slicePicked (p++m) none (some ((p.length:Int),tk)) none=lK p.length:=zt ⋯
 rw[e]
 split
 ·rename_i z
  have z:=(cU.mp z).2
  have z:p.length=(p++m).length:=by simpa using z
  have hm:m.length=0:=by lia
  have:p++m=p:=by
   let⟨p⟩:=p
   let⟨m⟩:=m
   have:m = #[]:=Array.eq_empty_of_size_eq_zero hm
   subst this
   show (⟨p++#[]⟩:Str)=_
   rw[eF]
  exact⟨.str (p++m),H,I,⟨t,rfl⟩,by rw[this];exact q⟩
 ·rw[EO]
  exact⟨by lia,.str p,H,I.tok _,⟨_,rfl⟩,q⟩
theorem By (i:Int)(y:D)(r:List D):∃ m,(qc (.tup (.int i :: y :: r))).shown=(("(":Str)++ke (toString i)++(",":Str))++m:=by
 have ha:∀ a b c:Str,a++b++c=a++(b++c):=λa b c=>by
  let⟨a⟩:=a;let⟨b⟩:=b;let⟨c⟩:=c
  show (⟨a++b++c⟩:Str)=⟨a++(b++c)⟩
  rw[eG]
 simp only[qc,dPys,PyData.shown,gX,tupleText]
 show ∃ m,ke "("++(ke (toString i)++ke ", "++Str.join (ke ", ") ((qc y).shown :: gX (dPys r)))++ke (if ((ke (toString i) :: (qc y).shown :: gX (dPys r)).length == 1)=true then ",)" else ")")=_
 generalize Str.join (ke ", ") ((qc y).shown :: gX (dPys r))=J
 generalize ke (if ((ke (toString i) :: (qc y).shown :: gX (dPys r)).length == 1)=true then ",)" else ")")=T
 exact⟨ke " "++(J++T),by rw[show ke ", " = ke ","++ke " " from rfl];simp only[ha]⟩
def E9:FV->FV->Option Int
 | .shn (.tup (.int i :: y :: r)),.str x=>if x=toString i/\(D.tup (.int i :: y :: r)).fit=true/\(D.tup (.int i :: y :: r)).wt<=big then some i else none
 | _,_=>none
def Jt (ea es es2:EW):EW:=λL Q=>ea L λv L1=>es L1 λw L2=>wp (E9 v w) λi=>es2 L2 λw2 L3=>w2=.str (toString i)/\Q (.bl true) L3
@[scoped simp ↓] theorem NV (ea es es2:EW)(L:m7)(Q:FV->m7->Prop):Jt ea es es2 L Q=(ea L λv L1=>es L1 λw L2=>wp (E9 v w) λi=>es2 L2 λw2 L3=>w2=.str (toString i)/\Q (.bl true) L3):=propext mx
theorem HS {i:Int}{y:D}{r:List D}(h1:(D.tup (.int i :: y :: r)).fit=true)(h2:(D.tup (.int i :: y :: r)).wt<=big){Q:Int->Prop}(q:Q i):wp (E9 (.shn (.tup (.int i :: y :: r))) (.str (toString i))) Q:=by
 show wp (if toString i=toString i/\(D.tup (.int i :: y :: r)).fit=true/\(D.tup (.int i :: y :: r)).wt<=big then some i else none) Q
 rw[if_pos ⟨rfl,h1,h2⟩]
 exact q
section
variable {X:Cx}{C:CC}{n:Nat}{sp:kj->Nat->Sp}{a s s2:Expr}{ea es es2:EW}{p p1 p3 p4 p5 p6 q1 q2 q3 q4 pos:Pos}{k k1 k2:_}
theorem Pi (G:Good X C n sp)(hg:C.gl (ke "len")=true)(hs:nC s=false)(ha:FE X C a ea)(h1:FE X C s es)(h2:FE X C s2 es2) :
  FE X C (.Compare (.Subscript a (.Slice none (some (.BinOp (.Call (.Name (ke "len") p) [s] [] p1) .Add (.Constant (.int 2) k p3) p4)) none p5) p6) [.Eq] [.BinOp (.BinOp (.Constant (.str (ke "(")) k1 q1) .Add s2 q2) .Add (.Constant (.str (ke ",")) k2 q3) q4] pos) (Jt ea es es2):=by
 refine PE.imp (Av GX (uv Ht ha Aq (Ap (xV Ds (qU xt (G.gl hg) (G.blt "len" (by decide)) (by nofun) (nE h1 oM (m8 hs)) (by nofun) (by nofun) (m8 hs) rfl) Dk))) (xV uw (xV uw Di h2) Di) rfl) λσ H Q ⟨c,L,S,Q0,I,h,kk⟩=>?_
 refine⟨c,L,S,_,I,h,λv L1 q x S1 H1 r1 I1 t1=>?_⟩
 refine⟨c,L1,S1,_,I1,q,λw L2 q y S2 H2 r2 I2 t2=>?_⟩
 let(i,e,q):=oE q
 unfold E9 at e
 split at e
 ·rename_i q v' w' i' y' r' xx zz
  let((rfl,hf,hw),rfl):=qM e
  cases (show x=.str _ from r1)
  cases (show y=.str _ from r2)
  let(m,em):=By i' y' r'
  have hsz:=A8 hf hw
  have lp:(("(":Str)++ke (toString i')++(",":Str)).length=(ke (toString i')).length+2:=by
   rw[sG,sG]
   have:("(":Str).length=1:=rfl
   have:(",":Str).length=1:=rfl
   lia
  rw[em] at hsz
  have hsz':=hsz
  rw[sG,lp] at hsz'
  refine⟨_,rfl,by lia,⟨_,_,rfl,rfl,?_⟩⟩
  refine⟨_,rfl,⟨_,m,congrArg V.str em,rfl,?_,hsz,?_⟩⟩
  ·rw[lp];rfl
  refine⟨c,L2,S2,_,I2,q,λw2 L3 q z3 S3 H3 r3 I3 t3=>?_⟩
  let(rfl,q):=q
  cases (show z3=.str _ from r3)
  refine⟨_,_,rfl,rfl,?_,?_⟩
  ·have:("(":Str).length=1:=rfl
   show ("(":Str).length+_<=_
   lia
  refine⟨_,_,rfl,rfl,?_,?_⟩
  ·rw[sG]
   have:("(":Str).length=1:=rfl
   have:(",":Str).length=1:=rfl
   show ("(":Str).length+_+(",":Str).length<=_
   lia
  refine⟨rfl,?_⟩
  have:=kk _ L3 q (.bl true) S3 H3 rfl I3 ((t1.trans t2).trans t3)
  rw[show decide (V.str (("(":Str)++ke (toString i')++(",":Str))=V.str (ke "("++ke (toString i')++ke ","))=true from decide_eq_true rfl]
  exact this
 ·cases e
end
end Kq
set_option maxRecDepth 10000
set_option maxHeartbeats 1000000
namespace Kq
def N3 (call:CW):SW:=nO (zV 1 3 (tS (nh nY (m5 0) (eC (.int 1)))) (.tp [1,2,3]) nR (oQ (m6 (m5 1) (m6 (m5 2) m9))) (m5 3))
def Ra (call:CW):SW:=nj (nB (nF call 0 (m6 (m5 0) m9)) (.nm 2)) (nO (oD 3 2 (AL (m5 1)) (.tp [3,4]) nR (Ki (nL (oh pT (m5 4))) (nh nY (nh nY (m5 0) (eC (.int 0))) (m5 3)) (nh A2 (m5 2) (oQ (m6 (m5 4) (m6 (m5 3) m9)))))))
def Q9 (call:CW):SW:=nj (nB (qg (m6 (m5 1) m9)) (.nm 2)) (nj (nB (nh nY (m5 0) (m5 1)) (.nm 3)) (nj (zl (nL (oh ph (m5 3))) (nj (vw (sN xD 2 (m5 3))) (nB (nh nY (m5 0) (m5 3)) (.nm 3)))) (nO (oh CZ (m5 2)))))
def Q8 (call:CW):SW:=nj (nB (nF call 1 (m6 (m5 0) (m6 (m5 1) m9))) (.nm 2)) (nO (oh oZ (oD 3 1 (rL (oh pS (m5 1))) (.nm 3) nR (oh Al (oD 4 1 (tS (nF call 2 (m6 (m5 1) (m6 (m5 3) m9)))) (.nm 4) nR (nh nY (m5 2) (m5 4)))))))
def Q7 (call:CW):SW:=nj (nB (m5 0) (.tp [1,2])) (nO (oQ (m6 (m5 1) (m6 (oh oZ (oD 3 2 (AL (m5 2)) (.tp [3,4]) nR (oQ (m6 (m5 3) (m6 (nh nJ (m5 3) (eC (.int 1))) (m6 (m5 4) m9)))))) m9))))
def N2 (call:CW):SW:=nO (oh oZ (oD 2 1 (rL (oh pS (nh nY (m5 0) (eC (.int 0))))) (.nm 2) nR (Ki (nL (nh zJ (m5 2) (m5 1))) (eC .non) (nh rJ (m5 2) (eC (.int 1))))))
def N1 (call:CW):SW:=nO (nF call 3 (m6 (nF call 4 (m6 (m5 0) m9)) (m6 (nF call 5 (m6 (m5 0) (m6 (m5 1) m9))) m9)))
def Q6 (call:CW):SW:=nj (nB (m5 0) (.tp [3,4])) (nO (nh nJ (nh nY (m5 3) (m5 1)) (oh vG (Gq (m5 4) (qr (m5 1)) (qr (nh rJ (m5 2) (eC (.int 1))))))))
def Q5 (call:CW):SW:=nj (nB (oh pS (nh nY (m5 0) (eC (.int 0)))) (.nm 2)) (nO (nF call 11 (m6 (m5 0) (m6 (oD 3 1 (rL (m5 2)) (.nm 3) nR (nh x6 (nh nJ (nh nJ (m5 3) (m5 1)) (eC (.int 1))) (m5 2))) m9))))
def N0 (call:CW):SW:=nO (nF call 11 (m6 (m5 0) (m6 (oD 2 1 (rL (oh pS (nh nY (m5 0) (eC (.int 0))))) (.nm 2) nR (nF call 10 (m6 (m5 0) (m6 (m5 2) (m6 (m5 1) m9))))) m9)))
def J5 (call:CW):SW:=nj (nB (m5 1) (.nm 3)) (nj (zl (Cj (nL (nh Fu (m5 3) (oh pS (nh nY (m5 0) (eC (.int 0)))))) (nL (nh Ey (nF call 7 (m6 (m5 0) (m6 (m5 1) (m6 (nh nJ (m5 3) (eC (.int 1))) m9)))) (m5 2)))) (CV (Ck λi j=>i+j) 3 (eC (.int 1)))) (nO (m5 3)))
def J0 (call:CW):SW:=nj (nB (oh pS (nh nY (m5 0) (eC (.int 0)))) (.nm 2)) (nj (nB (zU (m5 2) (oQ (m6 (eC (.int 0)) (m6 (oQ m9) m9)))) (.nm 3)) (nj (sA (AK (m5 2)) (.nm 4) (nj (nB (qg m9) (.nm 5)) (nj (sA (iRng2 (nh nJ (m5 4) (eC (.int 1))) (nh nJ (nh nY (m5 1) (m5 4)) (eC (.int 1)))) (.nm 6) (qL (nL (nh zJ (m5 6) (m5 3))) (nj (nB (pU Qe 3 (m5 6)) (.tp [7,8])) (vw (sN xD 5 (oQ (m6 (nh nJ (nF call 7 (m6 (m5 0) (m6 (m5 4) (m6 (m5 6) m9)))) (m5 7)) (m6 (nh nJ (oQ (m6 (m5 4) m9)) (m5 8)) m9)))))) oN)) (qL (nL (m5 5)) (xQ 3 (m5 4) (oh uB (m5 5))) oN)))) (nO (Ea 3 (eC (.int 0))))))
def JZ (call:CW):SW:=nj (sA (rL (oh pS (nh nY (m5 0) (eC (.int 0))))) (.nm 2) (nj (nB (nF call 8 (m6 (m5 0) (m6 (m5 2) m9))) (.tp [3,4])) (qL (nL (nh Ey (m5 3) (m5 1))) (nO (oQ (m6 (m5 2) (m6 (m5 3) (m6 (m5 4) m9))))) oN))) (nO (eC .non))
def JY (call:CW):SW:=nj (nB (oh pS (nh nY (m5 0) (eC (.int 0)))) (.nm 2)) (nj (nB (xp 10 2 (rL (m5 2)) (.nm 10) nR (iRng2 (nh nJ (m5 10) (eC (.int 1))) (nh nJ (m5 2) (eC (.int 1)))) (.nm 11) nR (nF call 7 (m6 (m5 0) (m6 (m5 10) (m6 (m5 11) m9))))) (.nm 3)) (nj (nB (eC (.int 0)) (.nm 4)) (nj (nB (oh pS (m5 3)) (.nm 5)) (nj (zl (nL (nh Fu (m5 4) (m5 5))) (nj (nB (nh tI (nh nJ (m5 4) (m5 5)) (eC (.int 2))) (.nm 6)) (nj (nB (nF call 9 (m6 (m5 0) (m6 (nh nY (m5 3) (m5 6)) m9))) (.nm 7)) (qL (Cj (nL (oh ph (m5 7))) (nL (nh Ey (nh nY (m5 7) (eC (.int 0))) (m5 1)))) (nB (m5 6) (.nm 5)) (nB (nh nJ (m5 6) (eC (.int 1))) (.nm 4)))))) (nj (qL (nL (nh tJ (m5 4) (oh pS (m5 3)))) (nO (eC .non)) oN) (nj (nB (nF call 9 (m6 (m5 0) (m6 (nh nY (m5 3) (m5 4)) m9))) (.tp [8,9])) (nO (oQ (m6 (nh nY (m5 3) (m5 4)) (m6 (m5 8) (m6 (m5 9) m9)))))))))))
def JX (call:CW):SW:=nj (nB (qg m9) (.nm 1)) (nj (sA (rL (oh pS (nh nY (m5 0) (eC (.int 0))))) (.nm 2) (nj (nB (nh nY (nF call 8 (m6 (m5 0) (m6 (m5 2) m9))) (eC (.int 0))) (.nm 3)) (qL (Ko (GE (nL (m5 1))) (nL (nh Fu (m5 3) (nh nY (pU nY 1 (oh wT (eC (.int 1)))) (eC (.int 1)))))) (vw (sN xD 1 (oQ (m6 (m5 2) (m6 (m5 3) m9))))) oN))) (nO (m5 1)))
def GD (call:CW):SW:=nO (nh nY (nF call 17 (m6 (m5 0) (m6 (m5 1) (m6 (m5 2) m9)))) (eC (.int 0)))
def GC (call:CW):SW:=nO (oh oZ (oD 3 2 (tS (nF call 17 (m6 (m5 0) (m6 (m5 1) (m6 (m5 2) m9))))) (.tp [3,4]) nR (m5 3)))
def JW (call:CW):SW:=nj (nB (qg (m6 (oQ (m6 (eC (.int 0)) (m6 (oQ m9) m9))) m9)) (.nm 3)) (nj (sA (AK (oh pS (nh nY (m5 0) (eC (.int 0))))) (.nm 4) (nj (nB (nF call 18 (m6 (m5 0) (m6 (m5 1) (m6 (m5 2) (m6 (m5 4) m9))))) (.nm 5)) (nj (nB (oD 7 3 (IE (m5 5) (m5 3)) (.tn 7 [8,9]) nR (oQ (m6 (nh nJ (m5 7) (m5 8)) (m6 (nh nJ (oQ (m6 (m5 4) m9)) (m5 9)) m9)))) (.nm 6)) (nB (nh nJ (qg (m6 (oh uB (m5 6)) m9)) (m5 3)) (.nm 3))))) (nO (m5 3)))
def JV (call:CW):SW:=nj (nB (qg m9) (.nm 4)) (nj (nB (eC (.int 0)) (.nm 5)) (nj (sA (iRng2 (m5 3) (oh pS (nh nY (m5 0) (eC (.int 0))))) (.nm 6) (nj (nB (nF call 7 (m6 (m5 0) (m6 (m5 3) (m6 (nh nJ (m5 6) (eC (.int 1))) m9)))) (.nm 7)) (nj (CV (Ck λi j=>i+j) 5 (nh qt (nh nY (m5 1) (m5 6)) (m5 7))) (vw (sN xD 4 (nh nJ (nh qt (m5 2) (m5 7)) (m5 5))))))) (nO (m5 4))))
def JU (call:CW):SW:=nj (nB (nh tP (nh qt (nh nJ (nh nJ (nh tP (m5 0) (eC (.int 2147483629))) (nh qt (nh qt (m5 1) (m5 1)) (eC (.int 7919)))) (eC (.int 11))) (eC (.int 48271))) (eC (.int 2147483647))) (.nm 2)) (nO (nh tP (nh qt (m5 2) (m5 2)) (eC (.int 1999999973))))
def JT (call:CW):SW:=nj (nB (Ki (nL (nh Fu (m5 1) (oh pS (m5 0)))) (nh nY (m5 0) (m5 1)) (eC (.int 0))) (.nm 2)) (nO (qg (m6 (nh qt (oh Er (m5 2)) (oh ug (nh Ni (oh Er (m5 2)) (nh wQ (eC (.int 10)) (eC (.int 18)))))) (m6 (nh nJ (m5 2) (nh qt (eC (.int 1000003)) (m5 1))) (m6 (eC (.int 0)) m9)))))
def GB (call:CW):SW:=nj (BA 0 (eC (.int 2)) (nh nJ (pU nY 0 (eC (.int 2))) (eC (.int 1)))) (nj (qL (nL (nh Kf (pU nY 0 (eC (.int 0))) (eC (.int 0)))) (nj (nB (nh tP (pU nY 0 (eC (.int 0))) (m5 1)) (.nm 2)) (nj (BA 0 (eC (.int 0)) (nh tI (pU nY 0 (eC (.int 0))) (m5 1))) (nO (m5 2)))) oN) (nO (nh tP (nh tI (nF call 19 (m6 (nF call 19 (m6 (pU nY 0 (eC (.int 1))) (m6 (pU nY 0 (eC (.int 2))) m9))) (m6 (nh nJ (pU nY 0 (eC (.int 2))) (eC (.int 64))) m9))) (eC (.int 64))) (m5 1))))
def JS (call:CW):SW:=nj (nB (nH call 21 0 (m6 (eC (.int 4)) m9)) (.nm 2)) (nj (qL (Cj (nL (nh tJ (m5 2) (eC (.int 3)))) (nL (nh tJ (m5 1) (eC (.int 0))))) (nO (nh nJ (eC (.int 1)) (nH call 21 0 (m6 (nh rJ (nh wQ (eC (.int 10)) (eC (.int 9))) (eC (.int 20))) m9)))) oN) (nO (nh nJ (eC (.int 1)) (nH call 21 0 (m6 (nh nY (qg (m6 (eC (.int 9)) (m6 (eC (.int 9)) (m6 (eC (.int 40)) (m6 (eC (.int 3)) m9))))) (m5 2)) m9)))))
def JR (call:CW):SW:=nj (nB (Ki (nL (nh Kf (nH call 21 0 (m6 (eC (.int 8)) m9)) (eC (.int 0)))) (nh nJ (eC (.int 1)) (nH call 21 0 (m6 (eC (.int 7)) m9))) (nh nJ (eC (.int 8)) (nH call 21 0 (m6 (nh rJ (m5 1) (eC (.int 7))) m9)))) (.nm 2)) (nj (nB (nH call 21 0 (m6 (eC (.int 4)) m9)) (.nm 3)) (nj (nB (oh oZ (oD 5 1 (rL (m5 2)) (.nm 5) nR (nh nJ (nH call 22 0 (m6 (m5 3) m9)) (nh nY (qg (m6 (eC (.int 0)) (m6 (eC (.int 9)) m9))) (nH call 21 0 (m6 (eC (.int 2)) m9)))))) (.nm 4)) (nO (oQ (m6 (m5 4) (m6 (oh oZ (oD 5 1 (rL (nh rJ (m5 2) (eC (.int 1)))) (.nm 5) nR (nH call 22 0 (m6 (m5 3) m9)))) m9))))))
def GA (call:CW):SW:=nO (nh nJ (nh nY (nh nY (m5 0) (eC (.int 0))) (m5 1)) (oh vG (Gq (nh nY (m5 0) (eC (.int 1))) (qr (m5 1)) (qr (nh rJ (m5 2) (eC (.int 1)))))))
def JQ (call:CW):SW:=nj (qL (Cj (nL (oh ph (nh nY (m5 3) (eC (.int 0))))) (nL (nh Kf (nh rJ (nh rJ (m5 2) (m5 1)) (eC (.int 1))) (nh nY (m5 3) (eC (.int 0)))))) (nO (eC (.bl false))) oN) (nO (Qb (oh pT (nh nY (m5 3) (eC (.int 1)))) (nh Ey (nF call 24 (m6 (m5 0) (m6 (m5 1) (m6 (m5 2) m9)))) (nh nY (m5 3) (eC (.int 1))))))
def JP (call:CW):SW:=nj (nB (oD 5 1 (iRng2 (nh nJ (m5 2) (eC (.int 1))) (nh nJ (oh pS (nh nY (m5 0) (eC (.int 0)))) (eC (.int 1)))) (.nm 5) (nL (oh ph (nh nY (m5 1) (m5 5)))) (m5 5)) (.nm 4)) (nO (oD 5 1 (tS (m5 4)) (.nm 5) (nL (nF call 25 (m6 (m5 0) (m6 (m5 2) (m6 (m5 5) (m6 (m5 3) m9)))))) (m5 5)))
def JO (call:CW):SW:=nj (nB (oh pS (nh nY (m5 0) (eC (.int 0)))) (.nm 2)) (nj (nB (nh (qj nJ) (nh qt (qg (m6 (eC .non) m9)) (m5 2)) (qg (m6 (eC (.int 0)) m9))) (.nm 3)) (nj (sA (AM (nh rJ (m5 2) (eC (.int 1))) (oh wT (eC (.int 1)))) (.nm 4) (nj (nB (oD 8 1 (tS (xq call 26 (m6 (m5 0) (GL 3 (m6 (m5 4) (m6 (m5 1) m9)))))) (.nm 8) nR (nh nJ (nF call 24 (m6 (m5 0) (m6 (m5 4) (m6 (m5 8) m9)))) (pU nY 3 (m5 8)))) (.nm 5)) (qL (nL (nh Cp (m5 5) (qg m9))) (BA 3 (m5 4) (oh x5 (m5 5))) oN))) (nj (qL (nL (oh pT (pU nY 3 (eC (.int 0))))) (nO (eC .non)) oN) (nj (nB (qg (m6 (eC (.int 0)) m9)) (.nm 6)) (nj (zl (nL (nh Fu (pU nY 6 (oh wT (eC (.int 1)))) (m5 2))) (nj (nB (pU nY 6 (oh wT (eC (.int 1)))) (.nm 7)) (nj (nB (xq call 26 (m6 (m5 0) (GL 3 (m6 (m5 7) (m6 (m5 1) m9))))) (.nm 5)) (nj (nB (oD 8 1 (tS (m5 5)) (.nm 8) (nL (nh tJ (nh nJ (nF call 24 (m6 (m5 0) (m6 (m5 7) (m6 (m5 8) m9)))) (pU nY 3 (m5 8))) (pU nY 3 (m5 7)))) (m5 8)) (.nm 5)) (vw (sN xD 6 (nh nY (qg (m6 (nh nY (m5 5) (eC (.int 0))) (m6 (m5 2) m9))) (oh ug (nh tJ (nh nY (m5 5) (oh wT (eC (.int 1)))) (m5 2)))))))))) (nO (oQ (m6 (pU nY 3 (eC (.int 0))) (m6 (oh oZ (Gp 6 ux (qr (oh wT (eC (.int 1)))))) m9)))))))))
def JN (call:CW):SW:=nj (nB (oQ (m6 (nh nY (qg (m6 (eC (.int 1)) (m6 (eC (.int 2)) (m6 (eC (.int 4)) (m6 (eC (.int 30)) (m6 (nh nJ (nh wQ (eC (.int 10)) (eC (.int 9))) (eC (.int 1))) m9)))))) (nH call 21 0 (m6 (eC (.int 5)) m9))) (m6 (nH call 21 0 (m6 (eC (.int 5)) m9)) m9))) (.tp [2,3])) (nj (nB (oD 6 1 (rL (m5 1)) (.nm 6) nR (nh tI (nh qt (nH call 21 0 (m6 (m5 2) m9)) (nH call 21 0 (m6 (eC (.int 3)) m9))) (eC (.int 2)))) (.nm 4)) (nj (nB (qg (m6 (eC (.int 0)) (m6 (eC (.int 1)) (m6 (nh nJ (eC (.int 1)) (nH call 21 0 (m6 (eC (.int 9)) m9))) (m6 (nH call 21 0 (m6 (nh nJ (nh wQ (eC (.int 10)) (eC (.int 9))) (eC (.int 1))) m9)) (m6 (eC (.int 1)) m9)))))) (.nm 5)) (nO (oQ (m6 (oh oZ (m5 4)) (m6 (nh nY (m5 5) (m5 3)) m9))))))
def JM (call:CW):SW:=nj (nB (oh pS (nh nY (m5 0) (eC (.int 0)))) (.nm 3)) (nj (nB (eC (.dct [] [])) (.nm 4)) (nj (sA (rL (m5 3)) (.nm 5) (nj (nB (nh nY (nh nY (m5 0) (eC (.int 0))) (m5 5)) (.nm 6)) (nj (nB (nh qt (nh nJ (m5 2) (nh nY (m5 1) (m5 5))) (m5 6)) (.nm 7)) (nj (xQ 4 (oQ (m6 (m5 5) (m6 (nh nJ (m5 5) (eC (.int 1))) m9))) (m5 7)) (sA (iRng2 (nh nJ (m5 5) (eC (.int 1))) (m5 3)) (.nm 8) (nj (nB (nh nY (nh nY (m5 0) (eC (.int 1))) (nh rJ (m5 8) (eC (.int 1)))) (.nm 9)) (nj (nB (nh nJ (m5 6) (m5 9)) (.nm 6)) (nj (nB (nh nJ (m5 7) (nh qt (m5 2) (m5 9))) (.nm 7)) (nj (nB (nh nJ (m5 7) (nh qt (nh nY (m5 1) (m5 8)) (m5 6))) (.nm 7)) (xQ 4 (oQ (m6 (m5 5) (m6 (nh nJ (m5 8) (eC (.int 1))) m9))) (m5 7))))))))))) (nO (m5 4))))
def JL (call:CW):SW:=nj (nB (oh pS (nh nY (m5 0) (eC (.int 0)))) (.nm 2)) (nj (nB (nh (qj qt) (qg (m6 (eC (.int 0)) m9)) (nh nJ (m5 2) (eC (.int 1)))) (.nm 3)) (nj (sA (AM (nh rJ (m5 2) (eC (.int 1))) (oh wT (eC (.int 1)))) (.nm 4) (BA 3 (m5 4) (oh x5 (oD 5 1 (iRng2 (nh nJ (m5 4) (eC (.int 1))) (nh nJ (m5 2) (eC (.int 1)))) (.nm 5) nR (nh nJ (nh A2 (m5 1) (oQ (m6 (m5 4) (m6 (m5 5) m9)))) (pU nY 3 (m5 5))))))) (nO (oh oZ (m5 3)))))
def JK (call:CW):SW:=nj (nB (oh pS (nh nY (m5 1) (eC (.int 0)))) (.nm 2)) (nj (nB (nH call 21 0 (m6 (m5 2) m9)) (.nm 3)) (nj (nB (nH call 21 0 (m6 (eC (.int 3)) m9)) (.nm 4)) (nj (qL (nL (nh tJ (m5 4) (eC (.int 0)))) (nj (nB (nh nJ (nh nJ (Gq (nh nY (m5 1) (eC (.int 0))) ux (qr (m5 3))) (oQ (m6 (nh nJ (nh tP (nh nY (nh nY (m5 1) (eC (.int 0))) (m5 3)) (nh wQ (eC (.int 10)) (eC (.int 9)))) (eC (.int 1))) m9))) (Gq (nh nY (m5 1) (eC (.int 0))) (qr (nh nJ (m5 3) (eC (.int 1)))) ux)) (.nm 5)) (nO (oQ (m6 (m5 5) (m6 (nh nY (m5 1) (eC (.int 1))) m9))))) oN) (nj (qL (nL (nh tJ (m5 4) (eC (.int 1)))) (nj (nB (nh nJ (nh nJ (Gq (nh nY (m5 1) (eC (.int 1))) ux (qr (m5 3))) (oh oZ (oD 8 1 (tS (Gq (nh nY (m5 1) (eC (.int 1))) (qr (m5 3)) (qr (nh nJ (m5 3) (eC (.int 1)))))) (.nm 8) nR (nh nJ (nh tP (m5 8) (nh wQ (eC (.int 10)) (eC (.int 9)))) (eC (.int 1)))))) (Gq (nh nY (m5 1) (eC (.int 1))) (qr (nh nJ (m5 3) (eC (.int 1)))) ux)) (.nm 6)) (nO (oQ (m6 (nh nY (m5 1) (eC (.int 0))) (m6 (m5 6) m9))))) oN) (nj (nB (nH call 21 0 (m6 (eC (.int 4)) m9)) (.nm 7)) (nj (nB (oh oZ (oD 8 1 (rL (m5 2)) (.nm 8) nR (nH call 22 0 (m6 (m5 7) m9)))) (.nm 5)) (nO (oQ (m6 (m5 5) (m6 (oh oZ (oD 8 1 (rL (nh rJ (m5 2) (eC (.int 1)))) (.nm 8) nR (nH call 22 0 (m6 (m5 7) m9)))) m9))))))))))
def vC (call:CW):SW:=nj (nB (m5 0) (.tp [2,3,4,5])) (nj (qL (nL (nh tJ (m5 1) (eC (.int 0)))) (nO (nF call 8 (m6 (m5 2) (m6 (nh tP (m5 5) (eC (.int 3))) m9)))) oN) (nj (qL (nL (nh tJ (m5 1) (eC (.int 1)))) (nO (nF call 9 (m6 (m5 2) (m6 (m5 5) m9)))) oN) (nj (qL (nL (nh tJ (m5 1) (eC (.int 2)))) (nO (nF call 12 (m6 (m5 2) (m6 (m5 5) m9)))) oN) (nj (qL (nL (nh tJ (m5 1) (eC (.int 3)))) (nO (nF call 13 (m6 (m5 2) (m6 (m5 5) m9)))) oN) (nj (qL (nL (nh tJ (m5 1) (eC (.int 4)))) (nO (nF call 14 (m6 (m5 2) m9))) oN) (nj (qL (nL (nh tJ (m5 1) (eC (.int 5)))) (nO (nF call 15 (m6 (m5 2) (m6 (m5 3) (m6 (m5 4) m9))))) oN) (nj (qL (nL (nh tJ (m5 1) (eC (.int 6)))) (nO (nF call 16 (m6 (m5 2) (m6 (m5 3) (m6 (m5 4) m9))))) oN) (nO (nF call 6 (m6 (m5 2) (m6 (oQ (m6 (eC (.int 0)) m9)) m9)))))))))))
def JJ (call:CW):SW:=nj (nB (m5 0) (.tp [2,3,4,5])) (nj (qL (Ko (nL (nh Cp (nh nY (m5 1) (eC (.int 0))) (oh pW (nF call 27 (m6 (m5 2) (m6 (oQ (m6 (nh tP (m5 5) (eC (.int 3))) (m6 (eC .non) m9))) m9)))))) (nL (nh Cp (nh nY (m5 1) (eC (.int 1))) (oh pW (nF call 27 (m6 (m5 2) (m6 (oQ (m6 (eC .non) (m6 (m5 5) m9))) m9))))))) (nO (eC (.bl false))) oN) (nj (nB (nF call 30 (m6 (m5 2) (m6 (nF call 29 (m6 (m5 2) (m6 (m5 3) (m6 (m5 4) m9)))) m9))) (.nm 6)) (nO (Ju (nh tJ (nh nY (m5 1) (eC (.int 6))) (oh pW (m5 6))) (Jt (nh nY (m5 1) (eC (.int 5))) (oh pW (nh nY (m5 6) (eC (.int 0)))) (oh pW (nh nY (m5 6) (eC (.int 0)))))))))
def JI (call:CW):SW:=nj (nB (nF call 20 (m6 (m5 0) (m6 (eC (.int 0)) m9))) (.nm 1)) (nj (nB (nH call 23 1 (m6 (eC (.int 12)) m9)) (.nm 2)) (nj (nB (qg m9) (.nm 3)) (nj (sA (tS (oQ (m6 (m5 2) (m6 (zW call 31 (nF call 20 (m6 (m5 0) (m6 (eC (.int 1)) m9))) (m6 (m5 2) m9)) m9)))) (.nm 4) (nj (nB (nH call 28 1 (m6 (oh pS (nh nY (m5 2) (eC (.int 0)))) m9)) (.tp [5,6])) (vw (sN xD 3 (oQ (m6 (m5 4) (m6 (m5 5) (m6 (m5 6) (m6 (nh tI (nh qt (oh vG (nh nY (m5 4) (eC (.int 0)))) (nh nJ (eC (.int 1)) (nH call 21 1 (m6 (eC (.int 9)) m9)))) (eC (.int 9))) m9))))))))) (nj (nB (oh pW (m5 3)) (.nm 7)) (nj (nB (oD 13 1 (tS (m5 3)) (.nm 13) nR (oD 14 1 (rL (eC (.int 8))) (.nm 14) nR (oh pW (nF call 32 (m6 (m5 13) (m6 (m5 14) m9)))))) (.nm 8)) (nj (qL (GE (nL (oh GK (oD 13 2 (DU 3 (m5 8)) (.tp [13,14]) nR (nF call 33 (m6 (m5 13) (m6 (m5 14) m9))))))) (nO (eC (.bl false))) oN) (nj (sA (iRng2 (eC (.int 2)) (nh Az (eC (.int 8)) (nh x6 (eC (.int 14)) (oh pS (m5 0))))) (.nm 9) (nj (nB (nF call 20 (m6 (m5 0) (m6 (m5 9) m9))) (.nm 1)) (nj (nB (oQ (m6 (nH call 21 1 (m6 (eC (.int 2)) m9)) (m6 (nH call 21 1 (m6 (eC (.int 8)) m9)) m9))) (.tp [10,11])) (ET (Hy 12 (nj (nB (nF call 32 (m6 (pU nY 3 (m5 10)) (m6 (m5 11) m9))) (.nm 12)) (nj (qL (nL (nh Cp (oh pW (m5 12)) (nh nY (nh nY (m5 8) (m5 10)) (m5 11)))) (nO (eC (.bl false))) oN) (nj (qL (nL (oh (FQ .list) (m5 12))) uo oN) (qL (Ko (nL (nh Cp (oh pW (nF call 32 (m6 (pU nY 3 (m5 10)) (m6 (m5 11) m9)))) (nh nY (nh nY (m5 8) (m5 10)) (m5 11)))) (nL (nh Cp (oh pW (m5 3)) (m5 7)))) (nO (eC (.bl false))) oN))))) (nj (nB (nF call 35 (m6 (pU nY 3 (m5 10)) (m6 (m5 11) m9))) (.nm 12)) (nj (qL (nL (nh Cp (oh pW (m5 12)) (nh nY (nh nY (m5 8) (m5 10)) (m5 11)))) (nO (eC (.bl false))) oN) (nj (qL (nL (oh (FQ .list) (m5 12))) (nj (vw (zT HE 12)) (vw (sN xD 12 (eC (.int 0))))) oN) (qL (Ko (nL (nh Cp (oh pW (nF call 32 (m6 (pU nY 3 (m5 10)) (m6 (m5 11) m9)))) (nh nY (nh nY (m5 8) (m5 10)) (m5 11)))) (nL (nh Cp (oh pW (m5 3)) (m5 7)))) (nO (eC (.bl false))) oN)))))))) (nO (eC (.bl true))))))))))
def JH (call:CW):SW:=nj (nB (m5 0) (.tp [2,3,4,5])) (nj (qL (nL (nh tJ (m5 1) (eC (.int 0)))) uo oN) (nj (qL (nL (nh tJ (m5 1) (eC (.int 1)))) uo oN) (nj (qL (nL (nh tJ (m5 1) (eC (.int 2)))) uo oN) (nj (qL (nL (nh tJ (m5 1) (eC (.int 3)))) uo oN) (nj (qL (nL (nh tJ (m5 1) (eC (.int 4)))) (nO (nF call 14 (m6 (m5 2) m9))) oN) (nj (qL (nL (nh tJ (m5 1) (eC (.int 5)))) uo oN) (nj (qL (nL (nh tJ (m5 1) (eC (.int 6)))) uo oN) uo)))))))
def PP:FD:=⟨1,1,N3,false,false⟩
def PN:FD:=⟨2,3,Ra,false,false⟩
def PM:FD:=⟨2,4,Q9,false,false⟩
def PL:FD:=⟨2,3,Q8,false,false⟩
def PK:FD:=⟨1,3,Q7,false,false⟩
def PJ:FD:=⟨2,2,N2,false,false⟩
def PH:FD:=⟨2,2,N1,false,false⟩
def PF:FD:=⟨3,5,Q6,false,false⟩
def PB:FD:=⟨2,3,Q5,false,false⟩
def Pz:FD:=⟨2,2,N0,false,false⟩
def Jm:FD:=⟨3,4,J5,false,false⟩
def Jl:FD:=⟨2,9,J0,false,false⟩
def Jk:FD:=⟨2,5,JZ,false,false⟩
def Jj:FD:=⟨2,10,JY,false,false⟩
def Ji:FD:=⟨1,4,JX,false,true⟩
def Jh:FD:=⟨3,3,GD,false,false⟩
def Jg:FD:=⟨3,3,GC,false,false⟩
def Jf:FD:=⟨3,7,JW,false,false⟩
def Je:FD:=⟨4,8,JV,false,true⟩
def Jd:FD:=⟨2,3,JU,false,false⟩
def Jc:FD:=⟨2,3,JT,false,true⟩
def F9:FD:=⟨2,3,GB,true,false⟩
def Jb:FD:=⟨2,3,JS,true,false⟩
def Ja:FD:=⟨2,5,JR,true,false⟩
def IZ:FD:=⟨3,3,GA,false,false⟩
def IY:FD:=⟨4,4,JQ,false,false⟩
def IX:FD:=⟨4,5,JP,false,true⟩
def IW:FD:=⟨2,8,JO,false,false⟩
def IV:FD:=⟨2,6,JN,true,false⟩
def IU:FD:=⟨3,10,JM,false,true⟩
def IT:FD:=⟨2,5,JL,false,false⟩
def IS:FD:=⟨2,8,JK,true,false⟩
def qY:FD:=⟨2,6,vC,false,false⟩
def IR:FD:=⟨2,7,JJ,false,false⟩
def IQ:FD:=⟨1,13,JI,false,false⟩
def IP:FD:=⟨2,6,JH,false,true⟩
def tb:List FD:=[PP,PN,PM,PL,PK,PJ,PH,PF,PB,Pz,Jm,Jl,Jk,Jj,Ji,Jh,Jg,Jf,Je,Jd,Jc,F9,Jb,Ja,IZ,IY,IX,IW,IV,IU,IT,IS,qY,IR,IQ,IP]
def Lv (a k:Int):Int:=((a % 2147483629+k*k*7919+11)*48271 % 2147483647)*((a % 2147483629+k*k*7919+11)*48271 % 2147483647) % 1999999973
theorem Bx (x:Int):small (x % 2147483647)=true:=by
 have:=iG x (show (2147483647:Int)≠0 by decide)
 have:=er x (show (0:Int)<2147483647 by decide)
 simp only[small,decide_eq_true_eq];lia
theorem pd {i:Int}(h:0<=i)(h':i<2 ^ 60):small i=true:=by
 simp only[small,decide_eq_true_eq];lia
theorem nk {i:Int}(h:0<=i)(h':i<2 ^ 60):ou i=true:=by
 simp only[ou,decide_eq_true_eq];lia
theorem Il (d:Nat) (a k:Int)(hk:small k=true)(Q:FV×FV->Prop):callW tb (d+1) 19 [.int a,.int k] Q↔Q (.int (Lv a k),.non):=by
 have h2:small 48271=true:=by decide
 have h3:small 7919=true:=by decide
 rw[Ek (fd:=Jd) rfl rfl]
 simp[Jd,JU,h2,h3,hk,Bx,Lv]
def Lf (n:Int)(v:FV):Prop:=∃ a b c,v=.lst [.int a,.int b,.int c]/\0<=c/\c<=n
theorem Lf.mono {n m:Int}{v:FV}(h:Lf n v)(k:n<=m):Lf m v:=by
 let(a,b,c,h,h1,h2):=h
 exact⟨a,b,c,h,h1,by lia⟩
theorem nZ (d:Nat){many n:Int}{v:FV}{Q:FV×FV->Prop}(hs:Lf n v)(hn:n<1000000)(h1:0<many)(h2:many<1073741824)
  (q:∀ u v',0<=u->u<many->Lf (n+1) v'->Q (.int u,v')):callW tb (d+2) 21 [v,.int many] Q:=by
 let(a,b,c,rfl,h3,h4):=hs
 refine nr (fd:=F9) rfl rfl ?_
 have s1:small (c+1)=true:=pd ⋯ ⋯
 have s2:small (c+1+64)=true:=pd ⋯ ⋯
 by_cases ha:0<a
 ·simp[F9,GB,ixN,ha,h1,h2]
  exact q _ _ (iG _ ⋯) (er _ h1) ⟨_,_,_,rfl,by lia,by lia⟩
 ·simp[F9,GB,ixN,ha,h1,h2,Il,s1,s2]
  exact q _ _ (iG _ ⋯) (er _ h1) ⟨_,_,_,rfl,by lia,by lia⟩
theorem w9 (d:Nat)(ns:List Int) (k:Nat){Q:FV×FV->Prop}(q:∀ v y,Lf 0 v->Q (v,y)):callW tb (d+1) 20 [.scr ns,.int k] Q:=by
 refine nr (fd:=Jc) rfl rfl ?_
 have h1:small 1000003=true:=by decide
 have h2:small 0=true:=by decide
 have h4:small 10=true:=by decide
 have h5:∀ r:Bool,small (if r=true then 1 else 0)=true:=by intro r;cases r<;>decide
 simp[Jc,JT]
 split
 ·rename_i hk
  rw[oC rfl (show (ns.map FV.int)[k]?=some (.int ns[k]) by simp[hk])]
  simp[h1,h4,h5,big]
  exact⟨.inr (by by_cases hh:1000000000000000000<=(if ns[k]<0 then -ns[k] else ns[k])<;>simp only[hh,if_true,if_false]<;>decide),q _ _ ⟨_,_,_,rfl,by lia,by lia⟩⟩
 ·simp[h1,h2,h4,big]
  exact q _ _ ⟨_,_,_,rfl,by lia,by lia⟩
mutual
noncomputable def dF:D->FV
 | .non=>.non
 | .bl b=>.bl b
 | .int i=>.int i
 | .str x=>.str x
 | .tup xs=>.tup (dFs xs)
 | .lst xs=>.lst (dFs xs)
noncomputable def dFs:List D->List FV
 | []=>[]
 | x :: r=>dF x :: dFs r
end
theorem rF:∀ xs:List D,dFs xs=xs.map dF
 | []=>rfl
 | x :: r=>by rw[dFs,rF r];rfl
mutual
noncomputable def A3:D->Nat
 | .tup xs=>deps xs+1
 | .lst xs=>deps xs+1
 | .non=>0|.bl _=>0|.int _=>0|.str _=>0
noncomputable def deps:List D->Nat
 | []=>0
 | x :: r=>max (A3 x) (deps r)
end
mutual
theorem uY:∀ (x:D) (n:Nat),A3 x<n->fD n (dF x)=some x
 | .non,0,h=>by lia
 | .non,n+1,h=>rfl
 | .bl _,0,h=>by lia
 | .bl _,n+1,h=>rfl
 | .int _,0,h=>by lia
 | .int _,n+1,h=>rfl
 | .str _,0,h=>by lia
 | .str _,n+1,h=>rfl
 | .tup xs,0,h=>by lia
 | .tup xs,n+1,h=>by simp only[dF,fD];rw[fDs_dF xs n (by simp only[A3] at h;lia)];rfl
 | .lst xs,0,h=>by lia
 | .lst xs,n+1,h=>by simp only[dF,fD];rw[fDs_dF xs n (by simp only[A3] at h;lia)];rfl
theorem fDs_dF:∀ (xs:List D) (n:Nat),deps xs<n->pq (fD n) (dFs xs)=some xs
 | [],n,h=>rfl
 | x :: r,n,h=>by
  simp only[deps] at h
  simp only[dFs,pq,uY x n ⋯,fDs_dF r n ⋯,fX,hZ]
end
def Vl (k p:Nat)(x:FV):Prop:=∃ d,x=dF d/\A3 d<=p/\d.fit=true/\d.wt<=k
theorem Vl.mono {k k' p p':Nat}{x:FV}(h:Vl k p x)(hk:k<=k')(hp:p<=p'):Vl k' p' x:=by
 let(d,e,h1,h2,h3):=h
 exact⟨d,e,by lia,h2,by lia⟩
theorem Vl.all {k p:Nat}:∀ {xs:List FV},(∀ x∈xs,Vl k p x)->∃ ds:List D,xs=dFs ds/\deps ds<=p/\D.fits ds=true/\D.wts ds<=ds.length*(k+1)/\ds.length=xs.length
 | [],_=>⟨[],rfl,kR _,rfl,by simp[D.wts],rfl⟩
 | x :: r,h=>by
  let(d,e,h1,h2,h3):=h x (dX ..)
  let(ds,e',h1',h2',h3',h4'):=Vl.all (xs:=r) λy hy=>h y (cM _ hy)
  refine⟨d :: ds,by rw[e,e'];rfl,by simp only[deps];lia,by simp only[D.fits,h2,h2',j5],?_,by simp[h4']⟩
  simp only[D.wts,gp,Nat.add_mul,Nat.one_mul];lia
theorem Vl.tup {k p m:Nat}{xs:List FV}(h:∀ x∈xs,Vl k p x)(hl:xs.length<=m):Vl (m*(k+1)) (p+1) (.tup xs):=by
 let(ds,e,h1,h2,h3,h4):=Vl.all h
 refine⟨.tup ds,by rw[e];rfl,by simp only[A3];lia,by simp only[D.fit,h2],?_⟩
 simp only[D.wt]
 exact kA h3 (cF _ ⋯)
theorem Vl.lst {k p m:Nat}{xs:List FV}(h:∀ x∈xs,Vl k p x)(hl:xs.length<=m):Vl (m*(k+1)) (p+1) (.lst xs):=by
 let(ds,e,h1,h2,h3,h4):=Vl.all h
 refine⟨.lst ds,by rw[e];rfl,by simp only[A3];lia,by simp only[D.fit,h2],?_⟩
 simp only[D.wt]
 exact kA h3 (cF _ ⋯)
theorem Vl.int {i:Int}(h:-(2 ^ 40)<i)(h':i<2 ^ 40):Vl 41 0 (.int i):=⟨.int i,rfl,kT _,by simp only[D.fit,decide_eq_true_eq];lia,by simp only[D.wt];rw[if_pos ⟨h,h'⟩];exact kT _⟩
theorem Vl.non:Vl 0 0 .non:=⟨.non,rfl,kT _,rfl,kT _⟩
theorem Ho {k p:Nat}{x:FV}(h:Vl k p x)(hk:k<=big)(hp:p<40):∃ y,pW x=some y/\∀ R:Bool->Prop,wp (xk y y) R=R true:=by
 let(d,rfl,h1,h2,h3):=h
 have big':∀ e:D,A3 e<40->e.fit=true->e.wt<=big->(fD nA (dF e)).bind (λd=>if d.fit=true/\d.wt<=big then some (FV.shn d) else none)=some (.shn e):=λe h1 h2 h3=>by
  rw[uY e nA h1]
  show (if e.fit=true/\e.wt<=big then some (FV.shn e) else none)=_
  rw[if_pos ⟨h2,h3⟩]
 cases d with
 | non=>exact⟨_,rfl,λR=>by simp⟩
 | bl b=>exact⟨_,rfl,λR=>by simp⟩
 | str x=>exact⟨_,rfl,λR=>by simp⟩
 | int i =>
  simp only[D.fit,decide_eq_true_eq] at h2
  exact⟨_,(show (if -(2 ^ 150)<i/\i<2 ^ 150 then some (FV.str (toString i)) else none)=some (.str (toString i)) by rw[if_pos h2]),λR=>by simp⟩
 | tup xs=>exact⟨_,big' (.tup xs) ⋯ h2 ⋯,λR=>by simp⟩
 | lst xs=>exact⟨_,big' (.lst xs) ⋯ h2 ⋯,λR=>by simp⟩
theorem yO {α:Type}(xs:List α) (n:Nat):qh xs (some (n:Int)) none=xs.drop n:=by
 have h:sIx xs.length 0 (some (n:Int))=min n xs.length:=by simp only[sIx];rw[if_neg ⋯];simp
 unfold qh
 rw[h]
 show (xs.drop (min n xs.length)).take (xs.length-min n xs.length)=_
 by_cases hn:n<=xs.length
 ·rw[ib hn,bN (by simp)]
 ·rw[f6 ⋯,bP (kT _),bP ⋯];simp
theorem Eg {α:Type}(xs:List α) (n:Nat):qh xs none (some (n:Int))=xs.take n:=by
 have h:sIx xs.length xs.length (some (n:Int))=min n xs.length:=by simp only[sIx];rw[if_neg ⋯];simp
 unfold qh
 rw[h]
 show (xs.drop 0).take (min n xs.length-0)=_
 rw[jk,Nat.sub_zero,ca];lia
theorem sC {α β:Type}(f:α->FV)(g:β->FV):∀ (xs:List α)(ys:List β),pY (xs.map f) (ys.map g)=(xs.zip ys).map λp=>.tup [f p.1,g p.2]
 | [],ys=>rfl
 | x :: xs,[]=>rfl
 | x :: xs,y :: ys=>by
  show FV.tup [f x,g y] :: pY (xs.map f) (ys.map g)=_
  rw[sC f g xs ys];rfl
abbrev Cr:=Nat×Nat×Int
def yG (c:Cr):FV:=.tup [.int c.1,.int c.2.1,.int c.2.2]
structure Gst (ws:List Int)(cs:List Cr):Prop where
 w:∀ x∈ws,1<=x
 c:∀ x∈cs,x.1<ws.length/\x.2.1<ws.length/\x.1≠x.2.1/\1<=x.2.2
 s:∀ x∈cs.zip (cs.drop 1),lexLt [(x.1.1:Int),x.1.2.1] [(x.2.1:Int),x.2.2.1]=true
def zQ (ws:List Int)(cs:List Cr):FV:=.tup [.tup (ws.map .int),.tup (cs.map yG)]
theorem uN {cs:List Cr}(h:∀ x∈cs.zip (cs.drop 1),lexLt [(x.1.1:Int),x.1.2.1] [(x.2.1:Int),x.2.2.1]=true):(cs.map λc=>[(c.1:Int),c.2.1]).Nodup:=by
 have lt:∀ a b c d:Int,lexLt [a,b] [c,d]=true↔(a<c ∨ a=c/\b<d):=λa b c d=>by
  by_cases e:a=c
  ·subst e
   by_cases e2:b=d
   ·subst e2;simp[lexLt]
   ·simp[lexLt,e2]
  ·simp[lexLt,e]
 have go:∀ (cs:List Cr) (a b:Nat),(∀ x∈cs.zip (cs.drop 1),lexLt [(x.1.1:Int),x.1.2.1] [(x.2.1:Int),x.2.2.1]=true)->(∀ c∈cs.head?,a<c.1 ∨ a=c.1/\b<c.2.1)->(∀ c∈cs,a<c.1 ∨ a=c.1/\b<c.2.1)/\(cs.map λc=>[(c.1:Int),c.2.1]).Nodup:=by
  intro cs
  induction cs with
  | nil=>intro a b _ _;simp
  | cons x r ih =>
   intro a b hs hh
   have hx:=hh x (by simp)
   have h2:=ih x.1 x.2.1 (λp hp=>hs p (by
    cases r with
    | nil=>simp at hp
    | cons y q=>simp at hp ⊢;exact .inr hp)) (λc hc=>by
    cases r with
    | nil=>simp at hc
    | cons y q =>
     simp at hc;subst hc
     have:=(lt _ _ _ _).mp (hs (x,y) (by simp))
     dsimp only at this
     lia)
   refine⟨λc hc=>?_,?_⟩
   ·rcases jP.mp hc with rfl|hc
    ·exact hx
    ·have:=h2.1 c hc;lia
   ·simp only[jS,ik]
    refine⟨λhm=>?_,h2.2⟩
    let(c,hc,e):=kE.mp hm
    have:=h2.1 c hc
    simp at e;lia
 cases cs with
 | nil=>simp
 | cons x r =>
  have h2:=go r x.1 x.2.1 (λp hp=>h p (by
   cases r with
   | nil=>simp at hp
   | cons y q=>simp at hp ⊢;exact .inr hp)) (λc hc=>by
   cases r with
   | nil=>simp at hc
   | cons y q =>
    simp at hc;subst hc
    have:=(lt _ _ _ _).mp (h (x,y) (by simp))
    dsimp only at this
    lia)
  simp only[jS,ik]
  refine⟨λhm=>?_,h2.2⟩
  let(c,hc,e):=kE.mp hm
  have:=h2.1 c hc
  simp at e;lia
def keyH (c:Cr):List Int:=[c.1,c.2.1]
theorem CQ (d:Nat){ws:List Int}{cs:List Cr}(h:Gst ws cs)(hc:cs.length<=1000){Q:FV×FV->Prop}(q:Q (.dct (cs.map keyH) (cs.map λc=>.int c.2.2),.non)):callW tb (d+1) 0 [zQ ws cs] Q:=by
 refine nr (fd:=PP) rfl rfl ?_
 simp[PP,N3,zQ,big]
 refine⟨by lia,?_⟩
 refine wn (f:=yG) (g:=keyH) (h:=λc=>.int c.2.2) cs [] [] (by simp) (uN h.s) (λx hx K k=>?_) (by simpa using q)
 simp[yG,big]
 exact k
def r9:Option Nat->FV|none=>.non|some a=>.int a
theorem F1 (m:Int)(ks:List Int)(R:Bool->Prop):wp (Ez (.int m) (.tup (ks.map .int))) R↔R (decide (m∈ks)):=by
 have h:FV.tup (ks.map .int)=dF (.tup (ks.map .int)):=by simp[dF,rF,fE]
 have hd:∀ xs:List Int,deps (xs.map D.int)=0:=λxs=>by induction xs with|nil=>rfl|cons x r ih=>simp[deps,A3,ih]
 have e:Ez (.int m) (.tup (ks.map .int))=some (decide (m∈ks)):=by
  unfold Ez
  rw[h,show FV.int m=dF (.int m) from rfl,uY _ nA (by simp[A3,nA]),uY _ nA (by simp only[A3,hd,nA];lia)]
  simp only[fX,inD]
  congr 1
  induction ks with
  | nil=>simp
  | cons x r ih =>
   have ih:(r.map D.int).any (λy=>D.eqv y (D.int m))=decide (m∈r):=ih (by simp[dF,rF,fE])
   simp only[jS,jU,D.eqv,ih,jP]
   rw[iL];simp;constructor<;>(rintro (h|h)<;>first|exact .inl h.symm|exact .inr h)
 rw[e];exact mx
theorem uC (d:Nat){n g:Int}{v:FV}{Q:FV×FV->Prop}(hs:Lf n v)(h0:0<=n)(hn:n<100000)(q:∀ s v',1<=s->s<1000000000->Lf (n+2) v'->Q (.int s,v')):callW tb (d+3) 22 [v,.int g] Q:=by
 refine nr (fd:=Jb) rfl rfl ?_
 simp[Jb,JS,big]
 refine nZ d hs ⋯ (by decide) (by decide) λu v1 u0 u1 l1=>?_
 simp
 have fin:wp (tM [FV.int 9,FV.int 9,FV.int 40,FV.int 3] u) λz=>callW tb (d+2) 21 [v1,z] λz=>wp (nJ (FV.int 1) z.fst) λz_1=>Q (z_1,z.snd):=by
  refine xy u0 u1 ?_
  intro f hf
  obtain⟨k,rfl,k0,k1⟩:∃ k:Int,f=.int k/\0<k/\k<=40:=by
   simp at hf
   rcases hf with rfl|rfl|rfl|rfl<;>exact⟨_,rfl,by decide,by decide⟩
  refine nZ d l1 ⋯ k0 ⋯ λw v2 w0 w1 l2=>?_
  simp
  exact q _ _ ⋯ ⋯ (l2.mono ⋯)
 refine rK (λh=>?_) (λh=>fin)
 refine rK (λh=>?_) (λh=>fin)
 refine⟨by decide,nZ d l1 ⋯ (by decide) (by decide) λw v2 w0 w1 l2=>?_⟩
 simp
 exact q _ _ ⋯ ⋯ (l2.mono ⋯)
def xH (xs:List Int):Prop:=∀ x∈xs,1<=x/\x<2000000000
theorem HD (d:Nat) {n M:Int} {v:FV} {Q:FV×FV->Prop} (hs:Lf n v) (h0:0<=n) (hn:n<10000) (hM:8<=M) (hM2:M<=30) (q:∀ (ws ss:List Int) v',1<=ws.length->ws.length<=30->ss.length+1=ws.length->xH ws->xH ss->Lf (n+200) v'->Q (.tup [.tup (ws.map .int),.tup (ss.map .int)],v')):callW tb (d+4) 23 [v,.int M] Q:=by
  refine nr (fd:=Ja) rfl rfl ?_
  simp[Ja,JR,big]
  refine nZ (d+1) hs ⋯ (by decide) (by decide) λu v1 u0 u1 l1=>?_
  simp
  have tail : ∀ (m : Nat) (v2 : FV), 1 <= m -> m <= 30 -> Lf (n + 2) v2 -> callW tb (d + 3) 21 [v2, FV.int 4] fun z =>
      ou (m:Int)=true/\(tU 0 (m:Int).toNat).length<=100000 /\
        pR 5 1 (Tg.nm 5) nR
          (nh nJ (nH (callW tb (d + 3)) 22 0 (m6 (m5 3) m9))
            (nh nY (qg (m6 (eC (FV.int 0)) (m6 (eC (FV.int 9)) m9)))
              (nH (callW tb (d + 3)) 21 0 (m6 (eC (FV.int 2)) m9))))
          (tU 0 (m : Int).toNat) [] [some z.snd, some (FV.int M), some (FV.int m), some z.fst, none] fun ys L2 =>
          wp (lk (mf L2 4 (some (FV.tup ys))) 4) fun x =>
            wp (lk (mf L2 4 (some (FV.tup ys))) 2) fun x_1 =>
              wp (rJ x_1 (FV.int 1)) fun z =>
                wp (o9 z) fun j =>
                  ou j = true /\ kW L2 = 5 /\ (tU 0 j.toNat).length <= 100000 /\
                        pR 5 1 (Tg.nm 5) nR (nH (callW tb (d + 3)) 22 0 (m6 (m5 3) m9)) (tU 0 j.toNat)
                          [] (mf L2 4 (some (FV.tup ys))) fun ys L2 =>
                          wp (lk L2 0) fun x_2 => Q (FV.tup [x, FV.tup ys], x_2) := by
    intro m v2 m1 m2 l2
    refine nZ (d+1) l2 ⋯ (by decide) (by decide) λg v3 g0 g1 l3=>?_
    refine⟨nk ⋯ ⋯,?_⟩
    rw[fC,ol]
    refine⟨by simp;lia,?_⟩
    refine pV (f:=λi:Nat=>FV.int i) (I:=λds Z8 L=>∃ v' xs,L=[some v',some (.int M),some (.int m),some (.int g),none]/\Z8=xs.map .int/\xs.length=ds.length/\xH xs/\Lf (n+3+3*ds.length) v') (lK m) (lK m) [] [] _ rfl ⟨v3,[],rfl,rfl,rfl,by simp[xH],by simpa[Int.add_assoc] using l3⟩ ?_ ?_
    · rintro ds x r Z8 L K e ⟨v',xs,rfl,rfl,hl,hx,lf⟩ k
      have hd:ds.length<30:=by have:=congrArg kW e;simp at this;lia
      simp
      refine uC d lf ⋯ ⋯ λs v4 s0 s1 l4=>?_
      simp[big]
      refine nZ (d+1) l4 ⋯ (by decide) (by decide) λw v5 w0 w1 l5=>?_
      simp
      refine xy w0 w1 ?_
      intro f hf
      obtain⟨p,rfl,p0,p1⟩:∃ p:Int,f=.int p/\0<=p/\p<=9:=by
        simp at hf
        rcases hf with rfl | rfl <;> exact ⟨_, rfl, by decide, by decide⟩
      simp
      refine k _ _ ⟨v5,xs++[s+p],rfl,by simp,by simp[hl],?_,l5.mono (by simp;lia)⟩
      intro y hy
      rcases iq.mp hy with hy|hy
      · exact hx y hy
      · simp at hy;subst hy;lia
    · rintro ys L ⟨v',ws,rfl,rfl,hl,hx,lf⟩
      simp only[fu] at hl lf
      simp
      refine⟨nk ⋯ ⋯,?_⟩
      rw[ol]
      refine⟨by simp;lia,?_⟩
      refine pV (f:=λi:Nat=>FV.int i) (I:=λds Z8 L=>∃ v' xs,L=[some v',some (.int M),some (.int m),some (.int g),some (.tup (ws.map .int))]/\Z8=xs.map .int/\xs.length=ds.length/\xH xs/\Lf (n+93+3*ds.length) v') (lK (m-1)) (lK (m-1)) [] [] _ rfl ⟨v',[],rfl,rfl,rfl,by simp[xH],lf.mono (by simp;lia)⟩ ?_ ?_
      · rintro ds x r Z8 L K e ⟨v',xs,rfl,rfl,hl,hx,lf⟩ k
        have hd : ds.length < 30 := by have := congrArg kW e; simp at this; lia
        simp
        refine uC d lf ⋯ ⋯ fun s v4 s0 s1 l4 => ?_
        simp
        refine k _ _ ⟨v4, xs ++ [s], rfl, by simp, by simp [hl], ?_, l4.mono (by simp; lia)⟩
        intro y hy
        rcases iq.mp hy with hy | hy
        · exact hx y hy
        · simp at hy; subst hy; lia
      · rintro ys L ⟨v',ss,rfl,rfl,hl2,hx2,lf⟩
        simp only [fu] at hl2 lf
        simp
        exact q ws ss v' ⋯ ⋯ ⋯ hx hx2 (lf.mono ⋯)
  refine rK (λh=>?_) (λh=>?_)
  · refine nZ (d+1) l1 ⋯ (by decide) (by decide) λw v2 w0 w1 l2=>?_
    obtain⟨m,hm⟩:∃ m:Nat,1+w=m:=⟨(1+w).toNat,by lia⟩
    simp
    rw[hm]
    exact tail m v2 ⋯ ⋯ (l2.mono ⋯)
  · refine nZ (d+1) l1 ⋯ ⋯ ⋯ λw v2 w0 w1 l2=>?_
    obtain⟨m,hm⟩:∃ m:Nat,8+w=m:=⟨(8+w).toNat,by lia⟩
    simp
    rw[hm]
    exact tail m v2 ⋯ ⋯ (l2.mono ⋯)
def tO (ss:List Int):List Cr:=(lK ss.length).map λi=>(i,i+1,ss.getD i 0)
theorem EX {ws ss:List Int}(hw:xH ws)(hs:xH ss)(hl:ss.length+1=ws.length):Gst ws (tO ss):=by
 refine⟨λx hx=>(hw x hx).1,λx hx=>?_,λx hx=>?_⟩
 ·let(i,hi,rfl):=kE.mp hx
  have hi:=jh.mp hi
  refine⟨by show i<_;lia,by show i+1<_;lia,by show i≠i+1;lia,?_⟩
  show 1<=ss.getD i 0
  simp only[lP,bd hi,fV]
  exact (hs _ (gu hi)).1
 ·let(j,hj):=cj.mp hx
  let(h1,h2):=List.getElem?_zip_eq_some.mp hj
  rw[List.getElem?_drop] at h2
  simp only[tO,fx] at h1 h2
  let(a,e1,e2):=bL.mp h1
  let(b,e3,e4):=bL.mp h2
  have ha:a=j:=by have:=(aN.mp e1).2;simpa using this.symm
  have hb:b=1+j:=by have:=(aN.mp e3).2;simpa using this.symm
  rw[<- e2,<- e4,ha,hb]
  show lexLt [(j:Int),((j+1:Nat):Int)] [((1+j:Nat):Int),((1+j+1:Nat):Int)]=true
  have:¬ (j:Int)=((1+j:Nat):Int):=by lia
  rw[lexLt,if_neg this,decide_eq_true_eq]
  lia
theorem CY (ss:List Int):(tO ss).length=ss.length:=by simp[tO]
def uM (ks:List Nat) (n:Nat):List (Option Nat):=(lK n).map λm=>if m∈ks then none else some (m-1)
theorem BB (d:Nat){ws ss:List Int}(hl:ss.length<=30){Q:FV×FV->Prop}(q:Q (zQ ws (tO ss),.non)):callW tb (d+1) 4 [.tup [.tup (ws.map .int),.tup (ss.map .int)]] Q:=by
 refine nr (fd:=PK) rfl rfl ?_
 simp[PK,Q7,big]
 rw[ol,sC]
 refine⟨by simp;lia,?_⟩
 refine or (g:=λp:Nat×Int=>yG (p.1,p.1+1,p.2)) ((lK ss.length).zip ss) [] (λx hx K k=>?_) ?_
 ·simp[big]
  simpa[yG] using k
 ·have e:((lK ss.length).zip ss).map (λp:Nat×Int=>yG (p.1,p.1+1,p.2))=(tO ss).map yG:=by
   apply gy
   ·simp[tO]
   ·intro i h1 h2
    simp at h1 h2
    have:i<ss.length:=by simpa[tO] using h2
    simp[tO,this,lP]
  rw[il,e]
  simpa[zQ] using q
theorem F0 (m:Nat)(ks:List Nat)(R:Bool->Prop):wp (Ez (.int m) (.tup (ks.map λi:Nat=>.int i))) R↔R (decide (m∈ks)):=by
 have ek:(ks.map λi:Nat=>FV.int i)=(ks.map λi:Nat=>(i:Int)).map .int:=by simp
 rw[ek,F1]
 have:((m:Int)∈ks.map λi:Nat=>(i:Int))↔m∈ks:=by
  rw[kE]
  exact⟨λ⟨a,h,e⟩=>(show a=m by lia) ▸ h,λh=>⟨m,h,rfl⟩⟩
 simp only[this]
theorem EY (d:Nat){ws ss:List Int}{ks:List Nat}(hl:ws.length<=30)(h0:0∈ks){Q:FV×FV->Prop}(q:Q (.tup ((uM ks ws.length).map r9),.non)):callW tb (d+1) 5 [.tup [.tup (ws.map .int),.tup (ss.map .int)],.tup (ks.map λi:Nat=>.int i)] Q:=by
 refine nr (fd:=PJ) rfl rfl ?_
 simp[PJ,N2,big]
 refine⟨nk ⋯ ⋯,?_⟩
 rw[ol]
 refine⟨by simp;lia,?_⟩
 refine or (f:=λi:Nat=>FV.int i) (g:=λm=>r9 (if m∈ks then none else some (m-1))) (lK ws.length) [] (λm hm K k=>?_) ?_
 ·simp[F0]
  refine rK (λh=>?_) (λh=>?_)
  ·rw[if_pos h] at k;simpa[r9] using k
  ·rw[if_neg h] at k
   have hm0:m≠0:=λz=>h (by rw[z];exact h0)
   have:((m-1:Nat):Int)=(m:Int)-1:=by lia
   simpa[r9,this] using k
 ·simp
  simpa[uM,fE] using q
theorem Bc {α:Type}(xs:List α) (i t:Nat):qh xs (some (i:Int)) (some ((i:Int)+(t:Int)))=(xs.drop i).take t:=by
 have h1:sIx xs.length 0 (some (i:Int))=min i xs.length:=by simp only[sIx];rw[if_neg ⋯];simp
 have h2:sIx xs.length xs.length (some ((i:Int)+(t:Int)))=min (i+t) xs.length:=by simp only[sIx];rw[if_neg ⋯];congr 1
 unfold qh
 rw[h1,h2]
 by_cases hi:i<=xs.length
 ·rw[ib hi,ca,gn];lia
 ·rw[f6 (show xs.length<=i by lia),bP (kT _),bP ⋯];simp
theorem Bb {α:Type}(xs:List α){i j:Nat}(h:i<=j):qh xs (some (i:Int)) (some (j:Int))=(xs.drop i).take (j-i):=by
 obtain⟨t,rfl⟩:∃ t,j=i+t:=⟨j-i,by lia⟩
 rw[Nat.add_sub_cancel_left,<- Bc];simp
def kp (ws ss:List Int)(ks:List Nat) (m:Nat):Int:=if m∈ks then ws.getD m 0 else ss.getD (m-1) 0
def pD (ks:List Nat):Nat->List Nat
 | 0=>[0]
 | m+1=>if m+1∈ks then [m+1] else pD ks m++[m+1]
def nu (ws ss:List Int) (b e:Nat):Int:=ws.getD b 0+((ss.drop b).take (e-1-b)).sum
def rd (ws ss:List Int)(ks:List Nat) (m:Nat):Int:=((pD ks m).map (kp ws ss ks)).sum
theorem AQ:∀ {cs:List Cr}{c:Cr},(cs.map keyH).Nodup->c∈cs->n9 (cs.map keyH) (cs.map λc=>FV.int c.2.2) (keyH c)=some (.int c.2.2)
 | x :: r,c,hn,hc=>by
  simp only[jS,ik] at hn
  show (if keyH x=keyH c then some (FV.int x.2.2) else n9 (r.map keyH) (r.map λc=>FV.int c.2.2) (keyH c))=_
  rcases jP.mp hc with rfl|hc
  ·rw[if_pos rfl]
  ·rw[if_neg λe:keyH x=keyH c=>hn.1 (by rw[e];exact kE.mpr ⟨c,hc,rfl⟩)]
   exact AQ hn.2 hc
theorem yD (ws:List Int)(cs:List Cr)(Q:List FV->Prop):wp (oG (zQ ws cs)) Q↔Q [.tup (ws.map .int),.tup (cs.map yG)]:=mx
theorem qH {xs:List Int}{i:Nat}(h:i<xs.length)(Q:FV->Prop):wp (tM (xs.map .int) (i:Int)) Q↔Q (.int (xs.getD i 0)) :=
 oC rfl (by rw[fx,bd h];simp[lP,h])
theorem CI {xs:List Int}(hl:xs.length<=1000)(h:∀ x∈xs,0<=x/\x<2000000000){Q:Int->Prop}(q:Q xs.sum):wp (ze (xs.map .int)) Q:=by
 simp only[ze,pC,ints_map,nT]
 rw[pK]
 refine⟨⟨by simp only[big];lia,?_⟩,q⟩
 rw[gB]
 intro x hx
 have:=h x hx
 simp only[su,decide_eq_true_eq];lia
theorem DL (ks:List Nat) (n:Nat):pY ((lK n).map λi:Nat=>FV.int i) ((uM ks n).map r9)=(lK n).map λm:Nat=>FV.tup [.int (m:Int),r9 (if m∈ks then none else some (m-1))]:=by
 rw[sC]
 apply gy
 ·simp[uM]
 ·intro i h1 h2
  simp[uM]
structure Rw (ws ss:List Int)(ks:List Nat):Prop where
 hw:xH ws
 hs:xH ss
 hl:ss.length+1=ws.length
 hn:ws.length<=30
 h0:0∈ks
 hc:ks.length<=30
 hp:ks.Pairwise (· < ·)
 hk:∀ k∈ks,k<ws.length
theorem t0 {xs:List Int}(h:xH xs){i:Nat}(hi:i<xs.length):1<=xs.getD i 0/\xs.getD i 0<2000000000:=by
 rw[lP,bd hi];exact h _ (gu hi)
theorem LG {ws ss:List Int}{ks:List Nat}(h:Rw ws ss ks){m:Nat}(hm:m<ws.length):1<=kp ws ss ks m/\kp ws ss ks m<2000000000:=by
 unfold kp
 split
 ·exact t0 h.hw hm
 ·rename_i hk
  have:m≠0:=λz=>hk (z ▸ h.h0)
  have:=h.hl
  exact t0 h.hs ⋯
def yF (ks:List Nat) (n:Nat):FV:=.tup ((uM ks n).map r9)
theorem rD (ks:List Nat) (n:Nat)(Q:List FV->Prop):wp (oG (yF ks n)) Q↔Q ((uM ks n).map r9):=mx
theorem yo (ks:List Nat) (n:Nat):(uM ks n).length=n:=by simp[uM]
theorem Iw (d:Nat){ws ss:List Int}{ks:List Nat}(h:Rw ws ss ks){Q:FV×FV->Prop}(q:Q (.lst (((lK ws.length).map (kp ws ss ks)).map .int),.non)):callW tb (d+2) 1 [zQ ws (tO ss),yF ks ws.length] Q:=by
 have hn:=h.hn
 have hl:=h.hl
 have hG:=EX h.hw h.hs h.hl
 refine nr (fd:=PN) rfl rfl ?_
 simp[PN,Ra]
 refine CQ d hG (by rw[CY];lia) ?_
 simp[rD,yo,yD]
 rw[ol,DL]
 refine⟨by simp[big];lia,?_⟩
 refine or (g:=λm=>.int (kp ws ss ks m)) (lK ws.length) [] (λm hm K k=>?_) ?_
 ·have hm:=jh.mp hm
  by_cases hk:m∈ks
  ·rw[kp,if_pos hk] at k
   simp[hk,r9,yD]
   rw[qH hm]
   exact k
  ·rw[kp,if_neg hk] at k
   have m0:m≠0:=λz=>hk (z ▸ h.h0)
   have mem:((m-1,m,ss.getD (m-1) 0):Cr)∈tO ss:=kE.mpr ⟨m-1,jh.mpr ⋯,by rw[show m-1+1=m by lia]⟩
   have e:=AQ (uN hG.s) mem
   simp only[keyH] at e
   simp[hk,r9,big]
   rw[e]
   exact k
 ·simpa[kG,fE] using q
theorem wB {ks:List Nat}:∀ {m i:Nat},i∈pD ks m->i<=m
 | 0,i,h=>by simp[pD] at h;lia
 | m+1,i,h=>by
  unfold pD at h
  split at h
  ·simp at h;lia
  ·rcases iq.mp h with h|h
   ·have:=wB h;lia
   ·simp at h;lia
theorem wC {ks:List Nat}:∀ m:Nat,(pD ks m).length<=m+1/\1<=(pD ks m).length
 | 0=>by simp[pD]
 | m+1=>by
  unfold pD
  split
  ·simp
  ·have:=wC (ks:=ks) m;simp;lia
def Jp (ks:List Nat) (m:Nat):FV:=.tup ((pD ks m).map λi:Nat=>.int i)
theorem D6 (ks:List Nat) (m:Nat)(Q:List FV->Prop):wp (oG (Jp ks m)) Q↔Q ((pD ks m).map λi:Nat=>.int i):=mx
theorem Bg {ks:List Nat}{n i:Nat}(h:i<n)(Q:FV->Prop):wp (tM ((uM ks n).map r9) (i:Int)) Q↔Q (r9 (if i∈ks then none else some (i-1))) :=
 oC rfl (by simp[uM,h])
theorem He (d:Nat){ks:List Nat}{n m:Nat}(hn:n<=30)(h0:0∈ks)(hm:m<n){Q:FV×FV->Prop}(q:Q (Jp ks m,.non)):callW tb (d+1) 2 [yF ks n,.int m] Q:=by
 refine nr (fd:=PM) rfl rfl ?_
 simp[PM,Q9,big,rD]
 rw[Bg hm]
 -- out++the way of what is yet to come,read backwards
 refine so (I:=λt L=>∃ (o:Option Nat)(out:List Nat),L=[some (yF ks n),some (.int m),some (.lst (out.map λi:Nat=>.int i)),some (r9 o)]/\out.length+t<=31/\(match o with|none=>pD ks m=out.reverse|some p=>p<m/\t=p+1/\pD ks m=pD ks p++out.reverse)) ?_ (m:=m) ⟨if m∈ks then none else some (m-1),[m],rfl,by simp;lia,?_⟩
 ·rintro t L K ⟨o,out,rfl,hl,ho⟩ k
  cases o with
  | none =>
   dsimp only at ho
   simp[r9]
   simpa[Jp,ho] using q
  | some p =>
   let(hp,rfl,hw):=ho
   simp[r9,big,rD]
   refine⟨by lia,?_⟩
   rw[Bg ⋯]
   by_cases hk:p∈ks
   ·refine k 0 _ ⋯ ⟨none,out++[p],by simp[hk],by simp;lia,?_⟩
    show pD ks m=_
    rw[hw]
    cases p with
    | zero=>simp[pD]
    | succ p=>simp[pD,hk]
   ·have p0:p≠0:=λz=>hk (z ▸ h0)
    obtain⟨r,rfl⟩:∃ r,p=r+1:=⟨p-1,by lia⟩
    refine k (r+1) _ ⋯ ⟨some r,out++[r+1],by simp[hk],by simp;lia,by lia,rfl,?_⟩
    rw[hw]
    simp[pD,hk]
 ·by_cases hk:m∈ks
  ·rw[if_pos hk]
   show pD ks m=_
   cases m with
   | zero=>simp[pD]
   | succ m=>simp[pD,hk]
  ·have p0:m≠0:=λz=>hk (z ▸ h0)
   obtain⟨r,rfl⟩:∃ r,m=r+1:=⟨m-1,by lia⟩
   rw[if_neg hk]
   refine⟨by lia,?_,?_⟩
   ·rfl
   ·simp[pD,hk]
def nQ (ws ss:List Int):FV:=.tup [.tup (ws.map .int),.tup (ss.map .int)]
theorem nM (ws ss:List Int)(Q:List FV->Prop):wp (oG (nQ ws ss)) Q↔Q [.tup (ws.map .int),.tup (ss.map .int)]:=mx
def P6 (ks:List Nat):FV:=.tup (ks.map λi:Nat=>.int i)
theorem C0 (d:Nat){ws ss:List Int}{ks:List Nat}(h:Rw ws ss ks){Q:FV×FV->Prop}(q:Q (.tup (((lK ws.length).map (rd ws ss ks)).map .int),.non)):callW tb (d+3) 3 [zQ ws (tO ss),yF ks ws.length] Q:=by
 have hn:=h.hn
 refine nr (fd:=PL) rfl rfl ?_
 simp[PL,Q8]
 refine Iw d h ?_
 simp[rD,yo]
 refine⟨nk ⋯ ⋯,?_⟩
 rw[ol]
 refine⟨by simp[big];lia,?_⟩
 refine or (f:=λi:Nat=>FV.int i) (g:=λm=>.int (rd ws ss ks m)) (lK ws.length) [] (λm hm K k=>?_) ?_
 ·have hm:=jh.mp hm
  have hwl:=(wC (ks:=ks) m).1
  simp
  refine He (d+1) h.hn h.h0 hm ?_
  simp[D6]
  refine⟨by simp[big];lia,?_⟩
  refine or (f:=λi:Nat=>FV.int i) (g:=λi=>.int (kp ws ss ks i)) (pD ks m) [] (λi hi K k=>?_) ?_
  ·have hi:=wB hi
   simp
   rw[oC rfl (show ((lK ws.length).map (FV.int ∘ kp ws ss ks))[i]?=some (.int (kp ws ss ks i)) by simp[show i<ws.length by lia])]
   exact k
  ·have e:((pD ks m).map λi=>FV.int (kp ws ss ks i))=((pD ks m).map (kp ws ss ks)).map .int:=by simp
   rw[il,e]
   rw[ints_map,nT]
   exact k
 ·simpa[kG,fE] using q
theorem BC (d:Nat){ws ss:List Int}{ks:List Nat}(h:Rw ws ss ks){Q:FV×FV->Prop}(q:Q (.tup (((lK ws.length).map (rd ws ss ks)).map .int),.non)):callW tb (d+4) 6 [nQ ws ss,P6 ks] Q:=by
 have hn:=h.hn
 have hl:=h.hl
 refine nr (fd:=PH) rfl rfl ?_
 simp[PH,N1]
 refine BB (d+2) ⋯ ?_
 dsimp only
 refine EY (d+2) h.hn h.h0 ?_
 dsimp only
 exact C0 d h q
theorem Fs {xs:List Int}{x:Int}{r:List Int}(h:xs=x :: r)(Q:FV->Prop):wp (BR (xs.map .int)) Q↔Q (.int (n8 x r)):=by
 subst h
 simp only[BR,ints_map,fX];rfl
theorem xO {i:Int}(h:-1<=i)(h':i<2 ^ 60):ou i=true:=by
 simp only[ou,decide_eq_true_eq];lia
theorem wD {b n:Nat}(h:b<n){i j:Int}(hi:i=((b+1:Nat):Int))(hj:j=(n:Int)+1):tU i (j-i).toNat=(kU (b+1) (n-b)).map λi:Nat=>FV.int i:=by
 subst hi hj
 rw[show ((n:Int)+1-((b+1:Nat):Int)).toNat=n-b by lia];exact yX _ _
theorem ye (d:Nat){ws ss:List Int}{b e:Nat}(hs:xH ss)(hl:ss.length<=30)(h:b<=e)(hb:b<ws.length){i:Int}(hi:i=e+1){Q:FV×FV->Prop}(q:Q (.int (nu ws ss b (e+1)),.non)):callW tb (d+1) 24 [nQ ws ss,.int b,.int i] Q:=by
 subst hi
 refine nr (fd:=IZ) rfl rfl ?_
 simp[IZ,GA,nM]
 rw[qH hb]
 simp
 rw[Bb _ h,<- jR,<- jQ]
 refine CI (by simp;lia) ?_ ?_
 ·intro x hx
  have:=hs x (cJ (cI hx))
  lia
 ·simpa[nu] using q
theorem EK {xs:List Int}(hl:xs.length<=1000)(h:∀ x∈xs,0<=x/\x<=100000000000){Q:Int->Prop}(q:Q xs.sum):wp (ze (xs.map .int)) Q:=by
 simp only[ze,pC,ints_map,nT]
 rw[pK]
 refine⟨⟨by simp only[big];lia,?_⟩,q⟩
 rw[gB]
 intro x hx
 have:=h x hx
 simp only[su,decide_eq_true_eq];lia
theorem ui:∀ {xs:List Int},(∀ x∈xs,0<=x/\x<=2000000000)->0<=xs.sum/\xs.sum<=2000000000*xs.length
 | [],_=>by simp
 | x :: r,h=>by
  have:=ui λy hy=>h y (cM _ hy)
  have:=h x (by simp)
  simp only[jO,gp,iF]
  lia
def pb (n:Nat):List Nat->Nat
 | []=>n
 | k :: _=>k
def vp (ok:Nat->Nat->Bool) (n:Nat):List Nat->Prop
 | []=>True
 | k :: r=>k<pb n r/\ok k (pb n r)=true/\vp ok n r
def pc (c:Nat->Nat->Int) (n:Nat):List Nat->Int
 | []=>0
 | k :: r=>c k (pb n r)+pc c n r
def vR:List Nat->List Nat->Bool
 | [],[]=>false
 | [],_ :: _=>true
 | _ :: _,[]=>false
 | a :: r,b :: q=>if a=b then vR r q else decide (a<b)
abbrev PT:=Int×List Nat
def qe (x y:PT):Bool:=if x.1=y.1 then vR x.2 y.2 else decide (x.1<y.1)
theorem wX:∀ a:List Nat,vR a a=false
 | []=>rfl
 | a :: r=>by simp[vR,wX r]
theorem vQ:∀ {a b c:List Nat},vR a b=true->vR b c=true->vR a c=true
 | [],[],_,h,_=>by cases h
 | [],b :: q,[],_,h=>by cases h
 | [],b :: q,c :: s,_,_=>rfl
 | a :: r,[],_,h,_=>by cases h
 | a :: r,b :: q,[],_,h=>by cases h
 | a :: r,b :: q,c :: s,h,g=>by
  simp only[vR] at h g ⊢
  by_cases e1:a=b
  ·subst e1
   rw[if_pos rfl] at h
   by_cases e2:a=c
   ·subst e2;rw[if_pos rfl] at g ⊢;exact vQ h g
   ·rw[if_neg e2] at g ⊢;exact g
  ·rw[if_neg e1] at h
   have h:=of_decide_eq_true h
   by_cases e2:b=c
   ·subst e2;rw[if_neg e1];exact decide_eq_true h
   ·rw[if_neg e2] at g
    have g:=of_decide_eq_true g
    rw[if_neg ⋯];exact decide_eq_true ⋯
theorem AA:∀ {a b:List Nat},vR a b=false->vR b a=false->a=b
 | [],[],_,_=>rfl
 | [],b :: q,h,_=>by cases h
 | a :: r,[],_,h=>by cases h
 | a :: r,b :: q,h,g=>by
  simp only[vR] at h g
  by_cases e:a=b
  ·subst e
   rw[if_pos rfl] at h g
   rw[AA h g]
  ·rw[if_neg e] at h
   rw[if_neg (mq e)] at g
   have h:=of_decide_eq_false h
   have g:=of_decide_eq_false g
   lia
theorem wZ (a:PT):qe a a=false:=by simp[qe,wX]
theorem vS {a b c:PT}(h:qe a b=true)(g:qe b c=true):qe a c=true:=by
 simp only[qe] at h g ⊢
 by_cases e1:a.1=b.1
 ·rw[if_pos e1] at h
  by_cases e2:b.1=c.1
  ·rw[if_pos e2] at g;rw[if_pos (e1.trans e2)];exact vQ h g
  ·rw[if_neg e2] at g
   have g:=of_decide_eq_true g
   rw[if_neg ⋯];exact decide_eq_true ⋯
 ·rw[if_neg e1] at h
  have h:=of_decide_eq_true h
  by_cases e2:b.1=c.1
  ·rw[if_neg ⋯];exact decide_eq_true ⋯
  ·rw[if_neg e2] at g
   have g:=of_decide_eq_true g
   rw[if_neg ⋯];exact decide_eq_true ⋯
theorem wY {a b:PT}(h:qe a b=false)(g:qe b a=false):a=b:=by
 simp only[qe] at h g
 by_cases e1:a.1=b.1
 ·rw[if_pos e1] at h;rw[if_pos e1.symm] at g
  exact Prod.ext e1 (AA h g)
 ·rw[if_neg e1] at h;rw[if_neg (mq e1)] at g
  have h:=of_decide_eq_false h
  have g:=of_decide_eq_false g
  lia
theorem sY {a b c:PT}(h:qe b a=false)(g:qe c b=false):qe c a=false:=by
 cases e:qe c a with
 | false=>rfl
 | true =>
  cases e2:qe a b with
  | true=>rw[vS e e2] at g;cases g
  | false=>rw[wY e2 h,g] at e;cases e
theorem xc {a b:PT}(h:qe b a=false):a.1<=b.1:=by
 simp only[qe] at h
 by_cases e:b.1=a.1
 ·lia
 ·rw[if_neg e] at h
  have:=of_decide_eq_false h
  lia
theorem yd {c:Int}{i:Nat}{x y:PT}:qe (c+x.1,i :: x.2) (c+y.1,i :: y.2)=qe x y:=by
 simp only[qe,vR,if_true]
 by_cases e:x.1=y.1
 ·rw[if_pos e,if_pos ⋯]
 ·rw[if_neg e,if_neg ⋯]
  congr 1
  exact propext ⟨λh=>by lia,λh=>by lia⟩
theorem sI {α:Type}(lt:α->α->Bool):∀ (xs:List α)(b:α),n6 lt b xs∈b :: xs
 | [],b=>by simp[n6]
 | x :: r,b=>by
  have:=sI lt r (if lt x b=true then x else b)
  show n6 lt (if lt x b=true then x else b) r∈_
  split at this<;>rename_i h
  ·rw[if_pos h];exact cM _ this
  ·rw[if_neg h]
   rcases jP.mp this with e|e
   ·rw[e];simp
   ·exact cM _ (cM _ e)
theorem sH:∀ (xs:List PT)(b:PT),∀ x∈b :: xs,qe x (n6 qe b xs)=false
 | [],b,x,h=>by
  rcases jP.mp h with rfl|h
  ·exact wZ _
  ·cases h
 | y :: r,b,x,h=>by
  show qe x (n6 qe (if qe y b=true then y else b) r)=false
  have ih:=sH r (if qe y b=true then y else b)
  have h0:=ih _ dX
  rcases jP.mp h with rfl|h
  ·by_cases e:qe y x=true
   ·rw[if_pos e] at h0 ⊢
    refine sY h0 ?_
    cases e2:qe x y with
    | false=>rfl
    | true=>have:=vS e e2;rw[wZ] at this;cases this
   ·rw[if_neg e] at h0 ⊢;exact h0
  ·rcases jP.mp h with rfl|h
   ·by_cases e:qe x b=true
    ·rw[if_pos e] at h0 ⊢;exact h0
    ·rw[if_neg e] at h0 ⊢
     exact sY h0 (by simpa using e)
   ·exact ih x (cM _ h)
def Bst (ok:Nat->Nat->Bool)(c:Nat->Nat->Int) (n i:Nat):Option PT->Prop
 | some p=>p.1=pc c n p.2/\pb n p.2=i/\vp ok n p.2/\∀ ks,pb n ks=i->vp ok n ks->qe (pc c n ks,ks) p=false
 | none=>∀ ks,pb n ks=i->¬ vp ok n ks
section
variable {ok ok':Nat->Nat->Bool}{c:Nat->Nat->Int}{n:Nat}
theorem Bst.uniq {i:Nat}{o o':Option PT}(h:Bst ok c n i o)(h':Bst ok c n i o'):o=o':=by
 cases o with
 | none =>
  cases o' with
  | none=>rfl
  | some p=>exact absurd h'.2.2.1 (h _ h'.2.1)
 | some p =>
  cases o' with
  | none=>exact absurd h.2.2.1 (h' _ h.2.1)
  | some q =>
   have a:=h.2.2.2 q.2 h'.2.1 h'.2.2.1
   have b:=h'.2.2.2 p.2 h.2.1 h.2.2.1
   rw[<- h'.1] at a
   rw[<- h.1] at b
   exact congrArg some (wY b a)
theorem uc:∀ {ks:List Nat},vp ok n ks->(∀ k∈ks,k<n)/\ks.Pairwise (· < ·)/\∀ k∈ks,pb n ks<=k
 | [],_=>by simp
 | k :: r,h=>by
  let(h1,h2,h3):=h
  let(a,b,d):=uc h3
  have hk:k<n:=by
   cases r with
   | nil=>exact h1
   | cons x q=>have:=a x (by simp);simp[pb] at h1;lia
  refine⟨λx hx=>?_,dS.mpr ⟨λx hx=>?_,b⟩,λx hx=>?_⟩
  ·rcases jP.mp hx with rfl|hx
   ·exact hk
   ·exact a x hx
  ·have:=d x hx;lia
  ·show k<=x
   rcases jP.mp hx with rfl|hx
   ·exact kT _
   ·have:=d x hx;lia
theorem qV {ks:List Nat}(h:vp ok n ks):pb n ks<=n:=by
 cases ks with
 | nil=>exact kT _
 | cons k r=>exact kB ((uc h).1 k (by simp))
theorem sT:∀ {ks:List Nat},vp ok n ks->ks.length+pb n ks<=n
 | [],_=>by simp[pb]
 | k :: r,⟨h1,_,h3⟩=>by
  have:=sT h3
  show r.length+1+k<=n
  lia
theorem rG:Bst ok c n n (some (0,[])):=by
 refine⟨rfl,rfl,trivial,λks h1 h2=>?_⟩
 cases ks with
 | nil=>exact wZ _
 | cons k r=>have:=(uc h2).1 k (by simp);simp[pb] at h1;lia
theorem yV {i:Nat}(hi:i<n)(h:∀ e,i<e->e<=n->ok i e=true->Bst ok c n e none):Bst ok c n i none:=by
 intro ks h1 h2
 cases ks with
 | nil=>simp[pb] at h1;lia
 | cons k r =>
  cases (show k=i from h1)
  exact h _ h2.1 (qV h2.2.2) h2.2.1 r rfl h2.2.2
theorem vi {i:Nat}{B:Nat->Option PT}(hi:i<n)(hB:∀ e,i<e->e<=n->Bst ok c n e (B e)){p:PT}(hp:∃ e,i<e/\e<=n/\ok i e=true/\∃ q,B e=some q/\p=(c i e+q.1,i :: q.2))
  (hl:∀ e q,i<e->e<=n->ok i e=true->B e=some q->qe (c i e+q.1,i :: q.2) p=false):Bst ok c n i (some p):=by
 let(e,h1,h2,h3,q,hq,rfl):=hp
 have b:=hB e h1 h2
 rw[hq] at b
 let(b1,b2,b3,b4):=b
 refine⟨?_,rfl,⟨by rw[b2];exact h1,by rw[b2];exact h3,b3⟩,λks k1 k2=>?_⟩
 ·show c i e+q.1=c i (pb n q.2)+pc c n q.2
  rw[b2,b1]
 ·cases ks with
  | nil=>simp[pb] at k1;lia
  | cons k r =>
   cases (show k=i from k1)
   let(k3,k4,k5):=k2
   have hn:=qV k5
   have b':=hB (pb n r) k3 hn
   cases e2:B (pb n r) with
   | none=>rw[e2] at b';exact absurd k5 (b' r rfl)
   | some q' =>
    rw[e2] at b'
    have l1:=hl _ q' k3 hn k4 e2
    have l2:=b'.2.2.2 r rfl k5
    refine sY l1 ?_
    show qe (c i (pb n r)+(pc c n r,r).1,i :: (pc c n r,r).2) (c i (pb n r)+q'.1,i :: q'.2)=false
    rw[yd];exact l2
theorem wq {i:Nat}{o:Option PT}(hk:∀ a e,a<e->e<=n->ok a e=ok' a e)(h:Bst ok c n i o):Bst ok' c n i o:=by
 have hv:∀ ks,vp ok n ks↔vp ok' n ks:=by
  intro ks
  induction ks with
  | nil=>exact mx
  | cons k r ih =>
   constructor
   ·exact λ⟨a,b,d⟩=>⟨a,by rw[<- hk _ _ a (qV d)];exact b,ih.mp d⟩
   ·exact λ⟨a,b,d⟩=>⟨a,by rw[hk _ _ a (qV d)];exact b,ih.mpr d⟩
 cases o with
 | none=>exact λks h1 h2=>h ks h1 ((hv ks).mpr h2)
 | some p=>exact⟨h.1,h.2.1,(hv _).mp h.2.2.1,λks h1 h2=>h.2.2.2 ks h1 ((hv ks).mpr h2)⟩
end
section
variable {ok:Nat->Nat->Bool}{c:Nat->Nat->Int}{n:Nat}{B:Nat->Option PT}
theorem Ep {i:Nat}(hi:i<n)(hB:∀ e,i<e->e<=n->Bst ok c n e (B e)):∃ o,Bst ok c n i o:=by
 obtain⟨ps,hps⟩:∃ ps,ps=((kU (i+1) (n-i)).filter λe=>ok i e).filterMap λe=>(B e).map λq:PT=>(c i e+q.1,i :: q.2):=⟨_,rfl⟩
 have hin:∀ p,p∈ps↔∃ e,i<e/\e<=n/\ok i e=true/\∃ q,B e=some q/\p=(c i e+q.1,i :: q.2):=by
  intro p
  rw[hps,dW]
  constructor
  ·rintro⟨e,he,h2⟩
   let(q,hq,rfl):=bL.mp h2
   let(h3,h4):=ip.mp he
   have:=ft.mp h3
   exact⟨e,by lia,by lia,h4,q,hq,rfl⟩
  ·rintro⟨e,h1,h2,h3,q,hq,rfl⟩
   exact⟨e,ip.mpr ⟨ft.mpr ⋯,h3⟩,by rw[hq];rfl⟩
 cases ps with
 | nil =>
  refine⟨none,yV hi λe h1 h2 h3=>?_⟩
  cases hBe:B e with
  | none=>have:=hB e h1 h2;rw[hBe] at this;exact this
  | some p=>exact absurd ((hin _).mpr ⟨e,h1,h2,h3,p,hBe,rfl⟩) (by simp)
 | cons p0 pr =>
  refine⟨some (n6 qe p0 pr),vi hi hB ((hin _).mp (sI qe pr p0)) λe q h1 h2 h3 h4=>?_⟩
  exact sH pr p0 _ ((hin _).mpr ⟨e,h1,h2,h3,q,h4,rfl⟩)
theorem sR {i:Nat}{p:PT}(hi:i<n)(hB:∀ e,i<=e->e<=n->Bst ok c n e (B e))(hp:B i=some p):∃ r,p.2=i :: r/\i<pb n r/\pb n r<=n/\ok i (pb n r)=true/\B (pb n r)=some (pc c n r,r)/\p.1=c i (pb n r)+pc c n r:=by
 have b:=hB i (kT _) ⋯
 rw[hp] at b
 let(b1,b2,b3,b4):=b
 let(t,ks):=p
 cases ks with
 | nil=>have:n=i:=b2;lia
 | cons k r =>
  cases (show k=i from b2)
  let(v1,v2,v3):=b3
  have hn:=qV v3
  refine⟨r,rfl,v1,hn,v2,?_,b1⟩
  have b':=hB (pb n r) ⋯ hn
  cases e2:B (pb n r) with
  | none=>rw[e2] at b';exact absurd v3 (b' r rfl)
  | some q =>
   rw[e2] at b'
   let(d1,d2,d3,d4):=b'
   have l1:=d4 r rfl v3
   have l2:=b4 (i :: q.2) rfl ⟨by rw[d2];exact v1,by rw[d2];exact v2,d3⟩
   have e3:(pc c n (i :: q.2),i :: q.2)=(c i (pb n r)+q.1,i :: q.2):=by show (c i (pb n q.2)+pc c n q.2,_)=_;rw[d2,d1]
   have e4:((t,i :: r):PT)=(c i (pb n r)+(pc c n r,r).1,i :: (pc c n r,r).2):=by rw[show t=pc c n (i :: r) from b1];rfl
   rw[e3,e4,yd] at l2
   exact congrArg some (wY l2 l1)
theorem xv {i e:Nat}{p q:PT}(hB:∀ e,i<=e->e<=n->Bst ok c n e (B e))(hp:B i=some p)(h1:i<e)(h2:e<=n)(h3:ok i e=true)(hq:B e=some q):qe (c i e+q.1,i :: q.2) p=false:=by
 have b:=hB i (kT _) ⋯
 rw[hp] at b
 have b':=hB e ⋯ h2
 rw[hq] at b'
 let(d1,d2,d3,_):=b'
 have l:=b.2.2.2 (i :: q.2) rfl ⟨by rw[d2];exact h1,by rw[d2];exact h3,d3⟩
 have e3:(pc c n (i :: q.2),i :: q.2)=(c i e+q.1,i :: q.2):=by show (c i (pb n q.2)+pc c n q.2,_)=_;rw[d2,d1]
 rw[e3] at l;exact l
theorem Eo {i:Nat}{p:PT}(hi:i<n)(hB:∀ e,i<=e->e<=n->Bst ok c n e (B e))(hp:B i=some p){r:List Nat}(hr:p.2=i :: r) :
  (∀ e q,i<e->e<=n->ok i e=true->B e=some q->c i e+q.1=p.1->(e=n->pb n r=n)/\(pb n r≠n->pb n r<=e)):=by
 intro e q h1 h2 h3 hq he
 have l:=xv hB hp h1 h2 h3 hq
 let(t,ks):=p
 cases (show ks=i :: r from hr)
 have he:c i e+q.1=t:=he
 have l2:vR q.2 r=false:=by simpa[qe,he,vR] using l
 clear l
 have b':=hB e ⋯ h2
 rw[hq] at b'
 let(d1,d2,d3,_):=b'
 constructor
 ·intro hen
  have hq2:q.2=[]:=by
   cases hq2:q.2 with
   | nil=>rfl
   | cons k s =>
    rw[hq2] at d2 d3
    have:=(uc d3).1 k (by simp)
    have:k=e:=d2
    lia
  rw[hq2] at l2
  cases r with
  | nil=>rfl
  | cons k s=>cases l2
 ·intro hn
  cases r with
  | nil=>exact absurd rfl hn
  | cons k s =>
   cases hq2:q.2 with
   | nil=>rw[hq2] at l2;cases l2
   | cons k' s' =>
    rw[hq2] at l2 d2
    have hk:k'=e:=d2
    subst hk
    show k<=k'
    have l2:(if k'=k then vR s' s else decide (k'<k))=false:=l2
    by_cases z:k'=k
    ·lia
    ·rw[if_neg z] at l2
     have:=of_decide_eq_false l2
     lia
end
theorem sh (ok:Nat->Nat->Bool)(c:Nat->Nat->Int) (n:Nat):∀ t,t<=n->∃ B:Nat->Option PT,∀ e,n-t<=e->e<=n->Bst ok c n e (B e)
 | 0,_=>⟨λ_=>some (0,[]),λe h1 h2=>by
  have:e=n:=by lia
  subst this;exact rG⟩
 | t+1,ht=>by
  let(B,hB):=sh ok c n t ⋯
  let(o,ho):=Ep (ok:=ok) (c:=c) (n:=n) (i:=n-(t+1)) (B:=B) ⋯ λe h1 h2=>hB e ⋯ h2
  refine⟨λe=>if e=n-(t+1) then o else B e,λe h1 h2=>?_⟩
  by_cases z:e=n-(t+1)
  ·simp only[z,if_true];exact ho
  ·simp only[z,if_false];exact hB e ⋯ h2
theorem sQ (ok:Nat->Nat->Bool)(c:Nat->Nat->Int) (n:Nat):∃ o,Bst ok c n 0 o:=by
 let(B,hB):=sh ok c n n (kT _)
 exact⟨B 0,hB 0 ⋯ (kR _)⟩
theorem yW {ok:Nat->Nat->Bool}{n:Nat}(h:∀ i,i<n->ok i (i+1)=true):∀ t,t<=n->vp ok n (kU (n-t) t)/\pb n (kU (n-t) t)=n-t
 | 0,_=>⟨trivial,by simp[pb]⟩
 | t+1,ht=>by
  let(a,b):=yW h t ⋯
  rw[show n-(t+1)=n-t-1 by lia,gf,show n-t-1+1=n-t by lia]
  refine⟨⟨by rw[b];lia,?_,a⟩,rfl⟩
  rw[b]
  have:=h (n-t-1) ⋯
  rwa [show n-t-1+1=n-t by lia] at this
structure Rwo (ws ss:List Int):Prop where
 hw:xH ws
 hs:xH ss
 hl:ss.length+1=ws.length
 hn:ws.length<=30
theorem wL {ws ss:List Int}(h:Rwo ws ss){b e:Nat}(hb:b<ws.length):1<=nu ws ss b e/\nu ws ss b e<=100000000000:=by
 have h1:=ui (xs:=(ss.drop b).take (e-1-b)) λx hx=>by
  have:=h.hs x (cJ (cI hx))
  lia
 have h2:=t0 h.hw hb
 have h3:((ss.drop b).take (e-1-b)).length<=ss.length:=by simp;lia
 have:=h.hl
 have:=h.hn
 unfold nu
 lia
theorem tV (d:Nat){ws ss:List Int}(h:Rwo ws ss){b e:Nat}(hb:b<ws.length)(he:b<e){i:Int}(hi:i=e){Q:FV×FV->Prop}(q:Q (.int (nu ws ss b e),.non)):callW tb (d+1) 7 [nQ ws ss,.int b,.int i] Q:=by
 subst hi
 have hn:=h.hn
 have hl:=h.hl
 refine nr (fd:=PF) rfl rfl ?_
 simp[PF,Q6,nQ]
 rw[qH hb]
 have e1:(e:Int)-1=((e-1:Nat):Int):=by lia
 simp
 rw[e1,Bb _ (show b<=e-1 by lia),<- jR,<- jQ]
 refine CI (by simp;lia) ?_ ?_
 ·intro x hx
  have:=h.hs x (cJ (cI hx))
  lia
 ·simpa[nu] using q
def oO (p:PT):FV:=.tup [.int p.1,.tup (p.2.map λi:Nat=>.int i)]
def r6:Option PT->FV
 | none=>.non
 | some p=>oO p
theorem Ga (n:Nat)(hn:1<n)(ks:List Nat):fD n (.tup (ks.map λi:Nat=>.int i))=some (.tup (ks.map λi:Nat=>.int i)):=by
 obtain⟨m,rfl⟩:∃ m,n=m+2:=⟨n-2,by lia⟩
 have:pq (fD (m+1)) (ks.map λi:Nat=>FV.int i)=some (ks.map λi:Nat=>D.int i):=by
  induction ks with
  | nil=>rfl
  | cons k r ih =>
   show ((some (D.int k)).bind λy=>(pq (fD (m+1)) (r.map λi:Nat=>FV.int i)).map (y :: ·))=_
   rw[ih];rfl
 show (pq (fD (m+1)) (ks.map λi:Nat=>FV.int i)).map D.tup=_
 rw[this];rfl
theorem wc:∀ a b:List Nat,D.eqvs (a.map λi:Nat=>.int i) (b.map λi:Nat=>.int i)=decide (a=b)
 | [],[]=>by simp[D.eqvs]
 | [],b :: q=>by simp[D.eqvs]
 | a :: r,[]=>by simp[D.eqvs]
 | a :: r,b :: q=>by
  simp only[jS,D.eqvs,D.eqv,wc r q]
  by_cases h:a=b
  ·subst h;simp
  ·have:¬ (a:Int)=(b:Int):=by lia
   simp[h,this]
theorem vT:∀ a b:List Nat,ltDs (a.map λi:Nat=>.int i) (b.map λi:Nat=>.int i)=some (vR a b)
 | [],[]=>by simp[ltDs,vR]
 | [],b :: q=>by simp[ltDs,vR]
 | a :: r,[]=>by simp[ltDs,vR]
 | a :: r,b :: q=>by
  simp only[jS,ltDs,D.eqv,vR,DD,vT r q]
  by_cases h:a=b
  ·subst h;simp
  ·have:¬ (a:Int)=(b:Int):=by lia
   simp[h,this]
def yE (p:PT):D:=.tup [.int p.1,.tup (p.2.map λi:Nat=>.int i)]
theorem Gg (p:PT):fD nA (oO p)=some (yE p):=by
 have:=Ga 39 (by decide) p.2
 show ((some (D.int p.1)).bind λy=>((fD 39 (FV.tup (p.2.map λi:Nat=>.int i))).bind λz=>(some []).map (z :: ·)).map (y :: ·)).map D.tup=_
 rw[this];rfl
theorem Gf (a b:PT):DD (yE a) (yE b)=some (qe a b):=by
 simp only[yE,DD,ltDs,D.eqv,wc,vT,qe]
 by_cases e:a.1=b.1
 ·rw[if_pos e,if_pos (by simpa using e)]
  by_cases e2:a.2=b.2
  ·rw[e2,if_pos (by simp),wX]
  ·rw[if_neg (by simpa using e2)]
 ·rw[if_neg e,if_neg (by simpa using e)]
theorem Lw (p:PT)(r:List PT)(Q:FV->Prop):wp (uB (.lst ((p :: r).map oO))) Q↔Q (oO (n6 qe p r)):=Ft oO yE qe Gg Gf (λa ps z=>nomatch z) p r Q
theorem Aj {κ α:Type} [DecidableEq κ] {k:κ}{v:α}:∀ (r:List κ)(q:List α),r.length=q.length->k ∉ r->kD (λk' v'=>if k'=k then v else v') r q=q
 | [],[],_,_=>rfl
 | [],a :: b,h,_=>by simp at h
 | a :: b,[],h,_=>by simp at h
 | a :: b,a' :: b',h,hr=>by
  have h1:¬ a=k:=λz=>hr (by simp[z])
  rw[bM,if_neg h1,Aj b b' (by simpa using h) λz=>hr (cM _ z)]
theorem uR {κ α:Type} [DecidableEq κ]:∀ {ks:List κ}{vs:List α}(k:κ)(v:α)(j:κ),ks.length=vs.length->n9 (oS ks vs k v).1 (oS ks vs k v).2 j=if j=k then some v else n9 ks vs j:=by
 have go1:∀ {ks:List κ}{vs:List α}(k:κ)(v:α)(j:κ),ks.length=vs.length->k∈ks->n9 ks (kD (λk' v'=>if k'=k then v else v') ks vs) j=if j=k then some v else n9 ks vs j:=by
  intro ks
  induction ks with
  | nil=>intro vs k v j _ h;simp at h
  | cons x r ih =>
   intro vs k v j hl hk
   cases vs with
   | nil=>simp at hl
   | cons y q =>
    simp only[bM,n9]
    by_cases e:x=j
    ·subst e
     by_cases e2:x=k
     ·subst e2;simp
     ·simp[e2]
    ·rw[if_neg e,if_neg e]
     by_cases hr:k∈r
     ·exact ih k v j (by simpa using hl) hr
     ·have hx:k=x:=by simpa[hr] using hk
      subst hx
      have:=Aj (k:=k) (v:=v) r q (by simpa using hl) hr
      rw[this,if_neg (mq e)]
 have Kg:∀ {ks:List κ}{vs:List α}(k:κ)(v:α)(j:κ),ks.length=vs.length->k ∉ ks->n9 (ks++[k]) (vs++[v]) j=if j=k then some v else n9 ks vs j:=by
  intro ks
  induction ks with
  | nil =>
   intro vs k v j hl _
   have:vs=[]:=by cases vs with|nil=>rfl|cons=>simp at hl
   subst this
   simp only[il,n9]
   by_cases e:k=j
   ·subst e;simp
   ·simp[e,mq e]
  | cons x r ih =>
   intro vs k v j hl hk
   cases vs with
   | nil=>simp at hl
   | cons y q =>
    simp only[gz,n9]
    by_cases e:x=j
    ·subst e
     have:¬ x=k:=λz=>hk (by simp[z])
     simp[this]
    ·rw[if_neg e,if_neg e]
     exact ih k v j (by simpa using hl) λz=>hk (cM _ z)
 intro ks vs k v j hl
 unfold oS
 by_cases e:k∈ks
 ·rw[if_pos e];exact go1 k v j hl e
 ·rw[if_neg e];exact Kg k v j hl e
theorem sX:∀ (xs:List Int) (b:Int),n8 b xs∈b :: xs
 | [],b=>by simp[n8]
 | x :: r,b=>by
  have:=sX r (if x<b then x else b)
  show n8 (if x<b then x else b) r∈_
  split at this<;>rename_i h
  ·rw[if_pos h];exact cM _ this
  ·rw[if_neg h]
   rcases jP.mp this with e|e
   ·rw[e];simp
   ·exact cM _ (cM _ e)
theorem qv:∀ (xs:List Int) (b:Int),n8 b xs<=b/\∀ x∈xs,n8 b xs<=x
 | [],b=>⟨kZ _,by simp⟩
 | x :: r,b=>by
  have:=qv r (if x<b then x else b)
  show n8 (if x<b then x else b) r<=b/\∀ y∈x :: r,n8 (if x<b then x else b) r<=y
  refine⟨by have:=this.1;split at this<;>lia,λy hy=>?_⟩
  rcases jP.mp hy with rfl|hy
  ·have:=this.1;split at this<;>lia
  ·exact this.2 y hy
theorem ua (xs:List FV)(v:FV)(Q:FV->Prop):wp (tM (xs++[v]) (-1)) Q↔Q v:=by
 have:ixN (xs++[v]).length (-1)=some xs.length:=by
  simp only[ixN,dY,gp,iy]
  rw[if_neg (by decide),if_pos ⋯]
  congr 1;lia
 unfold tM
 rw[this]
 simp
theorem Gv (xs:List FV)(v:FV):qh (xs++[v]) none (some (-1))=xs:=by
 unfold qh sIx
 simp
 rw[show ((-1:Int)+((xs.length:Int)+1)).toNat=xs.length by lia,List.take_left]
theorem u5 (n:Nat){i:Int}(h:i=(n:Int)-1){k:Nat}(hk:k=n):qy i k=(lK n).reverse.map λi:Nat=>FV.int i:=by
 subst h hk;exact sO _
structure Ask (n:Nat)(as:List Int) (r:Int):Prop where
 len:as.length=n
 a:∀ x∈as,0<=x/\x<=2000000000
 r0:0<=r
 r1:r<=2000000000
def vD (ws ss as:List Int) (i e:Nat):Int:=((kU i (e-i)).map λm=>as.getD m 0*nu ws ss i (m+1)).sum
def sc (ws ss as:List Int) (r:Int) (i e:Nat):Int:=r*nu ws ss i e+vD ws ss as i e
theorem tz (ws ss as:List Int) (i:Nat):vD ws ss as i i=0:=by simp[vD]
theorem qA (ws ss as:List Int){i e:Nat}(h:i<=e):vD ws ss as i (e+1)=vD ws ss as i e+as.getD e 0*nu ws ss i (e+1):=by
 unfold vD
 rw[show e+1-i=(e-i)+1 by lia,dR,ir,ig]
 simp[show i+(e-i)=e by lia]
theorem vI {ws ss:List Int}{i e:Nat}(h:i<e)(he:e<=ss.length):nu ws ss i (e+1)=nu ws ss i e+ss.getD (e-1) 0:=by
 obtain⟨t,rfl⟩:∃ t,e=i+t+1:=⟨e-i-1,by lia⟩
 unfold nu
 rw[show i+t+1+1-1-i=t+1 by lia,show i+t+1-1-i=t by lia,show i+t+1-1=i+t by lia]
 rw[ae (by simp;lia),ig]
 simp[lP,show i+t<ss.length by lia]
 lia
theorem xL (ws ss:List Int) (i:Nat):nu ws ss i (i+1)=ws.getD i 0:=by simp[nu]
theorem Hw (ws ss as:List Int) (r:Int) (i:Nat):sc ws ss as r i (i+1)=(r+as.getD i 0)*ws.getD i 0:=by
 rw[sc,qA _ _ _ (kT _),tz,xL,Int.add_mul,Int.zero_add]
theorem ER {ws ss as:List Int}{r:Int}{i e:Nat}(h:i<e)(he:e<=ss.length):sc ws ss as r i (e+1)=sc ws ss as r i e+r*ss.getD (e-1) 0+as.getD e 0*nu ws ss i (e+1):=by
 rw[sc,qA _ _ _ (kB h),sc,vI h he,Int.mul_add]
 lia
theorem xz {n:Nat}{as:List Int}{r:Int}(h:Ask n as r){i:Nat}(hi:i<n):0<=as.getD i 0/\as.getD i 0<=2000000000:=by
 rw[lP,bd (by rw[h.len];exact hi)]
 exact h.a _ (gu _)
theorem zy {a b A B:Int}(h1:0<=a)(h2:a<=A)(h3:0<=b)(h4:b<=B):0<=a*b/\a*b<=A*B:=by
 refine⟨jm h1 h3,?_⟩
 have h5:=Int.mul_le_mul_of_nonneg_right h2 h3
 have h6:=ai h4 (show 0<=A by lia)
 lia
theorem Bi {ws ss as:List Int}{r:Int}(h:Rwo ws ss)(ha:Ask ws.length as r){i:Nat}(hi:i<ws.length):∀ t,i+t<=ws.length->0<=vD ws ss as i (i+t)/\vD ws ss as i (i+t)<=200000000000000000000*(t:Int)
 | 0,_=>by rw[Nat.add_zero,tz];simp
 | t+1,ht=>by
  have ih:=Bi h ha hi t ⋯
  rw[show i+(t+1)=(i+t)+1 by lia,qA _ _ _ ⋯]
  have h1:=xz ha (show i+t<ws.length by lia)
  have h2:=wL h hi (e:=i+t+1)
  have h3:=zy h1.1 h1.2 (show 0<=nu ws ss i (i+t+1) by lia) h2.2
  lia
theorem KQ {ws ss as:List Int}{r:Int}(h:Rwo ws ss)(ha:Ask ws.length as r){i e:Nat}(hi:i<e)(he:e<=ws.length):0<=sc ws ss as r i e/\sc ws ss as r i e<=10000000000000000000000:=by
 have hn:=h.hn
 have h1:=Bi h ha (show i<ws.length by lia) (e-i) ⋯
 rw[show i+(e-i)=e by lia] at h1
 have h2:=wL h (show i<ws.length by lia) (e:=e)
 have h3:=zy ha.r0 ha.r1 (show 0<=nu ws ss i e by lia) h2.2
 unfold sc
 lia
theorem CN {ok:Nat->Nat->Bool}{ws ss as:List Int}{r:Int}(h:Rwo ws ss)(ha:Ask ws.length as r):∀ {ks:List Nat},vp ok ws.length ks->0<=pc (sc ws ss as r) ws.length ks/\pc (sc ws ss as r) ws.length ks<=10000000000000000000000*(ks.length:Int)
 | [],_=>by simp[pc]
 | k :: q,hk=>by
  have h1:=CN h ha hk.2.2
  have h2:=KQ h ha hk.1 (qV hk.2.2)
  show 0<=sc ws ss as r k (pb ws.length q)+pc (sc ws ss as r) ws.length q/\sc ws ss as r k (pb ws.length q)+pc (sc ws ss as r) ws.length q<=10000000000000000000000*((q.length+1:Nat):Int)
  lia
def BN:Nat->Nat->Bool:=λ_ _=>true
theorem Dt {c:Nat->Nat->Int}{n i:Nat}(hi:i<=n){o:Option PT}(h:Bst BN c n i o):∃ p,o=some p:=by
 cases o with
 | some p=>exact⟨p,rfl⟩
 | none =>
  have:=yW (ok:=BN) (n:=n) (λi _=>rfl) (n-i) ⋯
  rw[show n-(n-i)=i by lia] at this
  exact absurd this.1 (h _ this.2)
theorem Fo (c:Nat->Nat->Int) (n:Nat):∃ P:Nat->PT,∀ j,j<=n->Bst BN c n j (some (P j)):=by
 let(B,hB):=sh BN c n n (kT _)
 have:∀ j,∃ p:PT,j<=n->B j=some p:=λj=>by
  by_cases hj:j<=n
  ·let(p,hp):=Dt hj (hB j ⋯ hj)
   exact⟨p,λ_=>hp⟩
  ·exact⟨(0,[]),λz=>absurd z hj⟩
 let(P,hP):=bz this
 exact⟨P,λj hj=>by have:=hB j ⋯ hj;rwa [hP j hj] at this⟩
def sM (as:List Int):FV:=.tup (as.map .int)
theorem u4 (as:List Int)(Q:List FV->Prop):wp (oG (sM as)) Q↔Q (as.map .int):=mx
theorem vE {α:Type}:∀ xs:List α,xs.zip xs=xs.map λx=>(x,x)
 | []=>rfl
 | x :: r=>by simp[vE r]
theorem CM (d:Nat){ws ss as:List Int}{r:Int}(h:Rwo ws ss)(ha:Ask ws.length as r){i:Nat}(hi:i<ws.length){Q:FV×FV->Prop}(q:Q (.lst ((kU (i+1) (ws.length-i)).map λe=>.int (sc ws ss as r i e)),.non)):callW tb (d+2) 18 [nQ ws ss,sM as,.int r,.int i] Q:=by
 have hn:=h.hn
 have r0:=ha.r0
 have r1:=ha.r1
 refine nr (fd:=Je) rfl rfl ?_
 simp[Je,JV,nM]
 refine⟨⟨nk ⋯ ⋯,nk ⋯ ⋯⟩,?_⟩
 refine p8 (I:=λj L=>∃ a b,L=[some (nQ ws ss),some (sM as),some (.int r),some (.int i),some (.lst ((kU (i+1) (j-i)).map λe=>.int (sc ws ss as r i e))),some (.int (vD ws ss as i j)),a,b]) (ws.length-i) i _ ⟨none,none,by simp[tz]⟩ ?_ ?_
 ·rintro j L K h1 h2 ⟨a,b,rfl⟩ k
  have hj:j<ws.length:=by lia
  simp
  refine tV d h hi (e:=j+1) ⋯ ⋯ ?_
  simp[u4]
  rw[qH (by rw[ha.len];exact hj)]
  have g1:0<=as[j]?.getD 0/\as[j]?.getD 0<=2000000000:=xz ha hj
  simp[big]
  refine⟨.inl (pd ⋯ ⋯),.inl (pd ⋯ ⋯),by lia,?_⟩
  refine k _ ?_
  rw[show j+1-i=(j-i)+1 by lia,dR,ir,qA _ _ _ h1]
  refine⟨some (.int j),some (.int (nu ws ss i (j+1))),?_⟩
  rw[show [i+1+1*(j-i)].map (λe=>FV.int (sc ws ss as r i e))=[FV.int (r*nu ws ss i (j+1)+(vD ws ss as i j+as.getD j 0*nu ws ss i (j+1)))] by
   rw[show i+1+1*(j-i)=j+1 by lia];simp only[jS,kF,sc,qA _ _ _ h1]]
  rfl
 ·rintro L ⟨a,b,rfl⟩
  simp
  exact q
theorem yU (d:Nat){ws ss as:List Int}{r:Int}(h:Rwo ws ss)(ha:Ask ws.length as r){P:Nat->PT}(hP:∀ j,j<=ws.length->Bst BN (sc ws ss as r) ws.length j (some (P j))){Q:FV×FV->Prop}(q:Q (.lst ((lK (ws.length+1)).map λj=>oO (P j)),.non)):callW tb (d+3) 17 [nQ ws ss,sM as,.int r] Q:=by
 have hn:=h.hn
 refine nr (fd:=Jf) rfl rfl ?_
 simp[Jf,JW,nM,big]
 refine⟨nk ⋯ ⋯,?_⟩
 rw[sO]
 have pn:P ws.length=(0,[]):=hW ((hP ws.length (kT _)).uniq rG)
 refine p9 (f:=λi:Nat=>FV.int i) (I:=λds L=>∃ (i:Nat)(a b c:Option FV),L=[some (nQ ws ss),some (sM as),some (.int r),some (.lst ((kU i (ws.length+1-i)).map λj=>oO (P j))),a,b,c]/\i+ds.length=ws.length) (lK ws.length).reverse (lK ws.length).reverse [] _ rfl ⟨ws.length,none,none,none,by rw[show ws.length+1-ws.length=1 by lia];simp[oO,pn],rfl⟩ ?_ ?_
 ·rintro ds x q' L K e ⟨i,a,b,c,rfl,hi⟩ k
  have hx:x+1=i:=by
   have e2:=congrArg (λl=>l[ds.length]?) e
   have hd:ds.length<ws.length:=by have:=congrArg kW e;simp at this;lia
   simp[cu,hd] at e2
   lia
  subst hx
  have hxn:x<ws.length:=by lia
  simp
  refine CM d h ha hxn ?_
  simp
  rw[sC,vE,kG]
  refine⟨by simp[big];lia,?_⟩
  refine or (f:=(λp:Nat×Nat=>FV.tup [FV.int (sc ws ss as r x p.1),oO (P p.2)]) ∘ λx=>(x,x)) (g:=λe=>oO (sc ws ss as r x e+(P e).1,x :: (P e).2)) _ [] (λe he K2 k2=>?_) ?_
  ·have he:=ft.mp he
   have hl:(P e).2.length<=30:=by
    have:=sT (hP e ⋯).2.2.1
    lia
   simp[oO,big]
   refine⟨by lia,?_⟩
   simpa[oO] using k2
  ·obtain⟨t,ht⟩:∃ t,ws.length-x=t+1:=⟨ws.length-x-1,by lia⟩
   obtain⟨p0,pr,hpl⟩:∃ p0 pr,(kU (x+1) (ws.length-x)).map (λe=>(sc ws ss as r x e+(P e).1,x :: (P e).2))=p0 :: pr:=by
    rw[ht,gf,jS];exact⟨_,_,rfl⟩
   have hm:(kU (x+1) (ws.length-x)).map (λe=>oO (sc ws ss as r x e+(P e).1,x :: (P e).2))=(p0 :: pr).map oO:=by
    rw[<- hpl,kG];rfl
   have hin:∀ p,p∈p0 :: pr↔∃ e,x<e/\e<=ws.length/\p=(sc ws ss as r x e+(P e).1,x :: (P e).2):=λp=>by
    rw[<- hpl,kE]
    constructor
    ·rintro⟨e,h1,rfl⟩;have:=ft.mp h1;exact⟨e,by lia,by lia,rfl⟩
    ·rintro⟨e,h1,h2,rfl⟩;exact⟨e,ft.mpr ⋯,rfl⟩
   have hmin:n6 qe p0 pr=P x:=by
    let(e,h1,h2,h3):=(hin _).mp (sI qe pr p0)
    have:=vi (ok:=BN) (c:=sc ws ss as r) (n:=ws.length) (i:=x) (B:=λe=>some (P e)) (p:=n6 qe p0 pr) hxn (λe _ h2=>hP e h2) ⟨e,h1,h2,rfl,_,rfl,h3⟩ λe' q2 h4 h5 _ h6=>by
     cases h6
     exact sH pr p0 _ ((hin _).mpr ⟨e',h4,h5,rfl⟩)
    exact hW (this.uniq (hP x ⋯))
   rw[il,hm]
   simp only[dQ,List.set_cons_zero,LD,LF,nT]
   rw[Lw,hmin]
   simp[big]
   refine⟨by lia,?_⟩
   refine k _ ⟨x,some (.int x),some (.lst ((kU (x+1) (ws.length-x)).map λe=>.int (sc ws ss as r x e))),some (.lst ((p0 :: pr).map oO)),?_,by simp;lia⟩
   rw[show ws.length+1-x=(ws.length-x)+1 by lia,gf]
   simp
 ·rintro L ⟨i,a,b,c,rfl,hi⟩
  have hi0:i=0:=by simp at hi;lia
  subst hi0
  simp
  rw[cG] at q
  exact q
theorem Fv (d:Nat){ws ss as:List Int}{r:Int}(h:Rwo ws ss)(ha:Ask ws.length as r){P:Nat->PT}(hP:∀ j,j<=ws.length->Bst BN (sc ws ss as r) ws.length j (some (P j))){Q:FV×FV->Prop}(q:Q (oO (P 0),.non)):callW tb (d+4) 15 [nQ ws ss,sM as,.int r] Q:=by
 refine nr (fd:=Jh) rfl rfl ?_
 simp[Jh,GD]
 refine yU d h ha hP ?_
 simp
 rw[oC (i:=0) (n:=0) rfl (show ((lK (ws.length+1)).map λj=>oO (P j))[0]?=some (oO (P 0)) by simp)]
 exact q
theorem GH (d:Nat){n:Int}{v:FV}{m:Nat}{Q:FV×FV->Prop}(hs:Lf n v)(h0:0<=n)(hn:n<10000)(hm:m<=30)(q:∀ (as:List Int) (r:Int) v',Ask m as r->Lf (n+70) v'->Q (.tup [sM as,.int r],v')):callW tb (d+3) 28 [v,.int m] Q:=by
 refine nr (fd:=IV) rfl rfl ?_
 simp[IV,JN,big]
 refine⟨by decide,?_⟩
 refine nZ (d+1) hs ⋯ (by decide) (by decide) λu v1 u0 u1 l1=>?_
 simp
 refine xy u0 u1 λf hf=>?_
 obtain⟨M,rfl,M0,M1⟩:∃ M:Int,f=.int M/\0<M/\M<=1000000001:=by
  simp at hf
  rcases hf with rfl|rfl|rfl|rfl|rfl<;>exact⟨_,rfl,by decide,by decide⟩
 refine nZ (d+1) l1 ⋯ (by decide) (by decide) λc v2 c0 c1 l2=>?_
 simp
 refine⟨nk ⋯ ⋯,?_⟩
 rw[ol]
 refine⟨by simp;lia,?_⟩
 refine pV (f:=λi:Nat=>FV.int i) (I:=λds Z8 L=>∃ (v':FV)(xs:List Int),L=[some v',some (.int m),some (.int M),some (.int c),none,none]/\Z8=xs.map .int/\xs.length=ds.length/\(∀ x∈xs,0<=x/\x<=2000000000)/\Lf (n+2+2*ds.length) v') (lK m) (lK m) [] [] _ rfl ⟨v2,[],rfl,rfl,rfl,by simp,l2.mono (by simp;lia)⟩ ?_ ?_
 ·rintro ds x r Z8 L K e ⟨v',xs,rfl,rfl,hl,hx,lf⟩ k
  have hd:ds.length<30:=by have:=congrArg kW e;simp at this;lia
  simp
  refine nZ (d+1) lf ⋯ M0 ⋯ λa v3 a0 a1 l3=>?_
  simp
  refine nZ (d+1) l3 ⋯ (by decide) (by decide) λb v4 b0 b1 l4=>?_
  simp
  refine⟨.inl (pd ⋯ ⋯),?_⟩
  have hab:=zy a0 (show a<=1000000000 by lia) b0 (show b<=2 by lia)
  refine k _ _ ⟨v4,xs++[a*b / 2],rfl,by simp,by simp[hl],?_,l4.mono (by simp;lia)⟩
  intro y hy
  rcases iq.mp hy with hy|hy
  ·exact hx y hy
  ·simp at hy;subst hy;lia
 ·rintro ys L ⟨v',xs,rfl,rfl,hl,hx,lf⟩
  simp only[fu] at hl lf
  simp
  refine nZ (d+1) lf ⋯ (by decide) (by decide) λa v3 a0 a1 l3=>?_
  simp
  refine⟨by decide,?_⟩
  refine nZ (d+1) l3 ⋯ (by decide) (by decide) λb v4 b0 b1 l4=>?_
  simp[big]
  refine xy c0 c1 λf hf=>?_
  obtain⟨r,rfl,r0,r1⟩:∃ r:Int,f=.int r/\0<=r/\r<=1000000001:=by
   simp at hf
   rcases hf with rfl|rfl|rfl|rfl|rfl
   ·exact⟨_,rfl,by decide,by decide⟩
   ·exact⟨_,rfl,by decide,by decide⟩
   ·exact⟨_,rfl,by lia,by lia⟩
   ·exact⟨_,rfl,by lia,by lia⟩
   ·exact⟨_,rfl,by decide,by decide⟩
  exact q xs r v4 ⟨hl,hx,r0,by lia⟩ (l4.mono ⋯)
structure Cst (c:Nat->Nat->Int) (n:Nat)(ks:List (List Int))(vs:List FV):Prop where
 at':∀ b e:Nat,b<e->e<=n->n9 ks vs [(b:Int),(e:Int)]=some (.int (c b e))
theorem Eh (d:Nat){ws ss as:List Int}{r:Int}(h:Rwo ws ss)(ha:Ask ws.length as r){Q:FV×FV->Prop}(q:∀ ks vs,Cst (sc ws ss as r) ws.length ks vs->Q (.dct ks vs,.non)):callW tb (d+1) 29 [nQ ws ss,sM as,.int r] Q:=by
 have hn:=h.hn
 have hl:=h.hl
 have r0:=ha.r0
 have r1:=ha.r1
 refine nr (fd:=IU) rfl rfl ?_
 simp[IU,JM,nM]
 refine⟨nk ⋯ ⋯,?_⟩
 refine p8 (I:=λi L=>∃ (ks:List (List Int))(vs:List FV)(a b c e f:Option FV),L=[some (nQ ws ss),some (sM as),some (.int r),some (.int ws.length),some (.dct ks vs),a,b,c,e,f]/\ks.length=vs.length/\ks.length<=31*i/\∀ b' e':Nat,b'<i->b'<e'->e'<=ws.length->n9 ks vs [(b':Int),(e':Int)]=some (.int (sc ws ss as r b' e'))) ws.length 0 _ ⟨[],[],_,_,_,_,_,rfl,rfl,by simp,λb' e' h1=>by lia⟩ ?_ ?_
 ·rintro i L K-hi ⟨ks,vs,a,b,c,e,f,rfl,hkl,hkb,hg⟩ k
  have hi:i<ws.length:=by lia
  simp[nM]
  rw[qH hi]
  simp[u4]
  rw[qH (by rw[ha.len];exact hi)]
  have g1:0<=as[i]?.getD 0/\as[i]?.getD 0<=2000000000:=xz ha hi
  simp[big]
  refine⟨.inl (pd ⋯ ⋯),by lia,⟨nk ⋯ ⋯,nk ⋯ ⋯⟩,?_⟩
  rw[show (r+as[i]?.getD 0)*ws[i]?.getD 0=sc ws ss as r i (i+1) from (Hw ws ss as r i).symm,show ws[i]?.getD 0=nu ws ss i (i+1) from (xL ws ss i).symm]
  have pl:=qq ks vs [(i:Int),(i:Int)+1] (.int (sc ws ss as r i (i+1))) hkl
  rw[show (i:Int)+1=((i+1:Nat):Int) by lia] at *
  refine p8 (I:=λj L=>∃ (ks:List (List Int))(vs:List FV)(e f:Option FV),L=[some (nQ ws ss),some (sM as),some (.int r),some (.int ws.length),some (.dct ks vs),some (.int i),some (.int (nu ws ss i j)),some (.int (sc ws ss as r i j)),e,f]/\ks.length=vs.length/\ks.length<=31*i+(j-i)/\i<j/\∀ b' e':Nat,(b'<i/\e'<=ws.length ∨ b'=i/\e'<=j)->b'<e'->n9 ks vs [(b':Int),(e':Int)]=some (.int (sc ws ss as r b' e'))) _ (i+1) _ ⟨_,_,e,f,rfl,pl.1,by lia,by lia,λb' e' h1 h2=>?_⟩ ?_ ?_
  ·rw[uR _ _ _ hkl]
   by_cases z:b'=i
   ·have:e'=i+1:=by lia
    subst z this
    rw[if_pos rfl]
   ·rw[if_neg (by simp;lia)]
    exact hg b' e' ⋯ h2 ⋯
  ·rintro j L K2 h1 h2 ⟨ks,vs,e,f,rfl,hkl,hkb,hij,hg⟩ k2
   have hj:j<ws.length:=by lia
   simp[nM]
   rw[oC (i:=(j:Int)-1) (n:=j-1) ⋯ (show (ss.map FV.int)[j-1]?=some (.int (ss.getD (j-1) 0)) by rw[fx,bd ⋯];simp[lP,show j-1<ss.length by lia])]
   simp[u4]
   rw[qH (by rw[ha.len];exact hj)]
   have g1:0<=as[j]?.getD 0/\as[j]?.getD 0<=2000000000:=xz ha hj
   have e1:nu ws ss i j+ss[j-1]?.getD 0=nu ws ss i (j+1):=(vI hij ⋯).symm
   have e2:sc ws ss as r i j+r*ss[j-1]?.getD 0+as[j]?.getD 0*nu ws ss i (j+1)=sc ws ss as r i (j+1):=(ER hij ⋯).symm
   simp[big]
   rw[e1,e2]
   refine⟨.inl (pd ⋯ ⋯),.inl (pd ⋯ ⋯),by lia,?_⟩
   have pl:=qq ks vs [(i:Int),(j:Int)+1] (.int (sc ws ss as r i (j+1))) hkl
   refine k2 _ ⟨_,_,_,_,rfl,pl.1,by lia,by lia,λb' e' h3 h4=>?_⟩
   rw[uR _ _ _ hkl]
   by_cases z:b'=i/\e'=j+1
   ·let(rfl,rfl):=z
    rw[if_pos (by simp)]
   ·rw[if_neg (by simp;lia)]
    exact hg b' e' ⋯ h4
  ·rintro L ⟨ks,vs,e,f,rfl,hkl,hkb,hij,hg⟩
   refine k _ ⟨ks,vs,_,_,_,_,_,rfl,hkl,by lia,λb' e' h1 h2 h3=>hg b' e' ?_ h2⟩
   lia
 ·rintro L ⟨ks,vs,a,b,c,e,f,rfl,hkl,hkb,hg⟩
  simp
  exact q ks vs ⟨λb' e' h1 h2=>hg b' e' ⋯ h1 h2⟩
theorem BQ {c:Nat->Nat->Int}{n x:Nat}{P:Nat->PT}(hx:x<n)(hP:∀ j,j<=n->Bst BN c n j (some (P j))){t:Int}{tr:List Int}(h:(kU (x+1) (n-x)).map (λe=>c x e+(P e).1)=t :: tr):n8 t tr=(P x).1:=by
 have hin:∀ y,y∈t :: tr↔∃ e,x<e/\e<=n/\y=c x e+(P e).1:=λy=>by
  rw[<- h,kE]
  constructor
  ·rintro⟨e,h1,rfl⟩;have:=ft.mp h1;exact⟨e,by lia,by lia,rfl⟩
  ·rintro⟨e,h1,h2,rfl⟩;exact⟨e,ft.mpr ⋯,rfl⟩
 have hB:∀ e,x<=e->e<=n->Bst BN c n e ((λe=>some (P e)) e):=λe _ h2=>hP e h2
 let(e,h1,h2,h3):=(hin _).mp (sX tr t)
 have l1:=xc (xv (B:=λe=>some (P e)) hB rfl h1 h2 rfl rfl)
 let(r,f0,f1,f2,f3,f4,f5):=sR (B:=λe=>some (P e)) hx hB rfl
 have l2:=(hin _).mpr ⟨_,f1,f2,rfl⟩
 have l3:n8 t tr<=c x (pb n r)+(P (pb n r)).1:=by
  rcases jP.mp l2 with z|z
  ·rw[z];exact (qv tr t).1
  ·exact (qv tr t).2 _ z
 have f4:P (pb n r)=(pc c n r,r):=hW f4
 rw[f4] at l3
 have l1:(P x).1<=c x e+(P e).1:=l1
 have l3:n8 t tr<=c x (pb n r)+pc c n r:=l3
 lia
def u3 (P:Nat->PT) (n:Nat):FV:=.tup ((lK (n+1)).map λj=>.int (P j).1)
theorem B6 (P:Nat->PT) (n:Nat)(Q:List FV->Prop):wp (oG (u3 P n)) Q↔Q ((lK (n+1)).map λj=>.int (P j).1):=mx
theorem CF (d:Nat){ws ss:List Int}{c:Nat->Nat->Int}(h:Rwo ws ss){ks:List (List Int)}{vs:List FV}(hc:Cst c ws.length ks vs){P:Nat->PT}(hP:∀ j,j<=ws.length->Bst BN c ws.length j (some (P j))){Q:FV×FV->Prop}(q:Q (u3 P ws.length,.non)):callW tb (d+1) 30 [nQ ws ss,.dct ks vs] Q:=by
 have hn:=h.hn
 refine nr (fd:=IT) rfl rfl ?_
 simp[IT,JL,nM,big]
 have pn:P ws.length=(0,[]):=hW ((hP ws.length (kT _)).uniq rG)
 refine⟨⟨by lia,by lia⟩,⟨xO ⋯ ⋯,by decide⟩,?_⟩
 rw[u5 ws.length rfl ⋯]
 refine p9 (f:=λi:Nat=>FV.int i) (I:=λds L=>∃ (i:Nat)(a:Option FV),L=[some (nQ ws ss),some (.dct ks vs),some (.int ws.length),some (.lst ((lK (ws.length+1)).map λj=>.int (if i<=j then (P j).1 else 0))),a]/\i+ds.length=ws.length) (lK ws.length).reverse (lK ws.length).reverse [] _ rfl ⟨ws.length,none,?_,rfl⟩ ?_ ?_
 ·have e0:(jf (ws.length+1) [FV.int 0]).flatten=(lK (ws.length+1)).map λj=>FV.int (if ws.length<=j then (P j).1 else 0):=by
   apply gy
   ·simp
   ·intro i h1 h2
    have hi:i<ws.length+1:=by simpa using h2
    simp
    intro z
    have:i=ws.length:=by lia
    subst this
    rw[pn]
  first|rw[e0]|(simp at e0;rw[e0])
 ·rintro ds x q' L K e ⟨i,a,rfl,hi⟩ k
  have hx:x+1=i:=by
   have e2:=congrArg (λl=>l[ds.length]?) e
   have hd:ds.length<ws.length:=by have:=congrArg kW e;simp at this;lia
   simp[cu,hd] at e2
   lia
  subst hx
  have hxn:x<ws.length:=by lia
  simp
  refine⟨⟨nk ⋯ ⋯,nk ⋯ ⋯⟩,?_⟩
  rw[wD hxn ⋯ rfl]
  refine⟨by simp[big];lia,?_⟩
  refine or (f:=λi:Nat=>FV.int i) (g:=λe=>.int (c x e+(P e).1)) _ [] (λe he K2 k2=>?_) ?_
  ·have he:=ft.mp he
   simp[big]
   rw[hc.at' x e ⋯ ⋯]
   simp
   rw[oC (n:=e) rfl (show ((lK (ws.length+1)).map λj=>FV.int (if x+1<=j then (P j).1 else 0))[e]?=some (.int (P e).1) by simp[show e<ws.length+1 by lia,show x+1<=e by lia])]
   exact k2
  ·obtain⟨t,ht⟩:∃ t,ws.length-x=t+1:=⟨ws.length-x-1,by lia⟩
   obtain⟨p0,pr,hpl⟩:∃ p0 pr,(kU (x+1) (ws.length-x)).map (λe=>c x e+(P e).1)=p0 :: pr:=by
    rw[ht,gf,jS];exact⟨_,_,rfl⟩
   have hm:(kU (x+1) (ws.length-x)).map (λe=>FV.int (c x e+(P e).1))=((kU (x+1) (ws.length-x)).map λe=>c x e+(P e).1).map .int:=by simp
   rw[il,hm]
   rw[Fs hpl,BQ hxn hP hpl]
   simp
   rw[DO (j:=x) rfl ⋯]
   refine k _ ⟨x,some (.int x),?_,by simp;lia⟩
   have e0:((lK (ws.length+1)).map λj=>FV.int (if x+1<=j then (P j).1 else 0)).set x (.int (P x).1)=(lK (ws.length+1)).map λj=>FV.int (if x<=j then (P j).1 else 0):=by
    apply gy
    ·simp
    ·intro j h4 h5
     simp only[gt,gw,dZ]
     by_cases z:x=j
     ·subst z;simp
     ·rw[if_neg z]
      by_cases z2:x+1<=j
      ·rw[if_pos z2,if_pos ⋯]
      ·rw[if_neg z2,if_neg ⋯]
   rw[e0]
 ·rintro L ⟨i,a,rfl,hi⟩
  have hi0:i=0:=by simp at hi;lia
  subst hi0
  simp
  exact q
theorem CL {ws ss:List Int}(h:Rwo ws ss){b e:Nat}(hb:b<ws.length)(he:b<e):1<=nu ws ss b e/\nu ws ss b e<=2000000000*((e:Int)-b):=by
 have h1:=ui (xs:=(ss.drop b).take (e-1-b)) λx hx=>by
  have:=h.hs x (cJ (cI hx))
  lia
 have h2:=t0 h.hw hb
 have h3:((ss.drop b).take (e-1-b)).length<=e-1-b:=by simp;lia
 unfold nu
 lia
theorem GW {ok:Nat->Nat->Bool}{ws ss:List Int}(h:Rwo ws ss):∀ {ks:List Nat},vp ok ws.length ks->0<=pc (nu ws ss) ws.length ks/\pc (nu ws ss) ws.length ks<=2000000000*((ws.length:Int)-pb ws.length ks)
 | [],_=>by simp[pc,pb]
 | k :: r,hk=>by
  have h1:=GW h hk.2.2
  have h2:=CL h ((uc hk).1 k (by simp)) hk.1
  show 0<=nu ws ss k (pb ws.length r)+pc (nu ws ss) ws.length r/\nu ws ss k (pb ws.length r)+pc (nu ws ss) ws.length r<=2000000000*((ws.length:Int)-k)
  lia
theorem Ge {p:PT}(h0:0<=p.1)(h1:p.1<=100000000000)(hl:p.2.length<=40)(hk:∀ k∈p.2,k<1000):Vl 4000 2 (oO p):=by
 refine (Vl.tup (k:=1800) (p:=1) (m:=2) ?_ (by simp)).mono (by decide) (by decide)
 intro x hx
 simp only[jP,gh,or_false] at hx
 rcases hx with rfl|rfl
 ·exact (Vl.int ⋯ ⋯).mono (by decide) (by decide)
 ·refine (Vl.tup (k:=41) (p:=0) (m:=40) ?_ (by simpa using hl)).mono (by decide) (by decide)
  intro y hy
  let(i,hi,rfl):=kE.mp hy
  have:=hk i hi
  exact Vl.int ⋯ ⋯
theorem xw {ok:Nat->Nat->Bool}{ws ss:List Int}(h:Rwo ws ss){i:Nat}{p:PT}(hb:Bst ok (nu ws ss) ws.length i (some p)):0<=p.1/\p.1<=60000000000/\p.2.length<=30/\∀ k∈p.2,k<30:=by
 have hn:=h.hn
 let(b1,b2,b3,_):=hb
 have hl:=sT b3
 have hv:=(uc b3).1
 have hc:=GW h b3
 rw[<- b1] at hc
 exact⟨hc.1,by lia,by lia,λk hk=>by have:=hv k hk;lia⟩
theorem AX {ok:Nat->Nat->Bool}{ws ss:List Int}(h:Rwo ws ss){i:Nat}{o:Option PT}(hb:Bst ok (nu ws ss) ws.length i o):Vl 4000 2 (r6 o):=by
 cases o with
 | none=>exact Vl.non.mono (by decide) (by decide)
 | some p =>
  let(h1,h2,h3,h4):=xw h hb
  exact Ge h1 ⋯ ⋯ λk hk=>by have:=h4 k hk;lia
theorem Gd {ws ss:List Int}(h:Rwo ws ss):Vl 4000 2 (nQ ws ss):=by
 have hn:=h.hn
 have hl:=h.hl
 have one:∀ xs:List Int,xH xs->xs.length<=30->Vl 1260 1 (.tup (xs.map .int)):=λxs hx hl=>by
  refine Vl.tup (k:=41) (p:=0) (m:=30) ?_ (by simpa using hl)
  intro y hy
  let(i,hi,rfl):=kE.mp hy
  have:=hx i hi
  exact Vl.int ⋯ ⋯
 refine (Vl.tup (k:=1260) (p:=1) (m:=2) ?_ (by simp)).mono (by decide) (by decide)
 intro y hy
 simp only[jP,gh,or_false] at hy
 rcases hy with rfl|rfl
 ·exact one ws h.hw h.hn
 ·exact one ss h.hs ⋯
theorem yj (d:Nat){ws ss:List Int}(h:Rwo ws ss){es:List Nat}(he:es.length=ws.length)(hb:∀ e∈es,e<=ws.length){Q:FV×FV->Prop}(q:∀ o,Bst (λi e=>decide (e<=es.getD i 0)) (nu ws ss) ws.length 0 o->Q (r6 o,.non)) :
  callW tb (d+2) 11 [nQ ws ss,.lst (es.map λi:Nat=>.int i)] Q:=by
 have hn:=h.hn
 have hl:=h.hl
 refine nr (fd:=Jl) rfl rfl ?_
 simp[Jl,J0,nM,big]
 refine⟨nk ⋯ ⋯,?_⟩
 rw[sO]
 refine p9 (f:=λi:Nat=>FV.int i) (I:=λds L=>∃ (ks:List Int)(vs:List FV)(B:Nat->Option PT) (i:Nat)(a b c e f:Option FV),L=[some (nQ ws ss),some (.lst (es.map λi:Nat=>.int i)),some (.int ws.length),some (.dci ks vs),a,b,c,e,f]/\i+ds.length=ws.length/\ks.length=vs.length/\ks.length<=ds.length+1 /\
   (∀ j:Nat,j<=ws.length->n9 ks vs (j:Int)=if i<=j then (B j).map oO else none)/\∀ j,i<=j->j<=ws.length->Bst (λi e=>decide (e<=es.getD i 0)) (nu ws ss) ws.length j (B j)) (lK ws.length).reverse (lK ws.length).reverse [] _ rfl ?_ ?_ ?_
 ·refine⟨_,_,λj=>if j=ws.length then some (0,[]) else none,ws.length,_,_,_,_,_,rfl,rfl,rfl,by simp,λj hj=>?_,λj h1 h2=>?_⟩
  ·by_cases e:j=ws.length
   ·subst e;simp[n9,oO]
   ·have:¬ (ws.length:Int)=(j:Int):=by lia
    rw[if_neg ⋯]
    simp[n9,this]
  ·have:j=ws.length:=by lia
   subst this
   simp only[if_true]
   exact rG
 ·rintro ds x r L K e ⟨ks,vs,B,i,a,b,c,e1,f1,rfl,hi,hkl,hks,hg,hB⟩ k
  have hx:x+1=i:=by
   have e2:=congrArg (λl=>l[ds.length]?) e
   have hd:ds.length<ws.length:=by have:=congrArg kW e;simp at this;lia
   simp[cu,hd] at e2
   lia
  subst hx
  have hxn:x<ws.length:=by lia
  have hd:ds.length<30:=by lia
  obtain⟨E,hE⟩:∃ E,es.getD x 0=E:=⟨_,rfl⟩
  have hex:es[x]?=some E:=by rw[<- hE,lP,bd ⋯];rfl
  have hel:E<=ws.length:=hb _ (cK hex)
  simp
  rw[oC (n:=x) rfl (show (es.map λi:Nat=>FV.int i)[x]?=some (.int E) by rw[fx,hex];rfl)]
  simp
  refine⟨⟨nk ⋯ ⋯,nk ⋯ ⋯⟩,?_⟩
  have hg1:∀ j:Nat,x<j->j<=ws.length->n9 ks vs (j:Int)=(B j).map oO:=λj h1 h2=>by rw[hg j h2,if_pos (show x+1<=j from h1)]
  rw[show ((x:Int)+1)=((x+1:Nat):Int) by lia]
  refine p8 (I:=λj L=>∃ c e f,L=[some (nQ ws ss),some (.lst (es.map λi:Nat=>.int i)),some (.int ws.length),some (.dci ks vs),some (.int x),some (.lst (((kU (x+1) (j-(x+1))).filterMap λe=>(B e).map λq:PT=>(nu ws ss x e+q.1,x :: q.2)).map oO)),c,e,f]) _ (x+1) _ ⟨c,e1,f1,by simp⟩ ?_ ?_
  ·rintro j L K2 hj1 hj2 ⟨c,e,f,rfl⟩ k2
   have hjn:j<=ws.length:=by lia
   have hr:kU (x+1) (j+1-(x+1))=kU (x+1) (j-(x+1))++[j]:=by
    rw[show j+1-(x+1)=(j-(x+1))+1 by lia,dR]
    congr 2;lia
   have hlen:((kU (x+1) (j-(x+1))).filterMap λe=>(B e).map λq:PT=>(nu ws ss x e+q.1,x :: q.2)).length<=30:=by
    refine kA (aY _ _) ?_
    simp;lia
   simp
   have hmem:((j:Int)∈ks)↔(B j).isSome=true:=by
    rw[<- pF (vs:=vs) (j:Int) hkl,hg1 j ⋯ hjn]
    cases B j<;>simp
   cases hBj:B j with
   | none =>
    rw[hBj] at hmem
    rw[if_neg (by simpa using hmem)]
    refine k2 _ ?_
    rw[hr,cv,show [j].filterMap (λe=>(B e).map λq:PT=>(nu ws ss x e+q.1,x :: q.2))=[] by simp[hBj],iE]
    exact⟨_,_,_,rfl⟩
   | some p =>
    rw[hBj] at hmem
    rw[if_pos (by simpa using hmem)]
    have hgj:=hg1 j ⋯ hjn
    rw[hBj] at hgj
    rw[hgj]
    simp[oO]
    have hpl:p.2.length<=30:=by
     have b1:=hB j ⋯ hjn
     rw[hBj] at b1
     have b2:=sT b1.2.2.1
     lia
    refine tV d h hxn ⋯ rfl ?_
    simp[big]
    refine⟨by lia,by lia,?_⟩
    refine k2 _ ?_
    rw[hr,cv,show [j].filterMap (λe=>(B e).map λq:PT=>(nu ws ss x e+q.1,x :: q.2))=[(nu ws ss x j+p.1,x :: p.2)] by simp[hBj],ir]
    exact⟨_,_,_,rfl⟩
  ·rintro L ⟨c,e,f,rfl⟩
   rw[show x+1+((E:Int)+1-((x+1:Nat):Int)).toNat-(x+1)=E-x by lia]
   generalize hps:((kU (x+1) (E-x)).filterMap λe=>(B e).map λq:PT=>(nu ws ss x e+q.1,x :: q.2))=ps
   have hin:∀ p,p∈ps↔∃ e,x<e/\e<=E/\∃ q,B e=some q/\p=(nu ws ss x e+q.1,x :: q.2):=by
    intro p
    rw[<- hps,dW]
    constructor
    ·rintro⟨e,he,h2⟩
     let(q,hq,rfl):=bL.mp h2
     have:=ft.mp he
     exact⟨e,by lia,by lia,q,hq,rfl⟩
    ·rintro⟨e,h1,h2,q,hq,rfl⟩
     exact⟨e,ft.mpr ⋯,by rw[hq];rfl⟩
   simp
   cases ps with
   | nil =>
    simp
    refine k _ ⟨ks,vs,λj=>if j=x then none else B j,x,_,_,_,_,_,rfl,by simp;lia,hkl,by simp;lia,λj hj=>?_,λj h1 h2=>?_⟩
    ·rw[hg j hj]
     by_cases e:j=x
     ·subst e;rw[if_neg ⋯];simp
     ·by_cases e2:x<=j
      ·rw[if_pos e2,if_pos ⋯];simp[e]
      ·rw[if_neg e2,if_neg ⋯]
    ·by_cases e:j=x
     ·subst e
      simp only[if_true]
      refine yV hxn λe h3 h4 h5=>?_
      have h5:e<=E:=by rw[<- hE];exact of_decide_eq_true h5
      cases hBe:B e with
      | none=>have:=hB e ⋯ h4;rw[hBe] at this;exact this
      | some p=>exact absurd ((hin _).mpr ⟨e,h3,h5,p,hBe,rfl⟩) (by simp)
     ·simp only[e,if_false]
      exact hB j ⋯ h2
   | cons p0 pr =>
    simp only[jS,List.isEmpty_cons,jp,if_true]
    rw[<- jS,Lw]
    simp[big]
    refine⟨by lia,?_⟩
    have pl:=qq ks vs (x:Int) (oO (n6 qe p0 pr)) hkl
    refine k _ ⟨_,_,λj=>if j=x then some (n6 qe p0 pr) else B j,x,_,_,_,_,_,rfl,by simp;lia,pl.1,by simp;lia,λj hj=>?_,λj h1 h2=>?_⟩
    ·rw[uR _ _ _ hkl,hg j hj]
     by_cases e:j=x
     ·subst e;simp
     ·have:¬ (j:Int)=(x:Int):=by lia
      rw[if_neg this]
      by_cases e2:x<=j
      ·rw[if_pos e2,if_pos ⋯];simp[e]
      ·rw[if_neg e2,if_neg ⋯]
    ·by_cases e:j=x
     ·subst e
      simp only[if_true]
      have hm:=(hin _).mp (sI qe pr p0)
      let(e,h3,h4,q0,h5,h6):=hm
      refine vi (B:=B) hxn (λe h1 h2=>hB e ⋯ h2) ⟨e,h3,by lia,decide_eq_true (by rw[hE];exact h4),q0,h5,h6⟩ λe' q' h7 h8 h9 h10=>?_
      exact sH pr p0 _ ((hin _).mpr ⟨e',h7,by rw[<- hE];exact of_decide_eq_true h9,q',h10,rfl⟩)
     ·simp only[e,if_false]
      exact hB j ⋯ h2
 ·rintro L ⟨ks,vs,B,i,a,b,c,e,f,rfl,hi,hkl,hks,hg,hB⟩
  have hi0:i=0:=by simp at hi;lia
  subst hi0
  simp
  have h0:=hg 0 ⋯
  simp at h0
  rw[h0]
  have:=q (B 0) (hB 0 (kT _) ⋯)
  cases hb0:B 0 with
  | none=>rw[hb0] at this;exact this
  | some p=>rw[hb0] at this;exact this
def qb:Option Int->FV
 | none=>.non
 | some i=>.int i
def AE (x:Int):Option Int->Bool
 | none=>true
 | some m=>decide (x<=m)
def qm (ws ss:List Int)(md mr:Option Int) (b e:Nat):Bool:=AE ((e:Int)-b-1) md && AE (nu ws ss b e) mr
def encM (md mr:Option Int):FV:=.tup [qb md,qb mr]
theorem D8 (md mr:Option Int)(Q:List FV->Prop):wp (oG (encM md mr)) Q↔Q [qb md,qb mr]:=mx
theorem w4 (d:Nat){ws ss:List Int}(h:Rwo ws ss){b e:Nat}(hb:b<ws.length)(he:b<e){i:Int}(hi:i=e){Q:FV×FV->Prop}(q:Q (.int (nu ws ss b e),.non)):callW tb (d+1) 24 [nQ ws ss,.int b,.int i] Q:=by
 have hn:=h.hn
 have hl:=h.hl
 have e1:e=(e-1)+1:=by lia
 rw[e1] at q
 exact ye d h.hs ⋯ (show b<=e-1 by lia) hb ⋯ q
theorem Im (d:Nat){ws ss:List Int}(h:Rwo ws ss){md mr:Option Int}{b e:Nat}(hb:b<ws.length)(he:b<e){Q:FV×FV->Prop}(q:Q (.bl (qm ws ss md mr b e),.non)):callW tb (d+2) 25 [nQ ws ss,.int b,.int e,encM md mr] Q:=by
 refine nr (fd:=IY) rfl rfl ?_
 simp[IY,JQ,D8]
 have fin:qm ws ss md mr b e=AE (nu ws ss b e) mr->wp (pT (qb mr)) λz=>wp (tN z) λr=>if r=true then Q (z,FV.non) else callW tb (d+1) 24 [nQ ws ss,FV.int b,FV.int e] λz=>wp (Ey z.fst (qb mr)) λz=>Q (z,FV.non):=by
  intro e1
  cases mr with
  | none=>simp[qb];simpa[e1,AE] using q
  | some m =>
   simp[qb]
   refine w4 d h hb he rfl ?_
   simp
   simpa[e1,AE] using q
 cases md with
 | none =>
  simp[qb]
  exact fin (by simp[qm,AE])
 | some m =>
  simp[qb]
  refine rK (λhm=>?_) (λhm=>?_)
  ·have:qm ws ss (some m) mr b e=false:=by simp only[qm,Bool.and_eq_false_iff];left;simpa[AE] using hm
   rw[this] at q;exact q
  ·refine fin ?_
   simp only[qm]
   rw[show AE ((e:Int)-b-1) (some m)=true from decide_eq_true ⋯,jY]
def qa (R:Nat->Option Int) (n:Nat):List FV:=(lK (n+1)).map λj=>qb (R j)
theorem qw {R:Nat->Option Int}{n j:Nat}(h:j<=n){i:Int}(hi:i=j)(Q:FV->Prop):wp (tM (qa R n) i) Q↔Q (qb (R j)):=oC hi (by simp[qa,show j<n+1 by lia])
def pN (ws ss:List Int)(md mr:Option Int)(R:Nat->Option Int) (b:Nat):List Nat:=((kU (b+1) (ws.length-b)).filter λe=>(R e).isSome).filter λe=>qm ws ss md mr b e
theorem AU (d:Nat){ws ss:List Int}(h:Rwo ws ss){md mr:Option Int}{R:Nat->Option Int}{b:Nat}(hb:b<ws.length){Q:FV×FV->Prop}(q:Q (.lst ((pN ws ss md mr R b).map λi:Nat=>.int i),.non)):callW tb (d+3) 26 [nQ ws ss,.lst (qa R ws.length),.int b,encM md mr] Q:=by
 have hn:=h.hn
 refine nr (fd:=IX) rfl rfl ?_
 simp[IX,JP,nM]
 refine⟨⟨nk ⋯ ⋯,nk ⋯ ⋯⟩,?_⟩
 rw[wD hb ⋯ rfl]
 refine⟨by simp[big];lia,?_⟩
 refine pI (f:=λi:Nat=>FV.int i) (g:=λi:Nat=>FV.int i) (p:=λe=>(R e).isSome) _ [] (λe he K N k1 k2=>?_) ?_
 ·have he:=ft.mp he
  simp
  rw[qw (show e<=ws.length by lia) rfl]
  cases hR:R e with
  | none=>rw[hR] at k2;simp[qb];exact k2 rfl
  | some t=>rw[hR] at k1;simp[qb];exact k1 rfl
 ·simp
  refine⟨?_,?_⟩
  ·have:=cp (λe=>(R e).isSome) (kU (b+1) (ws.length-b))
   simp at this
   simp[big];lia
  refine pI (f:=λi:Nat=>FV.int i) (g:=λi:Nat=>FV.int i) (p:=λe=>qm ws ss md mr b e) _ [] (λe he K N k1 k2=>?_) ?_
  ·have he:=ft.mp (ip.mp he).1
   simp
   refine Im d h hb ⋯ ?_
   simp
   cases ho:qm ws ss md mr b e with
   | true=>simp;exact k1 ho
   | false=>simp;exact k2 ho
  ·simp
   simpa[pN] using q
theorem re {ws ss:List Int}{md mr:Option Int}{R:Nat->Option Int}{b e:Nat}(hb:b<ws.length):e∈pN ws ss md mr R b↔b<e/\e<=ws.length/\(R e).isSome=true/\qm ws ss md mr b e=true:=by
 simp only[pN,ip,ft]
 constructor
 ·rintro⟨⟨h1,h2⟩,h3⟩;exact⟨by lia,by lia,h2,h3⟩
 ·rintro⟨h1,h2,h3,h4⟩;exact⟨⟨by lia,h3⟩,h4⟩
theorem Gb {ws ss:List Int}{md mr:Option Int}{R:Nat->Option Int}{b:Nat}:(pN ws ss md mr R b).Pairwise (· < ·):=cQ _ (cQ _ (List.pairwise_lt_range' (s:=b+1) (n:=ws.length-b)))
theorem uZ {ws ss:List Int}{md mr:Option Int}{R:Nat->Option Int}{b:Nat}:(pN ws ss md mr R b).length<=ws.length:=by
 refine kA (cp _ _) (kA (cp _ _) ?_)
 simp
def qf (o:Option PT):Option Int:=o.map (·.1)
theorem BH {n e:Nat}{xs:List Nat}(hp:xs.Pairwise (· < ·))(hn:∀ x∈xs,x<=n)(he:e∈xs)(h1:n∈xs->e=n)(h2:e≠n->∀ x∈xs,e<=x):∃ a z ys,xs=a :: ys/\(∃ ws,xs=ws++[z])/\(if z=n then n else a)=e:=by
 cases xs with
 | nil=>cases he
 | cons a ys =>
  obtain⟨ws,z,hz⟩:∃ ws z,a :: ys=ws++[z]:=⟨(a :: ys).dropLast,(a :: ys).getLast (by simp),(List.dropLast_concat_getLast (by simp)).symm⟩
  refine⟨a,z,ys,rfl,⟨ws,hz⟩,?_⟩
  by_cases hzn:z=n
  ·rw[if_pos hzn]
   exact (h1 (by rw[hz,<- hzn];simp)).symm
  ·rw[if_neg hzn]
   have hen:e≠n:=by
    intro hen
    rw[hz] at he hp hn
    rcases iq.mp he with h|h
    ·have:=(cH.mp hp).2.2 e h z (by simp)
     have:=hn z (by simp)
     lia
    ·simp at h;lia
   have:=h2 hen a (by simp)
   rcases jP.mp he with h|h
   ·exact h.symm
   ·have:=(dS.mp hp).1 e h;lia
theorem Bf (d:Nat){ws ss:List Int}(h:Rwo ws ss)(h1:1<=ws.length)(md mr:Option Int){Q:FV×FV->Prop}(q:∀ o,Bst (qm ws ss md mr) (nu ws ss) ws.length 0 o->Q (r6 o,.non)):callW tb (d+4) 27 [nQ ws ss,encM md mr] Q:=by
 have hn:=h.hn
 refine nr (fd:=IW) rfl rfl ?_
 simp[IW,JO,nM,big]
 refine⟨⟨by lia,by lia⟩,by lia,⟨nk ⋯ ⋯,by decide⟩,?_⟩
 rw[u5 ws.length rfl ⋯]
 refine p9 (f:=λi:Nat=>FV.int i) (I:=λds L=>∃ (B:Nat->Option PT) (i:Nat)(a b c e:Option FV),L=[some (nQ ws ss),some (encM md mr),some (.int ws.length),some (.lst (qa (λj=>if i<=j then qf (B j) else none) ws.length)),a,b,c,e]/\i+ds.length=ws.length/\∀ j,i<=j->j<=ws.length->Bst (qm ws ss md mr) (nu ws ss) ws.length j (B j)) (lK ws.length).reverse (lK ws.length).reverse [] _ rfl ?_ ?_ ?_
 ·refine⟨λj=>some (0,[]),ws.length,none,none,none,none,?_,rfl,λj h2 h3=>?_⟩
  ·have e0:jf ws.length FV.non++[FV.int 0]=qa (λj=>if ws.length<=j then qf ((λ_=>some (0,[])) j) else none) ws.length:=by
    rw[qa,ii,ir]
    congr 1
    ·apply gy
     ·simp
     ·intro i h4 h5
      have:i<ws.length:=by simpa using h5
      simp[qb,show ¬ ws.length<=i by lia]
    ·simp[qb,qf]
   rw[e0]
  ·have:j=ws.length:=by lia
   subst this
   exact rG
 ·rintro ds x r L K e ⟨B,i,a,b,c,e1,rfl,hi,hB⟩ k
  have hx:x+1=i:=by
   have e2:=congrArg (λl=>l[ds.length]?) e
   have hd:ds.length<ws.length:=by have:=congrArg kW e;simp at this;lia
   simp[cu,hd] at e2
   lia
  subst hx
  have hxn:x<ws.length:=by lia
  obtain⟨R,hR⟩:∃ R:Nat->Option Int,R=λj=>if x+1<=j then qf (B j) else none:=⟨_,rfl⟩
  rw[<- hR]
  have hRe:∀ e,x<e->R e=qf (B e):=λe he=>by rw[hR];exact if_pos he
  simp
  refine AU d h hxn ?_
  simp
  refine⟨uy _ (λ_=>by simp) _,by have:=uZ (ws:=ws) (ss:=ss) (md:=md) (mr:=mr) (R:=R) (b:=x);simp[big];lia,?_⟩
  refine or (f:=λi:Nat=>FV.int i) (g:=λe=>.int (nu ws ss x e+((R e).getD 0))) _ [] (λe he K2 k2=>?_) ?_
  ·let(h2,h3,h4,h5):=(re hxn).mp he
   simp
   refine w4 (d+2) h hxn h2 rfl ?_
   simp
   rw[qw h3 rfl]
   let(t,ht):=aX.mp h4
   rw[ht] at k2 ⊢
   simp[qb]
   exact k2
  ·simp
   let(o,ho):=Ep (ok:=qm ws ss md mr) (c:=nu ws ss) hxn (B:=B) λe h2 h3=>hB e h2 h3
   have hB2:∀ j,x<=j->j<=ws.length->Bst (qm ws ss md mr) (nu ws ss) ws.length j (if j=x then o else B j):=λj h2 h3=>by
    by_cases z:j=x
    ·rw[if_pos z,z];exact ho
    ·rw[if_neg z];exact hB j ⋯ h3
   have sum_in:∀ e q,x<e->e<=ws.length->qm ws ss md mr x e=true->B e=some q->nu ws ss x e+q.1∈(pN ws ss md mr R x).map λe=>nu ws ss x e+((R e).getD 0):=λe q h2 h3 h4 h5 =>
    kE.mpr ⟨e,(re hxn).mpr ⟨h2,h3,by rw[hRe e h2,h5];rfl,h4⟩,by rw[hRe e h2,h5];rfl⟩
   have in_sum:∀ t∈(pN ws ss md mr R x).map λe=>nu ws ss x e+((R e).getD 0),∃ e q,x<e/\e<=ws.length/\qm ws ss md mr x e=true/\B e=some q/\t=nu ws ss x e+q.1:=λt ht=>by
    let(e,he,rfl):=kE.mp ht
    let(h2,h3,h4,h5):=(re hxn).mp he
    rw[hRe e h2] at h4 ⊢
    cases hBe:B e with
    | none=>rw[hBe] at h4;cases h4
    | some q=>exact⟨e,q,h2,h3,h5,hBe,rfl⟩
   have hmap:(pN ws ss md mr R x).map (λe=>FV.int (nu ws ss x e+((R e).getD 0)))=((pN ws ss md mr R x).map λe=>nu ws ss x e+((R e).getD 0)).map .int:=by simp
   rw[hmap]
   have next:∀ {L'},(∃ b,L'=[some (nQ ws ss),some (encM md mr),some (.int ws.length),some (.lst (qa (λj=>if x<=j then qf (if j=x then o else B j) else none) ws.length)),some (.int x),b,c,e1])->K L':=λ{L'} ⟨b,e⟩=>k _ ⟨_,x,_,_,_,_,e,by simp;lia,hB2⟩
   have set_eq:∀ v,v=qb (qf o)->(qa R ws.length).set x v=qa (λj=>if x<=j then qf (if j=x then o else B j) else none) ws.length:=λv hv=>by
    subst hv
    apply gy
    ·simp[qa]
    ·intro j h4 h5
     have hj:j<=ws.length:=by simp[qa] at h5;lia
     simp only[qa,gt,gw,dZ]
     by_cases z:x=j
     ·subst z;simp
     ·rw[if_neg z,hR]
      by_cases z2:x+1<=j
      ·simp[z2,show x<=j by lia,mq z]
      ·simp[z2,show ¬ x<=j by lia]
   generalize hts:(pN ws ss md mr R x).map (λe=>nu ws ss x e+((R e).getD 0))=ts at sum_in in_sum
   have hv1:ts.length<=30:=by
    have:=uZ (ws:=ws) (ss:=ss) (md:=md) (mr:=mr) (R:=R) (b:=x)
    rw[<- hts];simp;lia
   cases ts with
   | nil =>
    simp[show xk (.lst []) (.lst [])=some true from by simp[xk,P5,fD,nA,pq,D.eqv,D.eqvs]]
    refine next ⟨some (.lst []),?_⟩
    have Ng:o=none:=by
     cases o with
     | none=>rfl
     | some p =>
      let(r,e2,g1,g2,g3,g4,_):=sR (p:=p) (B:=λj=>if j=x then some p else B j) hxn hB2 (by simp)
      have g4:B (pb ws.length r)=some (pc (nu ws ss) ws.length r,r):=by
       have:¬ pb ws.length r=x:=by lia
       simpa [this] using g4
      exact absurd (sum_in _ _ g1 g2 g3 g4) (by simp)
    subst Ng
    have e9:R=λj=>if x<=j then qf (if j=x then none else B j) else none:=by
     rw[hR]
     funext j
     by_cases z:j=x
     ·subst z;rw[if_neg ⋯];simp[qf]
     ·by_cases z2:x+1<=j
      ·simp[z2,show x<=j by lia,z]
      ·simp[z2,show ¬ x<=j by lia]
    rw[e9]
   | cons t tr =>
    have hne:xk (.lst ((t :: tr).map .int)) (.lst [])=some false:=by
     obtain⟨ds,h2⟩:∃ ds,pq (fD 39) (tr.map FV.int)=some ds:=by
      clear hts sum_in in_sum hv1
      induction tr with
      | nil=>exact⟨_,rfl⟩
      | cons y s ih=>let(ds,h2):=ih;exact⟨.int y :: ds,by show ((some (D.int y)).bind λz=>(pq (fD 39) (s.map FV.int)).map (z :: ·))=_;rw[h2];rfl⟩
     have h3:fD 40 (.lst ((t :: tr).map .int))=some (.lst (.int t :: ds)):=by
      show (((some (D.int t)).bind λz=>(pq (fD 39) (tr.map FV.int)).map (z :: ·)).map D.lst)=_
      rw[h2];rfl
     show ((fD 40 (.lst ((t :: tr).map .int))).bind λx=>(fD 40 (.lst [])).bind λy=>some (D.eqv x y))=_
     rw[h3];simp[fD,pq,D.eqv,D.eqvs]
    rw[hne]
    have hmin:wp (BR ((t :: tr).map .int))=λQ=>Q (.int (n8 t tr)):=by
     funext Q;simp only[BR,ints_map,fX];rfl
    simp only[nT,jp,if_true,Oj,ES,Jr,Go,LD,LF,Jn,OL]
    rw[hmin]
    simp
    rw[DO (j:=x) rfl (by simp[qa];lia)]
    have ho2:qf o=some (n8 t tr):=by
     let(e0,q0,g1,g2,g3,g4,g5):=in_sum _ (sX tr t)
     cases o with
     | none=>exact absurd (hB e0 g1 g2) (by rw[g4];exact λz=>ho (x :: q0.2) rfl ⟨by rw[z.2.1];exact g1,by rw[z.2.1];exact g3,z.2.2.1⟩)
     | some p =>
      have hB3:∀ e,x<=e->e<=ws.length->Bst (qm ws ss md mr) (nu ws ss) ws.length e ((λj=>if j=x then some p else B j) e):=hB2
      let(r,e2,f1,f2,f3,f4,f5):=sR (p:=p) (B:=λj=>if j=x then some p else B j) hxn hB3 (by simp)
      have f4:B (pb ws.length r)=some (pc (nu ws ss) ws.length r,r):=by
       have:¬ pb ws.length r=x:=by lia
       simpa [this] using f4
      have l1:=sum_in _ _ f1 f2 f3 f4
      have g4':(λj=>if j=x then some p else B j) e0=some q0:=by
       have:¬ e0=x:=by lia
       simpa [this] using g4
      have l2:=xv (p:=p) (B:=λj=>if j=x then some p else B j) hB3 (by simp) g1 g2 g3 g4'
      have l3:=xc l2
      have l4:n8 t tr<=nu ws ss x (pb ws.length r)+pc (nu ws ss) ws.length r:=by
       rcases jP.mp l1 with z | z
       ·rw [z]; exact (qv tr t).1
       ·exact (qv tr t).2 _ z
      show some p.1=some (n8 t tr)
      congr 1
      have l3:p.1<=nu ws ss x e0+q0.1:=l3
      lia
    exact next ⟨_,by rw[set_eq _ (by rw[ho2];rfl)]⟩
 ·rintro L ⟨B,i,a,b,c,e,rfl,hi,hB⟩
  have hi0:i=0:=by simp at hi;lia
  subst hi0
  simp only[kR,if_true]
  simp
  rw[qw (j:=0) (i:=0) (kR _) rfl]
  have b0:=hB 0 (kT _) ⋯
  cases hb0:B 0 with
  | none =>
   rw[hb0] at b0
   simp[qf,qb]
   exact q none b0
  | some p0 =>
   rw[hb0] at b0
   simp[qf,qb,big]
   refine so (I:=λm L=>∃ (pre:List Nat) (at':Nat)(p:PT)(a b c:Option FV),L=[some (nQ ws ss),some (encM md mr),some (.int ws.length),some (.lst (qa (λj=>qf (B j)) ws.length)),a,b,some (.lst ((pre++[at']).map λi:Nat=>.int i)),c]/\m=ws.length-at'/\at'<=ws.length/\B at'=some p/\pre++p.2=p0.2/\pre.length<=at') ?_ (m:=ws.length) ⟨[],0,p0,_,_,_,rfl,rfl,by lia,hb0,rfl,kT _⟩
   rintro m L K ⟨pre,at',p,a,b,c,rfl,hm,hat,hp,ZW,hpl⟩ k
   rw[ir,jS,kF]
   simp
   rw[ua]
   simp
   refine rK (λhlt=>?_) (λhge=>?_)
   ·rw[ua]
    refine AU d h hlt ?_
    simp
    refine⟨uy _ (λ_=>by simp) _,?_⟩
    refine⟨by have:=uZ (ws:=ws) (ss:=ss) (md:=md) (mr:=mr) (R:=λj=>qf (B j)) (b:=at');simp[big];lia,?_⟩
    refine pI (f:=λi:Nat=>FV.int i) (g:=λi:Nat=>FV.int i) (p:=λe=>decide (nu ws ss at' e+((qf (B e)).getD 0)=p.1)) _ [] (λe he K2 N k1 k2=>?_) ?_
    ·let(h2,h3,h4,h5):=(re hlt).mp he
     simp
     refine w4 (d+2) h hlt h2 rfl ?_
     simp
     rw[qw h3 rfl]
     let(t,ht):=aX.mp h4
     have ht:qf (B e)=some t:=ht
     simp only[ht,fV] at k1 k2
     rw[ht]
     simp[qb]
     rw[qw hat rfl,hp]
     simp[qb,qf]
     refine rK (λz=>k1 (by simpa using z)) (λz=>k2 (by simpa using z))
    ·simp
     generalize hys:(pN ws ss md mr (λj=>qf (B j)) at').filter (λe=>decide (nu ws ss at' e+((qf (B e)).getD 0)=p.1))=ys
     have hB0:∀ e,at'<=e->e<=ws.length->Bst (qm ws ss md mr) (nu ws ss) ws.length e (B e):=λe h2 h3=>hB e (kR _) h3
     let(r,e2,g1,g2,g3,g4,g5):=sR hlt hB0 hp
     have mem:∀ e,e∈ys↔at'<e/\e<=ws.length/\qm ws ss md mr at' e=true/\∃ q,B e=some q/\nu ws ss at' e+q.1=p.1:=λe=>by
      rw[<- hys,ip,re hlt]
      constructor
      ·rintro⟨⟨h2,h3,h4,h5⟩,h6⟩
       cases hBe:B e with
       | none=>rw [hBe] at h4; cases h4
       | some q=>rw [hBe] at h6; exact ⟨h2,h3,h5,q,rfl,of_decide_eq_true h6⟩
      ·rintro⟨h2,h3,h4,q,h5,h6⟩
       exact ⟨⟨h2,h3,by rw [h5]; rfl,h4⟩,by rw [h5]; exact decide_eq_true h6⟩
     have nx:=Eo hlt hB0 hp e2
     let(y0,z,yr,ey,(yw,ez),en):=BH (n:=ws.length) (e:=pb ws.length r) (xs:=ys) (by rw[<- hys];exact cQ _ Gb) (λx hx=>((mem x).mp hx).2.1) ((mem _).mpr ⟨g1,g2,g3,_,g4,g5.symm⟩)
      (λhn'=>by let(h2,h3,h4,q,h5,h6):=(mem _).mp hn';exact (nx _ q h2 h3 h4 h5 h6).1 rfl)
      (λhne x hx=>by let(h2,h3,h4,q,h5,h6):=(mem _).mp hx;exact (nx _ q h2 h3 h4 h5 h6).2 hne)
     have fin:∀ v,v=FV.int (pb ws.length r)->K [some (nQ ws ss),some (encM md mr),some (.int ws.length),some (.lst (qa (λj=>qf (B j)) ws.length)),a,some (.lst (ys.map λi:Nat=>.int i)),some (.lst (pre.map (λi:Nat=>.int i)++([.int at']++[v]))),some (.int at')]:=λv hv=>by
      subst hv
      refine k _ _ (show ws.length-pb ws.length r<m by lia) ⟨pre++[at'],pb ws.length r,_,a,some (.lst (ys.map λi:Nat=>.int i)),some (.int at'),by simp,rfl,g2,g4,?_,by simp;lia⟩
      rw[<- ZW,e2];simp
     have hlast:∀ Q:FV->Prop,wp (tM (ys.map λi:Nat=>FV.int i) (-1)) Q↔Q (.int z):=λQ=>by
      rw[ez,ir];exact ua _ _ _
     have hfirst:∀ Q:FV->Prop,wp (tM (ys.map λi:Nat=>FV.int i) 0) Q↔Q (.int y0):=λQ=>by
      rw[ey,jS];exact Rh _ _ _
     rw[hfirst]
     simp[big]
     rw[hlast]
     simp
     have hsz:pre.length+1<100000:=by lia
     by_cases hz:z=ws.length
     ·subst hz
      rw[if_pos rfl] at en
      simp[hsz]
      exact fin _ (by rw[<- en])
     ·have:¬ (z:Int)=(ws.length:Int):=by lia
      rw[if_neg hz] at en
      simp[this,hsz]
      exact fin _ (by rw[<- en])
   ·have hae:at'=ws.length:=by lia
    subst hae
    have hpe:p=(0,[]):=by
     have b1:=hB ws.length ⋯ (kT _)
     rw[hp] at b1
     exact hW (b1.uniq rG)
    subst hpe
    rw[qw (j:=0) (i:=0) (kR _) rfl,hb0]
    simp[qb,qf,Gv,big]
    have:pre=p0.2:=by simpa using ZW
    subst this
    exact q (some p0) b0
theorem vJ {ws ss:List Int}(h:Rwo ws ss){b e e':Nat}(h2:e<=e'):nu ws ss b e<=nu ws ss b e':=by
 have go:∀ (xs:List Int) (i j:Nat),(∀ x∈xs,0<=x)->i<=j->(xs.take i).sum<=(xs.take j).sum:=by
  intro xs
  induction xs with
  | nil=>intro i j _ _;simp
  | cons x r ih =>
   intro i j hx hij
   cases i with
   | zero =>
    cases j with
    | zero=>simp
    | succ j =>
     have:=ih 0 j (λy hy=>hx y (cM _ hy)) (kR _)
     have:=hx x (by simp)
     simp at *;lia
   | succ i =>
    cases j with
    | zero=>lia
    | succ j =>
     have:=ih i j (λy hy=>hx y (cM _ hy)) ⋯
     simp;lia
 have:=go (ss.drop b) (e-1-b) (e'-1-b) (λx hx=>by have:=h.hs x (cJ hx);lia) ⋯
 unfold nu;lia
theorem E2 (d:Nat){ws ss:List Int}(h:Rwo ws ss){b:Nat}{m:Int}(hb:b<ws.length){Q:FV×FV->Prop}(q:∀ E:Nat,b<=E->E<=ws.length->(∀ e,b<e->e<=ws.length->(e<=E↔nu ws ss b e<=m))->Q (.int E,.non)):callW tb (d+2) 10 [nQ ws ss,.int b,.int m] Q:=by
 have hn:=h.hn
 refine nr (fd:=Jm) rfl rfl ?_
 simp[Jm,J5]
 refine so (I:=λk L=>∃ E:Nat,L=[some (nQ ws ss),some (.int b),some (.int m),some (.int E)]/\k=ws.length-E/\b<=E/\E<=ws.length/\(b<E->nu ws ss b E<=m)) ?_ (m:=ws.length-b) ⟨b,rfl,rfl,kT _,by lia,λz=>by lia⟩
 rintro k L K ⟨E,rfl,hk,h1,h2,h3⟩ kk
 have fin:(E=ws.length ∨ m<nu ws ss b (E+1))->Q (.int E,.non):=λhf=>by
  refine q E h1 h2 λe h4 h5=>⟨λh6=>?_,λh6=>?_⟩
  ·have:=vJ h (b:=b) h6
   have:=h3 ⋯
   lia
  ·rcases hf with hf|hf
   ·lia
   ·refine ga λh7=>?_
    have:=vJ h (b:=b) (show E+1<=e from h7)
    lia
 simp[nM]
 refine rK (λhlt=>?_) (λhge=>?_)
 ·refine tV d h hb (e:=E+1) ⋯ ⋯ ?_
  simp
  refine rK (λh4=>?_) (λh4=>?_)
  ·exact kk (ws.length-(E+1)) _ ⋯ ⟨E+1,by simp,rfl,by lia,by lia,λ_=>h4⟩
  ·exact fin (.inr ⋯)
 ·exact fin (.inl ⋯)
theorem sS (d:Nat){ws ss:List Int}(h:Rwo ws ss) (m:Int){Q:FV×FV->Prop}(q:∀ o,Bst (qm ws ss none (some m)) (nu ws ss) ws.length 0 o->Q (r6 o,.non)):callW tb (d+3) 9 [nQ ws ss,.int m] Q:=by
 have hn:=h.hn
 refine nr (fd:=Pz) rfl rfl ?_
 simp[Pz,N0,nM]
 refine⟨nk ⋯ ⋯,?_⟩
 rw[ol]
 refine⟨by simp[big];lia,?_⟩
 refine pV (f:=λi:Nat=>FV.int i) (I:=λds Z8 L=>∃ es:List Nat,L=[some (nQ ws ss),some (.int m)]/\Z8=es.map (λi:Nat=>.int i)/\es.length=ds.length/\(∀ x∈es,x<=ws.length)/\∀ b,b<es.length->∀ e,b<e->e<=ws.length->(e<=es.getD b 0↔nu ws ss b e<=m)) (lK ws.length) (lK ws.length) [] [] _ rfl ⟨[],rfl,rfl,rfl,by simp,by simp⟩ ?_ ?_
 ·rintro ds x r Z8 L K e ⟨es,rfl,rfl,hl,hb,hE⟩ k
  have hx:x=ds.length:=by
   have e2:=congrArg (λl=>l[ds.length]?) e
   have hd:ds.length<ws.length:=by have:=congrArg kW e;simp at this;lia
   simp[hd] at e2;lia
  have hxn:x<ws.length:=by have:=congrArg kW e;simp at this;lia
  simp
  refine E2 d h hxn λE h1 h2 h3=>?_
  refine k _ _ ⟨es++[E],rfl,by simp,by simp[hl],?_,?_⟩
  ·intro y hy
   rcases iq.mp hy with hy|hy
   ·exact hb y hy
   ·simp at hy;lia
  ·intro b hb' e' h4 h5
   have hb':b<es.length+1:=by simpa using hb'
   by_cases z:b<es.length
   ·rw[lP,aP z]
    exact hE b z e' h4 h5
   ·have:b=x:=by lia
    subst this
    have:(es++[E]).getD b 0=E:=by rw[lP,aB ⋯,show b-es.length=0 by lia];rfl
    rw[this];exact h3 e' h4 h5
 ·rintro ys L ⟨es,rfl,rfl,hl,hb,hE⟩
  simp at hl
  refine yj d h hl hb λo ho=>q o (wq (λa e h1 h2=>?_) ho)
  have:=hE a ⋯ e h1 h2
  simp only[qm,AE,jY]
  exact decide_eq_decide.mpr this
theorem ub (d:Nat){ws ss:List Int}(h:Rwo ws ss){m:Nat}(hm:m<=1000){Q:FV×FV->Prop}(q:∀ o,Bst (qm ws ss (some (m:Int)) none) (nu ws ss) ws.length 0 o->Q (r6 o,.non)):callW tb (d+3) 8 [nQ ws ss,.int m] Q:=by
 have hn:=h.hn
 refine nr (fd:=PB) rfl rfl ?_
 simp[PB,Q5,nM]
 refine⟨nk ⋯ ⋯,?_⟩
 rw[ol]
 refine⟨by simp[big];lia,?_⟩
 refine or (f:=λi:Nat=>FV.int i) (g:=λi:Nat=>FV.int ((min (i+m+1) ws.length:Nat):Int)) (lK ws.length) [] (λi hi K k=>?_) ?_
 ·simp
  have e:(if (ws.length:Int)<(i:Int)+m+1 then (ws.length:Int) else (i:Int)+m+1)=((min (i+m+1) ws.length:Nat):Int):=by split<;>lia
  rw[e];exact k
 ·rw[il,show (lK ws.length).map (λi:Nat=>FV.int ((min (i+m+1) ws.length:Nat):Int))=((lK ws.length).map λi=>min (i+m+1) ws.length).map λi:Nat=>FV.int i by simp]
  refine yj (d+1) h (by simp) (λe he=>?_) λo ho=>q o (wq (λa e h1 h2=>?_) ho)
  ·let(i,_,rfl):=kE.mp he
   exact fZ _ _
  ·have:((lK ws.length).map λi=>min (i+m+1) ws.length).getD a 0=min (a+m+1) ws.length:=by simp[lP,show a<ws.length by lia]
   rw[this]
   simp only[qm,AE,j0]
   exact decide_eq_decide.mpr ⟨λz=>by lia,λz=>by lia⟩
theorem B8 {ws ss:List Int}{m:Int}(hm:0<=m){o:Option PT}(h:Bst (qm ws ss (some m) none) (nu ws ss) ws.length 0 o):∃ p,o=some p:=by
 cases o with
 | some p=>exact⟨p,rfl⟩
 | none =>
  have:=yW (ok:=qm ws ss (some m) none) (n:=ws.length) (λi _=>by simp only[qm,AE,j0];exact decide_eq_true ⋯) ws.length (kT _)
  rw[Nat.sub_self] at this
  exact absurd this.1 (h _ this.2)
def Mu (ws ss:List Int)(T:Nat->PT):Prop:=∀ i,i<ws.length->Bst (qm ws ss (some (i:Int)) none) (nu ws ss) ws.length 0 (some (T i))
theorem EG (ws ss:List Int):∃ T,Mu ws ss T:=by
 have:∀ i:Nat,∃ p:PT,Bst (qm ws ss (some (i:Int)) none) (nu ws ss) ws.length 0 (some p):=λi=>by
  let(o,ho):=sQ (qm ws ss (some (i:Int)) none) (nu ws ss) ws.length
  let(p,rfl):=B8 ⋯ ho
  exact⟨p,ho⟩
 let(T,hT):=bz this
 exact⟨T,λi _=>hT i⟩
def gd (f:Nat->Int) (i:Nat):Bool:=(lK i).all λj=>decide (f i<f j)
theorem gd_iff {f:Nat->Int}{i:Nat}:gd f i=true↔∀ j,j<i->f i<f j:=by simp[gd]
def vN (f:Nat->Int) (n:Nat):List Nat:=(lK n).filter (gd f)
theorem uz (f:Nat->Int) (n:Nat):vN f (n+1)=if gd f n=true then vN f n++[n] else vN f n:=by
 unfold vN
 rw[ii,List.filter_append]
 by_cases h:gd f n=true
 ·rw[if_pos h];simp[h]
 ·rw[if_neg h];simp[h]
theorem uA (f:Nat->Int):∀ n,∃ r l,vN f (n+1)=r++[l]/\l<n+1/\∀ j,j<n+1->f l<=f j
 | 0=>by
  refine⟨[],0,by simp[vN,gd],by lia,λj hj=>?_⟩
  have:j=0:=by lia
  subst this
  exact kZ _
 | n+1=>by
  let(r,l,h1,h2,h3):=uA f n
  rw[uz,h1]
  by_cases h:gd f (n+1)=true
  ·refine⟨r++[l],n+1,by rw[if_pos h],by lia,λj hj=>?_⟩
   by_cases e:j=n+1
   ·subst e;exact kZ _
   ·exact Int.le_of_lt (gd_iff.mp h j ⋯)
  ·refine⟨r,l,by rw[if_neg h],by lia,λj hj=>?_⟩
   by_cases e:j=n+1
   ·subst e
    refine Int.not_lt.mp λz=>h (gd_iff.mpr λj hj=>?_)
    have:=h3 j hj
    lia
   ·exact h3 j ⋯
theorem F6 {f:Nat->Int}{n l:Nat}{r:List Nat}(h1:vN f n=r++[l]):gd f n=true↔f n<f l:=by
 cases n with
 | zero=>simp[vN] at h1
 | succ n =>
  let(r',l',g1,g2,g3):=uA f n
  rw[g1] at h1
  have e:l'=l:=by
   have:=congrArg List.getLast? h1
   simpa using this
  subst e
  exact⟨λh=>gd_iff.mp h l' g2,λh=>gd_iff.mpr λj hj=>by have:=g3 j hj;lia⟩
theorem Dz (f:Nat->Int) (n:Nat):(vN f n=[]/\gd f n=true) ∨ ∃ r l,vN f n=r++[l]/\(gd f n=true↔f n<f l):=by
 cases n with
 | zero=>exact .inl ⟨by simp[vN],by simp[gd]⟩
 | succ n =>
  let(r,l,h1,h2,h3):=uA f n
  exact .inr ⟨r,l,h1,F6 h1⟩
theorem wU (f:Nat->Int) (n:Nat):(vN f n).length<=n:=by
 have:=cp (gd f) (lK n)
 simpa[vN] using this
def zR (f:Nat->Int) (i:Nat):FV:=.tup [.int i,.int (f i)]
def Jq (f:Nat->Int) (n:Nat):FV:=.lst ((vN f n).map (zR f))
theorem Dy (d:Nat){ws ss:List Int}(h:Rwo ws ss){T:Nat->PT}(hT:Mu ws ss T){Q:FV×FV->Prop}(q:Q (Jq (λi=>(T i).1) ws.length,.non)):callW tb (d+4) 14 [nQ ws ss] Q:=by
 have hn:=h.hn
 refine nr (fd:=Ji) rfl rfl ?_
 simp[Ji,JX,nM]
 refine⟨nk ⋯ ⋯,?_⟩
 obtain⟨f,hf⟩:∃ f,f=λi=>(T i).1:=⟨_,rfl⟩
 refine p8 (I:=λt L=>∃ a b,L=[some (nQ ws ss),some (.lst ((vN f t).map (zR f))),a,b]) ws.length 0 _ ⟨none,none,by simp[vN]⟩ ?_ ?_
 ·rintro t L K-ht ⟨a,b,rfl⟩ k
  simp
  refine ub d h ⋯ λo ho=>?_
  cases ho.uniq (hT t ⋯)
  simp[r6,oO]
  have hl:=wU f t
  have hft:(T t).1=f t:=by rw[hf]
  rw[hft]
  have fin:gd f t=true->2<=big/\(vN f t).length<big/\K [some (nQ ws ss),some (.lst ((vN f t).map (zR f)++[.tup [.int t,.int (f t)]])),some (.int t),some (.int (f t))]:=λhg =>
   ⟨by decide,by simp only[big];lia,k _ ⟨_,_,by rw[uz,if_pos hg,ir];rfl⟩⟩
  have non:gd f t=false->K [some (nQ ws ss),some (.lst ((vN f t).map (zR f))),some (.int t),some (.int (f t))]:=λhg =>
   k _ ⟨_,_,by rw[uz,if_neg (by rw[hg];exact eB)]⟩
  rcases Dz f t with⟨h1,h2⟩|⟨r,l,h1,h2⟩
  ·rw[if_pos h1];exact fin h2
  ·rw[if_neg (by rw[h1];simp)]
   have e:wp (tM ((vN f t).map (zR f)) (-1))=wp (some (zR f l)):=by
    funext Q2
    rw[h1,ir]
    exact propext (ua _ _ _)
   rw[e]
   simp[zR]
   refine rK (λh3=>fin (h2.mpr h3)) (λh3=>non ?_)
   cases z:gd f t with
   | false=>rfl
   | true=>exact absurd (h2.mp z) h3
 ·rintro L ⟨a,b,rfl⟩
  simp
  rw[hf];exact q
theorem Gh {ws ss:List Int}(R:Rwo ws ss){T:Nat->PT}(hT:Mu ws ss T):Vl 8000 2 (Jq (λi=>(T i).1) ws.length):=by
 have hl:=wU (λi=>(T i).1) ws.length
 have hn:=R.hn
 refine (Vl.lst (k:=100) (p:=1) (m:=30) ?_ (by rw[iz];lia)).mono (by decide) (by decide)
 intro x hx
 let(i,hi,rfl):=kE.mp hx
 have hin:=jh.mp (ip.mp hi).1
 let(h1,h2,_):=xw R (hT i hin)
 refine (Vl.tup (k:=41) (p:=0) (m:=2) ?_ (by simp)).mono (by decide) (by decide)
 intro y hy
 simp only[jP,gh,or_false] at hy
 rcases hy with rfl|rfl
 ·exact Vl.int ⋯ ⋯
 ·exact Vl.int ⋯ ⋯
def Gn (T:Nat->PT):Option Nat->FV
 | none=>.non
 | some i=>.tup [.int i,.int (T i).1,.tup ((T i).2.map λi:Nat=>.int i)]
def qX (T:Nat->PT) (n:Nat) (m:Int):Option Nat:=(lK n).find? λi=>decide ((T i).1<=m)
theorem zL {T:Nat->PT}{n:Nat}{m:Int}{ds:List Nat}{x:Nat}{r:List Nat}(e:lK n=ds++x :: r)(h:∀ i∈ds,¬ (T i).1<=m)(hx:(T x).1<=m):qX T n m=some x:=by
 unfold qX
 rw[e,List.find?_append,eg.mpr (by simpa using h)]
 simp[hx]
theorem D1 {T:Nat->PT}{n:Nat}{m:Int}(h:∀ i∈lK n,¬ (T i).1<=m):qX T n m=none:=by
 unfold qX
 exact eg.mpr (by simpa using h)
theorem Gs (d:Nat){ws ss:List Int}(h:Rwo ws ss){T:Nat->PT}(hT:Mu ws ss T) (m:Int){Q:FV×FV->Prop}(q:Q (Gn T (qX T ws.length m),.non)):callW tb (d+4) 12 [nQ ws ss,.int m] Q:=by
 have hn:=h.hn
 refine nr (fd:=Jk) rfl rfl ?_
 simp[Jk,JZ,nM]
 refine⟨nk ⋯ ⋯,?_⟩
 rw[ol]
 refine p9 (f:=λi:Nat=>FV.int i) (I:=λds L=>∃ a b c,L=[some (nQ ws ss),some (.int m),a,b,c]/\∀ i∈ds,¬ (T i).1<=m) (lK ws.length) (lK ws.length) [] _ rfl ⟨_,_,_,rfl,by simp⟩ ?_ ?_
 ·rintro ds x r L K e ⟨a,b,c,rfl,hd⟩ k
  have hx:x<ws.length:=jh.mp (by rw[e];simp)
  simp
  refine ub d h ⋯ λo ho=>?_
  cases ho.uniq (hT x hx)
  simp[r6,oO]
  refine rK (λhle=>?_) (λhgt=>?_)
  ·rw[zL e hd hle] at q
   exact⟨by decide,q⟩
  ·refine k _ ⟨_,_,_,rfl,λi hi=>?_⟩
   rcases iq.mp hi with hi|hi
   ·exact hd i hi
   ·simp at hi;subst hi;lia
 ·rintro L ⟨a,b,c,rfl,hd⟩
  simp
  rw[D1 hd] at q
  exact q
theorem Gk {ws ss:List Int}(h:Rwo ws ss){T:Nat->PT}(hT:Mu ws ss T) (m:Int):Vl 8000 2 (Gn T (qX T ws.length m)):=by
 have hn:=h.hn
 cases e:qX T ws.length m with
 | none=>exact Vl.non.mono (by decide) (by decide)
 | some i =>
  have hi:i<ws.length:=jh.mp (List.mem_of_find?_eq_some e)
  let(h1,h2,h3,h4):=xw h (hT i hi)
  refine (Vl.tup (k:=1800) (p:=1) (m:=3) ?_ (by simp)).mono (by decide) (by decide)
  intro x hx
  simp only[jP,gh,or_false] at hx
  rcases hx with rfl|rfl|rfl
  ·exact (Vl.int ⋯ ⋯).mono (by decide) (by decide)
  ·exact (Vl.int ⋯ ⋯).mono (by decide) (by decide)
  ·refine (Vl.tup (k:=41) (p:=0) (m:=30) ?_ (by simpa using h3)).mono (by decide) (by decide)
   intro y hy
   let(j,hj,rfl):=kE.mp hy
   have:=h4 j hj
   exact Vl.int ⋯ ⋯
def tT (ws ss:List Int) (M m:Int):Prop:=∃ p,Bst (qm ws ss none (some m)) (nu ws ss) ws.length 0 (some p)/\p.1<=M
theorem Du {ws ss:List Int}{m m':Int}(hm:m<=m') (a e:Nat)(h:qm ws ss none (some m) a e=true):qm ws ss none (some m') a e=true:=by
 simp only[qm,AE,jY,decide_eq_true_eq] at h ⊢
 lia
theorem Cu {ok ok':Nat->Nat->Bool}{n:Nat}(hk:∀ a e,ok a e=true->ok' a e=true):∀ {ks:List Nat},vp ok n ks->vp ok' n ks
 | [],_=>trivial
 | _ :: _,⟨a,b,d⟩=>⟨a,hk _ _ b,Cu hk d⟩
theorem Cv {ws ss:List Int}{n:Nat}{m:Int}:∀ {ks:List Nat},ks≠[]->vp (qm ws ss none (some m)) n ks->∃ a e,a<e/\e<=n/\nu ws ss a e<=m/\vp (qm ws ss none (some (nu ws ss a e))) n ks
 | [],h,_=>absurd rfl h
 | k :: r,_,⟨a,b,d⟩=>by
  have hb:nu ws ss k (pb n r)<=m:=by simpa only[qm,AE,jY,decide_eq_true_eq] using b
  have ok0:∀ m',nu ws ss k (pb n r)<=m'->qm ws ss none (some m') k (pb n r)=true:=λm' h=>by simpa only[qm,AE,jY,decide_eq_true_eq] using h
  by_cases hr:r=[]
  ·subst hr
   exact⟨k,_,a,qV d,hb,a,ok0 _ (kZ _),trivial⟩
  ·let(a',e',h1,h2,h3,h4):=Cv hr d
   by_cases hc:nu ws ss k (pb n r)<=nu ws ss a' e'
   ·exact⟨a',e',h1,h2,h3,a,ok0 _ hc,h4⟩
   ·exact⟨k,_,a,qV d,hb,a,ok0 _ (kZ _),Cu (Du ⋯) h4⟩
theorem D0 {ws ss:List Int}{M m:Int}{ks:List Nat}(h1:pb ws.length ks=0)(h2:vp (qm ws ss none (some m)) ws.length ks)(h3:pc (nu ws ss) ws.length ks<=M):tT ws ss M m:=by
 let(o,ho):=sQ (qm ws ss none (some m)) (nu ws ss) ws.length
 cases o with
 | none=>exact absurd h2 (ho _ h1)
 | some p =>
  have:=xc (ho.2.2.2 ks h1 h2)
  exact⟨p,ho,by dsimp only at this;lia⟩
theorem IJ {ws ss:List Int}{M m m':Int}(h:tT ws ss M m)(hm:m<=m'):tT ws ss M m':=by
 let(p,hp,hl):=h
 exact D0 hp.2.1 (Cu (Du hm) hp.2.2.1) (by rw[<- hp.1];exact hl)
theorem AT {ws ss:List Int}{M m:Int}(hn:1<=ws.length)(h:tT ws ss M m):∃ a e,a<e/\e<=ws.length/\nu ws ss a e<=m/\tT ws ss M (nu ws ss a e):=by
 let(p,hp,hl):=h
 have hne:p.2≠[]:=λe=>by have:=hp.2.1;rw[e] at this;simp[pb] at this;simp[this] at hn
 let(a,e,h1,h2,h3,h4):=Cv hne hp.2.2.1
 exact⟨a,e,h1,h2,h3,D0 hp.2.1 h4 (by rw[<- hp.1];exact hl)⟩
def D9:Option (Int×PT)->FV
 | none=>.non
 | some q=>.tup [.int q.1,.int q.2.1,.tup (q.2.2.map λi:Nat=>.int i)]
def Res (ws ss:List Int) (M:Int):Option (Int×PT)->Prop
 | none=>∀ m,¬ tT ws ss M m
 | some q=>Bst (qm ws ss none (some q.1)) (nu ws ss) ws.length 0 (some q.2)/\q.2.1<=M/\∀ m,tT ws ss M m->q.1<=m
theorem Res.uniq {ws ss:List Int}{M:Int}{o o':Option (Int×PT)}(h:Res ws ss M o)(h':Res ws ss M o'):o=o':=by
 cases o with
 | none =>
  cases o' with
  | none=>rfl
  | some q=>exact absurd ⟨_,h'.1,h'.2.1⟩ (h q.1)
 | some q =>
  cases o' with
  | none=>exact absurd ⟨_,h.1,h.2.1⟩ (h' q.1)
  | some q' =>
   let(b,p):=q
   let(b',p'):=q'
   have e1:=h.2.2 b' ⟨_,h'.1,h'.2.1⟩
   have e2:=h'.2.2 b ⟨_,h.1,h.2.1⟩
   have e3:b=b':=by dsimp only at e1 e2;lia
   subst e3
   cases h.1.uniq h'.1
   rfl
theorem Gi {ws ss:List Int}(R:Rwo ws ss)(hn:1<=ws.length){M:Int}{o:Option (Int×PT)}(h:Res ws ss M o):Vl 8000 2 (D9 o):=by
 cases o with
 | none=>exact Vl.non.mono (by decide) (by decide)
 | some q =>
  let(h1,h2,h3,h4):=xw R h.1
  let(a,e,g1,g2,g3,g4):=AT hn ⟨_,h.1,h.2.1⟩
  have g5:=h.2.2 _ g4
  have g6:=wL R (show a<ws.length by lia) (e:=e)
  refine (Vl.tup (k:=1800) (p:=1) (m:=3) ?_ (by simp)).mono (by decide) (by decide)
  intro x hx
  simp only[jP,gh,or_false] at hx
  rcases hx with rfl|rfl|rfl
  ·exact (Vl.int ⋯ ⋯).mono (by decide) (by decide)
  ·exact (Vl.int ⋯ ⋯).mono (by decide) (by decide)
  ·refine (Vl.tup (k:=41) (p:=0) (m:=40) ?_ (by simp;lia)).mono (by decide) (by decide)
   intro y hy
   let(i,hi,rfl):=kE.mp hy
   have:=h4 i hi
   exact Vl.int ⋯ ⋯
theorem yB {α β:Type}{g:α->List β}:∀ (xs:List α),(∀ x∈xs,(g x).length<=31)->(xs.flatMap g).length<=31*xs.length
 | [],_=>by simp
 | x :: r,h=>by
  have h1:=h x dX
  have h2:=yB r λy hy=>h y (cM _ hy)
  rw[List.flatMap_cons,dY,gp];lia
theorem EZ (d:Nat){ws ss:List Int}(h:Rwo ws ss)(h1:1<=ws.length) (M:Int){Q:FV×FV->Prop}(q:∀ o,Res ws ss M o->Q (D9 o,.non)):callW tb (d+4) 13 [nQ ws ss,.int M] Q:=by
 have hn:=h.hn
 refine nr (fd:=Jj) rfl rfl ?_
 simp[Jj,JY,nM]
 refine⟨nk ⋯ ⋯,?_⟩
 rw[ol]
 refine u6 (f:=λi:Nat=>FV.int i) (g:=λa=>(kU (a+1) (ws.length-a)).map λe=>nu ws ss a e) (lK ws.length) [] ?_ ?_ ?_ ?_
 ·intro a ha Z8 K hacc hK
  have ha:=jh.mp ha
  simp
  refine⟨⟨nk ⋯ ⋯,nk ⋯ ⋯⟩,?_⟩
  rw[wD ha ⋯ rfl]
  refine⟨by simp;lia,?_⟩
  refine AJ (f:=λi:Nat=>FV.int i) (g:=λe=>nu ws ss a e) (P:=λL=>∃ y,L=[some (nQ ws ss),some (.int M),some (.int ws.length),none,none,none,none,none,none,none,some (.int a),y]) (kU (a+1) (ws.length-a)) Z8 _ ⟨none,rfl⟩ ?_ ?_
  ·rintro e he L K2 ⟨y,rfl⟩ k2
   have he:=ft.mp he
   simp
   exact tV (d+2) h ha (e:=e) ⋯ rfl (k2 _ ⟨_,rfl⟩)
  ·rintro L ⟨y,rfl⟩
   exact hK
 ·intro a ha
  simp;lia
 ·simp;lia
 ·have hg:∀ a∈lK ws.length,((kU (a+1) (ws.length-a)).map λe=>nu ws ss a e).length<=31:=λa ha=>by simp;lia
  have hfl:=yB (lK ws.length) hg
  have hms0:∀ x,x∈(lK ws.length).flatMap (λa=>(kU (a+1) (ws.length-a)).map λe=>nu ws ss a e)↔∃ a e,a<e/\e<=ws.length/\x=nu ws ss a e:=λx=>by
   simp only[List.mem_flatMap,jh,kE,ft]
   constructor
   ·rintro⟨a,h1,e,⟨h2,h3⟩,rfl⟩
    exact⟨a,e,by lia,by lia,rfl⟩
   ·rintro⟨a,e,h1,h2,rfl⟩
    exact⟨a,by lia,e,⟨by lia,by lia⟩,rfl⟩
  rw[fu] at hfl
  generalize (lK ws.length).flatMap (λa=>(kU (a+1) (ws.length-a)).map λe=>nu ws ss a e)=ns at hfl hms0 ⊢
  rw[il]
  refine⟨by lia,λms hm hp=>?_⟩
  have hms:∀ x,x∈ms↔∃ a e,a<e/\e<=ws.length/\x=nu ws ss a e:=λx=>(hm x).trans (hms0 x)
  clear hms0 hm hfl
  simp
  have up:∀ {i j:Nat}{x y:Int},ms[i]?=some x->ms[j]?=some y->i<=j->x<=y:=λ{i j x y} hx hy hij=>by
   let(hi,rfl):=aN.mp hx
   let(hj,rfl):=aN.mp hy
   by_cases e:i=j
   ·subst e;exact kZ _
   ·exact Int.le_of_lt (aL.mp hp i j hi hj ⋯)
  refine so (I:=λk L=>∃ (lo hi:Nat)(a b:Option FV),L=[some (nQ ws ss),some (.int M),some (.int ws.length),some (.lst (ms.map .int)),some (.int lo),some (.int hi),a,b,none,none]/\k=hi-lo/\lo<=hi/\hi<=ms.length/\(∀ i x,i<lo->ms[i]?=some x->¬ tT ws ss M x)/\∀ x,ms[hi]?=some x->tT ws ss M x) ?_ (m:=ms.length) ⟨0,ms.length,none,none,rfl,rfl,kR _,kT _,λi x z=>by lia,λx hx=>by simp at hx⟩
  rintro k L K ⟨lo,hi,a,b,rfl,hk,l1,l2,l3,l4⟩ kk
  simp
  refine rK (λhlt=>?_) (λhge=>?_)
  ·have hmid:((lo:Int)+hi) / 2=((lo+hi) / 2:Nat):=by lia
   obtain⟨mid,hmd⟩:∃ mid,mid=(lo+hi) / 2:=⟨_,rfl⟩
   rw[hmid,<- hmd]
   obtain⟨x,hx⟩:∃ x,ms[mid]?=some x:=⟨_,bd (show mid<ms.length by lia)⟩
   have hat:∀ Q:FV->Prop,wp (tM (ms.map FV.int) (mid:Int)) Q↔Q (.int x):=λQ=>oC rfl (by simp[hx])
   rw[hat]
   refine sS d h x λo ho=>?_
   have low:¬ tT ws ss M x->∀ i y,i<mid+1->ms[i]?=some y->¬ tT ws ss M y:=λhf i y hi hy hf'=>hf (IJ hf' (up hy hx ⋯))
   cases o with
   | none =>
    simp[r6]
    exact kk (hi-(mid+1)) _ ⋯ ⟨mid+1,hi,_,_,rfl,rfl,by lia,l2,low λ⟨p,hp,_⟩=>(by cases ho.uniq hp),l4⟩
   | some p =>
    simp[r6,oO]
    refine rK (λhle=>?_) (λhgt=>?_)
    ·exact kk (mid-lo) _ ⋯ ⟨lo,mid,_,_,rfl,rfl,by lia,by lia,l3,λy hy=>by rw[hx] at hy;cases hy;exact⟨p,ho,hle⟩⟩
    ·exact kk (hi-(mid+1)) _ ⋯ ⟨mid+1,hi,_,_,rfl,rfl,by lia,l2,low λ⟨p',hp,hl⟩=>(by cases ho.uniq hp;exact hgt hl),l4⟩
  ·have find:∀ m,tT ws ss M m->∃ i y,ms[i]?=some y/\lo<=i/\y<=m:=λm hf=>by
    let(a,e,g1,g2,g3,g4):=AT h1 hf
    let(i,hi):=cj.mp ((hms _).mpr ⟨a,e,g1,g2,rfl⟩)
    exact⟨i,_,hi,ga λz=>l3 i _ z hi g4,g3⟩
   refine rK (λhe=>?_) (λhne=>?_)
   ·refine q none λm hf=>?_
    let(i,y,g1,g2,g3):=find m hf
    let(g4,_):=aN.mp g1
    lia
   ·have e2:lo=hi:=by lia
    subst e2
    obtain⟨x,hx⟩:∃ x,ms[lo]?=some x:=⟨_,bd (show lo<ms.length by lia)⟩
    have hat:∀ Q:FV->Prop,wp (tM (ms.map FV.int) (lo:Int)) Q↔Q (.int x):=λQ=>oC rfl (by simp[hx])
    rw[hat]
    refine sS d h x λo ho=>?_
    let(p,hp,hl):=l4 x hx
    cases ho.uniq hp
    simp[r6,oO]
    rw[hat]
    refine⟨by decide,?_⟩
    refine q (some (x,p)) ⟨hp,hl,λm hf=>?_⟩
    let(i,y,g1,g2,g3):=find m hf
    have:=up hx g1 g2
    show x<=m
    lia
theorem Vl.big {i:Int}(h:-(2 ^ 150)<i)(h':i<2 ^ 150):Vl 151 0 (.int i):=⟨.int i,rfl,kT _,by simp only[D.fit,decide_eq_true_eq];lia,by simp only[D.wt];split<;>lia⟩
theorem Bw (d:Nat){ws ss as:List Int}{r:Int}(h:Rwo ws ss)(ha:Ask ws.length as r){P:Nat->PT}(hP:∀ j,j<=ws.length->Bst BN (sc ws ss as r) ws.length j (some (P j))){Q:FV×FV->Prop}(q:Q (u3 P ws.length,.non)):callW tb (d+4) 16 [nQ ws ss,sM as,.int r] Q:=by
 have hn:=h.hn
 refine nr (fd:=Jg) rfl rfl ?_
 simp[Jg,GC]
 refine yU d h ha hP ?_
 simp
 refine⟨by simp[big];lia,?_⟩
 refine or (f:=λj=>oO (P j)) (g:=λj=>.int (P j).1) (lK (ws.length+1)) [] (λj hj K k=>?_) ?_
 ·simp[oO]
  exact k
 ·simp
  exact q
theorem D7 {ws ss as:List Int}{r:Int}(h:Rwo ws ss)(ha:Ask ws.length as r){P:Nat->PT}(hP:∀ j,j<=ws.length->Bst BN (sc ws ss as r) ws.length j (some (P j))):Vl 8000 1 (u3 P ws.length):=by
 have hn:=h.hn
 refine (Vl.tup (k:=151) (p:=0) (m:=31) ?_ (by simp;lia)).mono (by decide) (by decide)
 intro y hy
 let(j,hj,rfl):=kE.mp hy
 have hj:=jh.mp hj
 let(b1,b2,b3,_):=hP j ⋯
 have hl:=sT b3
 have hc:=CN h ha b3
 rw[<- b1] at hc
 exact Vl.big ⋯ ⋯
theorem AV {ws ss as:List Int}{r:Int}(h:Rwo ws ss)(ha:Ask ws.length as r){p:PT}{i:Nat}(hb:Bst BN (sc ws ss as r) ws.length i (some p)):Vl 4000 2 (oO p):=by
 have hn:=h.hn
 let(b1,b2,b3,_):=hb
 have hl:=sT b3
 have hv:=(uc b3).1
 have hc:=CN h ha b3
 rw[<- b1] at hc
 refine (Vl.tup (k:=1800) (p:=1) (m:=2) ?_ (by simp)).mono (by decide) (by decide)
 intro x hx
 simp only[jP,gh,or_false] at hx
 rcases hx with rfl|rfl
 ·exact (Vl.big ⋯ ⋯).mono (by decide) (by decide)
 ·refine (Vl.tup (k:=41) (p:=0) (m:=40) ?_ (by simp;lia)).mono (by decide) (by decide)
  intro y hy
  let(i,hi,rfl):=kE.mp hy
  have:=hv i hi
  exact Vl.int ⋯ ⋯
theorem KU {ws ss:List Int}{ks:List Nat}(h:Rw ws ss ks){m:Nat}(hm:m<ws.length):0<=rd ws ss ks m/\rd ws ss ks m<=100000000000:=by
 have h1:=ui (xs:=(pD ks m).map (kp ws ss ks)) λx hx=>by
  let(i,hi,rfl):=kE.mp hx
  have:=LG h (show i<ws.length by have:=wB hi;lia)
  lia
 rw[iz] at h1
 have:=wC (ks:=ks) m
 have:=h.hn
 unfold rd
 lia
theorem C1 {ws ss:List Int}{ks:List Nat}(h:Rw ws ss ks):Vl 2000 1 (.tup (((lK ws.length).map (rd ws ss ks)).map .int)):=by
 have hn:=h.hn
 refine (Vl.tup (k:=41) (p:=0) (m:=30) ?_ (by simp;lia)).mono (by decide) (by decide)
 intro y hy
 let(x,hx,rfl):=kE.mp hy
 let(m,hm,rfl):=kE.mp hx
 have:=KU h (jh.mp hm)
 exact Vl.int ⋯ ⋯
structure Wd where
 ws:List Int
 ss:List Int
 as:List Int
 r:Int
 M:Int
structure Gw (w:Wd):Prop where
 R:Rwo w.ws w.ss
 n1:1<=w.ws.length
 A:Ask w.ws.length w.as w.r
 m0:0<=w.M
 m1:w.M<=100000000000
def ql (w:Wd):FV:=.tup [nQ w.ws w.ss,sM w.as,.int w.r,.int w.M]
def SE (v y:FV):Prop:=pW v=some y/\∀ R:Bool->Prop,wp (xk y y) R=R true
theorem Vl.se {k p:Nat}{x:FV}(h:Vl k p x)(hk:k<=Kq.big)(hp:p<40):∃ y,SE x y:=by
 let(y,h1,h2):=Ho h hk hp
 exact⟨y,h1,h2⟩
structure Tw (w:Wd)(v:Nat->FV):Prop where
 vl:∀ i,i<8->Vl 8000 2 (v i)
 call:∀ (d i:Nat),i<8->∀ Q:FV×FV->Prop,Q (v i,.non)->callW tb (d+5) 32 [ql w,.int i] Q
 nl:∀ i,i<8->i≠4->sJ (v i) .list=some false
 l4:∃ xs,v 4=.lst xs/\xs.length<=100
 own:∀ (d:Nat)(Q:FV×FV->Prop),Q (v 4,.non)->callW tb (d+5) 35 [ql w,.int 4] Q
 first:∀ ys:Nat->FV,(∀ i,i<8->SE (v i) (ys i))->∀ (d:Nat)(Q:FV×FV->Prop),Q (.bl true,.non)->callW tb (d+5) 33 [ql w,.lst ((lK 8).map ys)] Q
theorem oJ (w:Wd)(Q:List FV->Prop):wp (qp (ql w)) Q↔Q [nQ w.ws w.ss,sM w.as,.int w.r,.int w.M]:=mx
theorem AY (o:Option PT):sJ (r6 o) .list=some false:=by cases o<;>rfl
theorem Gm (T:Nat->PT) (o:Option Nat):sJ (Gn T o) .list=some false:=by cases o<;>rfl
theorem Gj (o:Option (Int×PT)):sJ (D9 o) .list=some false:=by cases o<;>rfl
theorem Rwo.r0 {ws ss:List Int}(h:Rwo ws ss)(h1:1<=ws.length):Rw ws ss [0]:=⟨h.hw,h.hs,h.hl,h.hn,by simp,by simp,by simp,λk hk=>by simp at hk;lia⟩
theorem EN {ds:List D}{k p:Nat}(h:Vl k p (.tup (ds.map dF)))(hk:k<=big)(hd:A3 (.tup ds)<40)(hp:p<40):pW (.tup (ds.map dF))=some (.shn (.tup ds))/\(D.tup ds).fit=true/\(D.tup ds).wt<=big:=by
 let(d,e,h1,h2,h3):=h
 have e':dF d=dF (.tup ds):=by rw[<- e,dF,rF]
 have:=uY d nA (by simp only[nA];lia)
 rw[e',uY (.tup ds) nA (by simp only[nA];lia)] at this
 cases this
 refine⟨?_,h2,by lia⟩
 have:=uY (.tup ds) nA (by simp only[nA];lia)
 rw[dF,rF] at this
 show (fD nA (.tup (ds.map dF))).bind (λd=>if d.fit=true/\d.wt<=big then some (FV.shn d) else none)=_
 rw[this]
 show (if (D.tup ds).fit=true/\(D.tup ds).wt<=big then some (FV.shn (.tup ds)) else none)=_
 rw[if_pos ⟨h2,by lia⟩]
theorem OK {P:Nat->Prop}(h0:P 0)(h1:P 1)(h2:P 2)(h3:P 3)(h4:P 4)(h5:P 5)(h6:P 6)(h7:P 7):∀ i,i<8->P i
 | 0,_=>h0|1,_=>h1|2,_=>h2|3,_=>h3|4,_=>h4|5,_=>h5|6,_=>h6|7,_=>h7
theorem CB {w:Wd}(g:Gw w):∃ v,Tw w v:=by
 let(R,n1,A,m0,m1):=g
 let(T,hT):=EG w.ws w.ss
 let(P,hP):=Fo (sc w.ws w.ss w.as w.r) w.ws.length
 let(o0,h0):=sQ (qm w.ws w.ss (some (w.M % 3)) none) (nu w.ws w.ss) w.ws.length
 let(o1,h1):=sQ (qm w.ws w.ss none (some w.M)) (nu w.ws w.ss) w.ws.length
 have hn:=R.hn
 have rv:=C1 (R.r0 n1)
 obtain⟨o3,v3,call3⟩:∃ o3,Vl 8000 2 (D9 o3)/\∀ o,Res w.ws w.ss w.M o->o=o3:=by
  by_cases z:∃ o,Res w.ws w.ss w.M o
  ·let(o,ho):=z
   exact⟨o,Gi R n1 ho,λo' ho'=>ho'.uniq ho⟩
  ·exact⟨none,Vl.non.mono (by decide) (by decide),λo ho=>absurd ⟨o,ho⟩ z⟩
 refine⟨λi=>[r6 o0,r6 o1,Gn T (qX T w.ws.length w.M),D9 o3,Jq (λi=>(T i).1) w.ws.length,oO (P 0),u3 P w.ws.length,.tup (((lK w.ws.length).map (rd w.ws w.ss [0])).map .int)].getD i .non,?_,?_,?_,?_,?_,?_⟩
 ·refine OK ?_ ?_ ?_ ?_ ?_ ?_ ?_ ?_
  ·exact (AX R h0).mono (by decide) (by decide)
  ·exact (AX R h1).mono (by decide) (by decide)
  ·exact Gk R hT w.M
  ·exact v3
  ·exact Gh R hT
  ·exact (AV R A (hP 0 (kR _))).mono (by decide) (by decide)
  ·exact (D7 R A hP).mono (by decide) (by decide)
  ·exact rv.mono (by decide) (by decide)
 ·intro d
  refine OK ?_ ?_ ?_ ?_ ?_ ?_ ?_ ?_
  ·intro Q q
   have e3:∃ m:Nat,w.M % 3=m/\m<=1000:=⟨(w.M % 3).toNat,by lia,by lia⟩
   let(m,em,hm):=e3
   rw[em] at h0
   refine nr (fd:=qY) rfl rfl ?_
   simp[qY,vC,oJ]
   rw[em]
   exact ub (d+1) R hm λo ho=>by rw[ho.uniq h0];exact q
  ·intro Q q
   refine nr (fd:=qY) rfl rfl ?_
   simp[qY,vC,oJ]
   exact sS (d+1) R w.M λo ho=>by rw[ho.uniq h1];exact q
  ·intro Q q
   refine nr (fd:=qY) rfl rfl ?_
   simp[qY,vC,oJ]
   exact Gs d R hT w.M q
  ·intro Q q
   refine nr (fd:=qY) rfl rfl ?_
   simp[qY,vC,oJ]
   exact EZ d R n1 w.M λo ho=>by rw[call3 o ho];exact q
  ·intro Q q
   refine nr (fd:=qY) rfl rfl ?_
   simp[qY,vC,oJ]
   exact Dy d R hT q
  ·intro Q q
   refine nr (fd:=qY) rfl rfl ?_
   simp[qY,vC,oJ]
   exact Fv d R A hP q
  ·intro Q q
   refine nr (fd:=qY) rfl rfl ?_
   simp[qY,vC,oJ]
   exact Bw d R A hP q
  ·intro Q q
   refine nr (fd:=qY) rfl rfl ?_
   simp[qY,vC,oJ]
   exact⟨by decide,BC d (R.r0 n1) q⟩
 ·refine OK ?_ ?_ ?_ ?_ ?_ ?_ ?_ ?_
  ·intro h4
   exact AY o0
  ·intro h4
   exact AY o1
  ·intro h4
   exact Gm T _
  ·intro h4
   exact Gj o3
  ·intro h4
   exact absurd rfl h4
  ·intro h4
   rfl
  ·intro h4
   rfl
  ·intro h4
   rfl
 ·have:=wU (λi=>(T i).1) w.ws.length
  exact⟨_,rfl,by simp;lia⟩
 ·intro d Q q
  refine nr (fd:=IP) rfl rfl ?_
  simp[IP,JH,oJ]
  exact Dy d R hT q
 ·intro ys hy d Q q
  refine nr (fd:=IR) rfl rfl ?_
  simp[IR,JJ,oJ]
  have ays:∀ i:Nat,i<8->∀ S:FV->Prop,wp (tM ((lK 8).map ys) (i:Int)) S↔S (ys i):=λi hi S=>oC rfl (by simp[hi])
  let(s0,e0):=hy 0 (by decide)
  let(s1,e1):=hy 1 (by decide)
  let(s5,e5):=hy 5 (by decide)
  let(s6,e6):=hy 6 (by decide)
  replace s0:pW (r6 o0)=some (ys 0):=s0
  replace s1:pW (r6 o1)=some (ys 1):=s1
  replace s5:pW (oO (P 0))=some (ys 5):=s5
  replace s6:pW (u3 P w.ws.length)=some (ys 6):=s6
  refine (ays 0 (by decide) _).mpr ⟨by decide,?_⟩
  refine Bf d R n1 (some (w.M % 3)) none λo ho=>?_
  cases ho.uniq h0
  rw[s0,nT,e0,if_pos rfl]
  refine (ays 1 (by decide) _).mpr ⟨by decide,?_⟩
  refine Bf d R n1 none (some w.M) λo ho=>?_
  cases ho.uniq h1
  rw[s1,nT,e1,if_pos rfl]
  refine Eh (d+3) R A λkk vs hc=>?_
  refine CF (d+3) R hc hP ?_
  refine (ays 6 (by decide) _).mpr ?_
  rw[s6,nT,e6,if_pos rfl]
  refine (ays 5 (by decide) _).mpr ?_
  have tb0:∀ S:FV->Prop,(wp (oG (u3 P w.ws.length)) λxs=>wp (tM xs 0) S)↔S (.int (P 0).1):=λS=>by
   rw[B6]
   exact oC (n:=0) rfl (by simp)
  have ve:=AV R A (hP 0 (kR _))
  have ep:oO (P 0)=.tup ([D.int (P 0).1,.tup ((P 0).2.map λi:Nat=>D.int i)].map dF):=by
   simp[oO,dF,rF,fE]
  rw[ep] at ve s5
  have dk:∀ l:List Nat,deps (l.map λi:Nat=>D.int i)=0:=λl=>by
   induction l with
   | nil=>rfl
   | cons a r ih=>simp only[jS,deps,A3,ih];rfl
  let(g1,g2,g3):=EN ve (by decide) (by simp only[A3,deps,dk];lia) (by decide)
  rw[g1] at s5
  rw[<- hW s5]
  have si:pW (.int (P 0).1)=some (.str (toString (P 0).1)):=by
   have:(D.int (P 0).1).fit=true:=by
    simp only[D.fit,D.fits,gG] at g2 ⊢
    exact g2.1
   simp only[D.fit,decide_eq_true_eq] at this
   show (if -(2 ^ 150)<(P 0).1/\(P 0).1<2 ^ 150 then some (FV.str (toString (P 0).1)) else none)=_
   rw[if_pos this]
  refine (tb0 _).mpr ?_
  rw[si,nT]
  refine HS g2 g3 ?_
  refine (tb0 _).mpr ?_
  rw[si,nT]
  exact⟨rfl,q⟩
theorem xJ (d:Nat){n g:Int}{v:FV}{t1 t2 t3 t4 t5 t6:Option FV}{m:Nat}{K:List FV->m7->Prop}(hs:Lf n v)(h0:0<=n)(hn:n<9000)(hm:m<=30)
  (k:∀ xs v',xs.length=m->xH xs->Lf (n+90) v'->K (xs.map .int) [some v',t1,t2,t3,t4,t5,t6,some (.int g)]):pR 8 1 (.nm 8) nR (nH (callW tb (d+3)) 22 0 (m6 (m5 7) m9)) (tU 0 m) [] [some v,t1,t2,t3,t4,t5,t6,some (.int g)] K:=by
 rw[ol]
 refine pV (f:=λi:Nat=>FV.int i) (I:=λds Z8 L=>∃ v' xs,L=[some v',t1,t2,t3,t4,t5,t6,some (.int g)]/\Z8=xs.map .int/\xs.length=ds.length/\xH xs/\Lf (n+3*ds.length) v') (lK m) (lK m) [] [] _ rfl ⟨v,[],rfl,rfl,rfl,by simp[xH],hs.mono (by simp)⟩ ?_ ?_
 ·rintro ds x r Z8 L K e ⟨v',xs,rfl,rfl,hl',hx,lf⟩ k
  have hd:ds.length<30:=by have:=congrArg kW e;simp at this;lia
  simp
  refine uC d lf ⋯ ⋯ λs v4 s0 s1 l4=>?_
  simp
  refine k _ _ ⟨v4,xs++[s],rfl,by simp,by simp[hl'],?_,l4.mono (by simp;lia)⟩
  intro y hy
  rcases iq.mp hy with hy|hy
  ·exact hx y hy
  ·simp at hy;subst hy;lia
 ·rintro ys L ⟨v',xs,rfl,rfl,hl',hx,lf⟩
  simp only[fu] at hl' lf
  exact k xs v' hl' hx (lf.mono ⋯)
theorem Fz (d:Nat){n:Int}{v:FV}{ws ss:List Int}(hs:Lf n v)(h0:0<=n)(hn:n<5000)(R:Rwo ws ss)(h1:1<=ws.length){Q:FV×FV->Prop}(q:∀ ws2 ss2 v',Rwo ws2 ss2->ws2.length=ws.length->Lf (n+400) v'->Q (nQ ws2 ss2,v')):callW tb (d+4) 31 [v,nQ ws ss] Q:=by
 let(hw,hss,hl,h30):=R
 refine nr (fd:=IS) rfl rfl ?_
 simp[IS,JK,nM]
 refine nZ (d+1) hs ⋯ ⋯ ⋯ λu v1 u0 u1 l1=>?_
 obtain⟨a,rfl⟩:∃ a:Nat,u=a:=⟨u.toNat,by lia⟩
 have ha:a<ws.length:=by lia
 simp
 refine nZ (d+1) l1 ⋯ ⋯ ⋯ λk v2 k0 k1 l2=>?_
 simp
 have sz:∀ x∈ws,1<=x % 1000000000+1/\x % 1000000000+1<2000000000:=λx hx=>by lia
 have sz2:∀ x∈ss,1<=x % 1000000000+1/\x % 1000000000+1<2000000000:=λx hx=>by lia
 refine rK (λg=>?_) λg=>?_
 ·rw[oC (n:=a) rfl (v:=.int (ws.getD a 0)) (by rw[fx,bd ha,aC,bd ha];rfl)]
  have c0:∀ (xs:List FV) (i:Nat),qh xs none (some (i:Int))=xs.take i:=λxs i=>Eg xs i
  have c1:∀ (xs:List FV) (i:Nat),qh xs (some ((i:Int)+1)) none=xs.drop (i+1):=λxs i=>by have:=yO xs (i+1);simpa using this
  refine⟨by decide,?_⟩
  simp
  simp only[c0,c1]
  refine⟨by decide,by simp[big];lia,by simp[big];lia,by decide,?_⟩
  have hg:ws.getD a 0∈ws:=by rw[aC,bd ha];exact gu ha
  have:=q (ws.take a++(ws.getD a 0 % 1000000000+1) :: ws.drop (a+1)) ss v2 ⟨λx hx=>?_,hss,by simp;lia,by simp;lia⟩ (by simp;lia) (l2.mono ⋯)
  ·simpa[nQ] using this
  ·rcases iq.mp hx with hx|hx
   ·exact hw x (cI hx)
   ·rcases jP.mp hx with rfl|hx
    ·exact sz _ hg
    ·exact hw x (cJ hx)
 refine rK (λg=>?_) λg=>?_
 ·have c0:∀ (xs:List FV) (i:Nat),qh xs none (some (i:Int))=xs.take i:=λxs i=>Eg xs i
  have c1:∀ (xs:List FV) (i:Nat),qh xs (some ((i:Int)+1)) none=xs.drop (i+1):=λxs i=>by have:=yO xs (i+1);simpa using this
  have c2:qh (List.map FV.int ss) (some (a:Int)) (some ((a:Int)+1))=((ss.drop a).take 1).map .int:=by
   have:=Bc (ss.map FV.int) a 1
   rw[jQ,jR]
   simpa using this
  rw[c2]
  refine⟨by simp[big];lia,?_⟩
  refine or (f:=FV.int) (g:=λx=>.int (x % 1000000000+1)) ((ss.drop a).take 1) [] (λx hx K kk=>?_) ?_
  ·simp
   refine⟨by decide,?_⟩
   exact kk
  rw[il]
  simp only[c0]
  refine⟨by simp[big];lia,?_⟩
  simp[nM]
  simp only[c1]
  refine⟨by simp[big];lia,by decide,?_⟩
  have:=q ws (ss.take a++(((ss.drop a).take 1).map λx=>x % 1000000000+1)++ss.drop (a+1)) v2 ⟨hw,λx hx=>?_,by simp;lia,h30⟩ rfl (l2.mono ⋯)
  ·simpa[nQ,fE] using this
  ·rcases iq.mp hx with hx|hx
   ·rcases iq.mp hx with hx|hx
    ·exact hss x (cI hx)
    ·let(y,hy,rfl):=kE.mp hx
     exact sz2 y (cJ (cI hy))
   ·exact hss x (cJ hx)
 ·refine nZ (d+1) l2 ⋯ ⋯ ⋯ λgr v3 g0 g1 l3=>?_
  simp
  refine⟨nk ⋯ ⋯,by simp[ol,big];lia,?_⟩
  refine xJ d l3 ⋯ ⋯ h30 λws2 v' hl' hx lf=>?_
  simp
  refine⟨nk ⋯ ⋯,by simp[ol,big];lia,?_⟩
  refine xJ d lf ⋯ ⋯ (show ws.length-1<=30 by lia) λss2 v' hl'' hx2 lf=>?_
  simp
  refine⟨by decide,?_⟩
  have:=q ws2 ss2 v' ⟨hx,hx2,by lia,by lia⟩ hl' (lf.mono ⋯)
  simpa[nQ] using this
theorem law_val (ns:List Int):callW tb 14 34 [.scr ns] λz=>z.1=.bl true:=by
 refine nr (fd:=IQ) rfl rfl ?_
 simp[IQ,JI]
 refine w9 12 ns 0 λv1 y l1=>?_
 simp
 refine HD 9 l1 ⋯ ⋯ (by decide) (by decide) λws ss v2 w1 w2 hsl hw hs l2=>?_
 have R:Rwo ws ss:=⟨hw,hs,hsl,w2⟩
 rw[show FV.tup [.tup (ws.map .int),.tup (ss.map .int)]=nQ ws ss from rfl]
 simp
 refine w9 12 ns 1 λv3 y3 l3=>?_
 simp
 refine Fz 9 l3 ⋯ ⋯ R w1 λws2 ss2 v4 R2 n2 l4=>?_
 simp
 refine⟨by decide,?_⟩
 rw[show [nQ ws ss,nQ ws2 ss2]=[(ws,ss),(ws2,ss2)].map λp:List Int×List Int=>nQ p.1 p.2 from rfl]
 refine p9 (f:=λp:List Int×List Int=>nQ p.1 p.2) (I:=λdn L=>∃ v wl a b c,(∀ w∈wl,Gw w)/\wl.length=dn.length/\Lf (500+100*dn.length) v/\L=[some (.scr ns),some v,some (nQ ws ss),some (.lst (wl.map ql)),a,b,c,none,none,none,none,none,none]) [(ws,ss),(ws2,ss2)] [(ws,ss),(ws2,ss2)] [] _ rfl ⟨v2,[],none,none,none,by simp,rfl,l2.mono (by simp),rfl⟩ (λdn p r L K e hI hK=>?_) λL hI=>?_
 ·let(v,wl,a,b,c,hg,hll,hv,rfl):=hI
  have hd:dn.length<=1:=by
   have:=congrArg kW e
   simp at this;lia
  have hp:Rwo p.1 p.2/\p.1.length=ws.length:=by
   have:p∈[(ws,ss),(ws2,ss2)]:=by rw[e];simp
   simp at this
   rcases this with rfl|rfl
   ·exact⟨R,rfl⟩
   ·exact⟨R2,n2⟩
  let(Rp,np):=hp
  have h30:=Rp.hn
  simp[nM]
  refine GH 10 hv ⋯ ⋯ w2 λas r v5 A l5=>?_
  simp[nM]
  have sb:=ui (xs:=p.1) λx hx=>by have:=Rp.hw x hx;lia
  refine EK ⋯ (λx hx=>by have:=Rp.hw x hx;lia) ?_
  refine nZ 11 l5 ⋯ (by decide) (by decide) λu v6 u0 u1 l6=>?_
  simp
  refine⟨.inr (pd ⋯ ⋯),by decide,by simp[big];lia,?_⟩
  have hmul:0<=p.1.sum*(1+u)/\p.1.sum*(1+u)<=p.1.sum*9:=⟨jm sb.1 ⋯,ai ⋯ sb.1⟩
  refine hK _ ⟨v6,wl++[⟨p.1,p.2,as,r,p.1.sum*(1+u) / 9⟩],some (nQ p.1 p.2),some (sM as),some (.int r),λw hw=>?_,by simp[hll],l6.mono (by simp;lia),by simp[ql]⟩
  rcases iq.mp hw with hw|hw
  ·exact hg w hw
  ·cases dU.mp hw
   exact⟨Rp,by dsimp only;lia,by rw[np];exact A,by dsimp only;lia,by dsimp only;lia⟩
 ·let(v,wl,a,b,c,hg,hll,hv,rfl):=hI
  have hl2:wl.length=2:=hll
  have ex:∀ w,∃ v,w∈wl->Tw w v:=λw=>by
   by_cases z:w∈wl
   ·let(v,hv):=CB (hg w z)
    exact⟨v,λ_=>hv⟩
   ·exact⟨λ_=>.non,λy=>absurd y z⟩
  let(tv,htv):=bz ex
  have ey:∀ w:Wd,∃ f:Nat->FV,w∈wl->∀ i,i<8->SE (tv w i) (f i):=λw=>by
   by_cases z:w∈wl
   ·have:∀ i,∃ y,i<8->SE (tv w i) y:=λi=>by
     by_cases hi:i<8
     ·let(y,hy):=((htv w z).vl i hi).se (by decide) (by decide)
      exact⟨y,λ_=>hy⟩
     ·exact⟨.non,λy=>absurd y hi⟩
    let(f,hf):=bz this
    exact⟨f,λ_=>hf⟩
   ·exact⟨λ_=>.non,λy=>absurd y z⟩
  let(ty,hty):=bz ey
  have vW:Vl 40000 4 (.lst (wl.map ql)):=by
   refine (Vl.lst (k:=16010) (p:=3) (m:=2) (λy hy=>?_) (by simp[hl2])).mono (by decide) (by decide)
   let(w,hw,rfl):=kE.mp hy
   let(Rw',_,A,m0,m1):=hg w hw
   have h30:=Rw'.hn
   have r0:=A.r0
   have r1:=A.r1
   refine (Vl.tup (k:=4000) (p:=2) (m:=4) ?_ (by simp)).mono (by decide) (by decide)
   intro y hy
   simp only[jP,gh,or_false] at hy
   rcases hy with rfl|rfl|rfl|rfl
   ·exact Gd Rw'
   ·refine (Vl.tup (k:=41) (p:=0) (m:=30) ?_ (by simp[A.len];lia)).mono (by decide) (by decide)
    intro y hy
    let(i,hi,rfl):=kE.mp hy
    have:=A.a i hi
    exact Vl.int ⋯ ⋯
   ·exact (Vl.int ⋯ ⋯).mono (by decide) (by decide)
   ·exact (Vl.int ⋯ ⋯).mono (by decide) (by decide)
  let(sw,hsw):=vW.se (by decide) (by decide)
  simp
  rw[hsw.1,nT]
  refine⟨by rw[hl2];decide,?_⟩
  refine or (f:=ql) (g:=λw=>.lst ((lK 8).map (ty w))) wl [] (λw hw K k=>?_) ?_
  ·simp
   refine⟨by decide,by decide,?_⟩
   rw[show tU 0 8=(lK 8).map λi:Nat=>FV.int i from ol 8]
   refine or (f:=λi:Nat=>FV.int i) (g:=ty w) (lK 8) [] (λi hi K2 k2=>?_) ?_
   ·have hi:=jh.mp hi
    simp
    refine (htv w hw).call 8 i hi _ ?_
    rw[(hty w hw i hi).1,nT]
    exact k2
   ·rw[il]
    simpa using k
  rw[il]
  simp
  have ep:∀ l:List Wd,pY (l.map ql) (l.map λw=>FV.lst ((lK 8).map (ty w)))=l.map λw=>FV.tup [ql w,.lst ((lK 8).map (ty w))]:=λl=>by
   induction l with
   | nil=>rfl
   | cons x r ih=>simpa[pY] using ih
  rw[ep wl]
  refine⟨by simp[hl2,big],?_⟩
  refine or (f:=λw=>FV.tup [ql w,.lst ((lK 8).map (ty w))]) (g:=λ_=>.bl true) wl [] (λw hw K k=>?_) ?_
  ·simp
   exact (htv w hw).first (ty w) (hty w hw) 8 _ (by simpa using k)
  rw[il,show (λ_:Wd=>FV.bl true)=(λb=>FV.bl ((λ_:Wd=>true) b)) from rfl,wu,nT]
  simp
  refine⟨⟨by decide,nk (by split<;>split<;>lia) (by split<;>split<;>lia)⟩,?_⟩
  generalize hF:FV.lst (wl.map λw=>FV.lst ((lK 8).map (ty w)))=F
  refine p8 (I:=λ_ L=>∃ x1 d e f g,L=[some (.scr ns),x1,some (nQ ws ss),some (.lst (wl.map ql)),a,b,c,some sw,some F,d,e,f,g]) _ 2 _ ⟨_,_,_,_,_,rfl⟩ (λk L K _ hk hI hK=>?_) λL hI=>?_
  ·let(x1,d,e,f,g,rfl):=hI
   simp
   refine w9 12 ns k λv7 y7 l7=>?_
   simp
   refine nZ 11 l7 ⋯ (by decide) (by decide) λat' v8 a0 a1 l8=>?_
   simp
   refine nZ 11 l8 ⋯ (by decide) (by decide) λwh v9 b0 b1 l9=>?_
   obtain⟨j,rfl⟩:∃ j:Nat,at'=j:=⟨at'.toNat,by lia⟩
   obtain⟨i,rfl⟩:∃ i:Nat,wh=i:=⟨wh.toNat,by lia⟩
   have hj:j<wl.length:=by lia
   have hi:i<8:=by lia
   obtain⟨w,hwj⟩:∃ w,wl[j]?=some w:=⟨_,bd hj⟩
   have hw:w∈wl:=cK hwj
   have T:=htv w hw
   have Y:=hty w hw
   have aw:∀ S:FV->Prop,wp (tM (wl.map ql) (j:Int)) S↔S (ql w):=λS=>oC rfl (by rw[fx,hwj];rfl)
   have aF:∀ S:FV->Prop,(wp (oG F) λxs=>wp (tM xs (j:Int)) λz=>wp (oG z) λxs=>wp (tM xs (i:Int)) S)↔S (ty w i):=λS=>by
    rw[<- hF]
    show wp (tM (wl.map λw=>FV.lst ((lK 8).map (ty w))) (j:Int)) _↔_
    rw[oC (n:=j) rfl (v:=.lst ((lK 8).map (ty w))) (by rw[fx,hwj];rfl)]
    exact oC (n:=i) rfl (by simp[hi])
   simp
   by_cases z:i=4
   ·subst z
    refine⟨by decide,Hz ?_⟩
    simp
    refine (aw _).mpr (T.own 8 _ ?_)
    let(s4,q4):=Y 4 hi
    rw[s4,nT]
    refine (aF _).mpr ?_
    rw[q4]
    let(xs,ex4,hxl):=T.l4
    refine⟨rfl,?_⟩
    dsimp only
    rw[ex4]
    show wp (sJ (.lst xs) .list) _
    rw[show sJ (.lst xs) .list=some true from rfl,nT,if_pos rfl]
    simp
    refine⟨by simp[big];lia,(aw _).mpr (T.call 8 4 hi _ ?_)⟩
    rw[s4,nT]
    refine (aF _).mpr ?_
    rw[q4]
    refine⟨rfl,?_⟩
    rw[hsw.1,nT,hsw.2]
    exact⟨rfl,hK _ ⟨_,_,_,_,_,rfl⟩⟩
   ·refine⟨by decide,HA ?_⟩
    simp
    refine (aw _).mpr (T.call 8 i hi _ ?_)
    let(s4,q4):=Y i hi
    rw[s4,nT]
    refine (aF _).mpr ?_
    rw[q4,T.nl i hi z,nT]
    refine⟨rfl,rfl,(aw _).mpr (T.call 8 i hi _ ?_)⟩
    rw[s4,nT]
    refine (aF _).mpr ?_
    rw[q4]
    refine⟨rfl,?_⟩
    rw[hsw.1,nT,hsw.2]
    exact⟨rfl,hK _ ⟨_,_,_,_,_,rfl⟩⟩
  ·let(x1,d,e,f,g,rfl):=hI
   simp
end Kq
set_option maxRecDepth 100000
set_option maxHeartbeats 4000000
namespace Kq
open PySem PySem.Spec PyProof.Rows L2 PySem.W
def top (i:Nat):mX:=PySem.Challenge.pw_keepwhole_k39_rows_by_turns.main.body.getD i (.Pass ⟨0,0,0,0⟩)
def d0:Df:=⟨"change_sizes",top 1,["stock"],["stock"],[]⟩
def d1:Df:=⟨"kept_sizes",top 2,["stock","laying"],["stock","laying","sizes"],[]⟩
def d2:Df:=⟨"way",top 3,["laying","make"],["laying","make","makes","on"],[.imm,.imm,.own]⟩
def d3:Df:=⟨"reads",top 4,["stock","laying"],["stock","laying","sizes"],[]⟩
def d4:Df:=⟨"row_stock",top 6,["row"],["row","wholes","steps"],[]⟩
def d5:Df:=⟨"row_laying",top 7,["row","kept"],["row","kept"],[]⟩
def d6:Df:=⟨"row_reads",top 8,["row","kept"],["row","kept"],[]⟩
def d7:Df:=⟨"stretch_size",top 9,["row","first","end"],["row","first","end","wholes","steps"],[]⟩
def d8:Df:=⟨"within_deep",top 11,["row","most"],["row","most","many"],[]⟩
def d9:Df:=⟨"within_reads",top 12,["row","most"],["row","most"],[]⟩
def Q4:Df:=⟨"reads_end",top 13,["row","first","most"],["row","first","most","end"],[]⟩
def Q3:Df:=⟨"least_kept",top 14,["row","ends"],["row","ends","many","best","first","found","end","takes","kept"],[.imm,.imm,.imm,.own,.imm,.own]⟩
def QZ:Df:=⟨"deep_for",top 15,["row","most"],["row","most","bound","takes","kept"],[]⟩
def QY:Df:=⟨"reads_for",top 16,["row","most"],["row","most","many","bounds","low","high","middle","told","takes","kept"],[]⟩
def QX:Df:=⟨"not_beaten",top 17,["row"],["row","pairs","bound","takes"],[.imm,.own]⟩
def QW:Df:=⟨"least_sum",top 19,["row","asks","rate"],["row","asks","rate"],[]⟩
def QV:Df:=⟨"sum_table",top 20,["row","asks","rate"],["row","asks","rate"],[]⟩
def QU:Df:=⟨"best_sums",top 21,["row","asks","rate"],["row","asks","rate","best","first","stretches","found"],[]⟩
def QT:Df:=⟨"stretch_sums",top 22,["row","asks","rate","first"],["row","asks","rate","first","sums","asked","make","read"],[.imm,.imm,.imm,.imm,.own]⟩
def QS:Df:=⟨"_law_mix",top 24,["_law_cell","_law_k"],["_law_cell","_law_k","_law_m"],[]⟩
def QR:Df:=⟨"_law_left",top 25,["_law_script","_law_k"],["_law_script","_law_k","_law_cell"],[]⟩
def QQ:Df:=⟨"_law_pick",top 26,["_law_left_here","_law_many"],["_law_left_here","_law_many","_law_digit"],[.own]⟩
def QP:Df:=⟨"_law_size",top 27,["_law_left_here","_law_great"],["_law_left_here","_law_great","_law_way_drawn"],[.own]⟩
def QO:Df:=⟨"_law_row",top 28,["_law_left_here","_law_most"],["_law_left_here","_law_most","_law_many","_law_great","_law_wholes"],[.own]⟩
def QN:Df:=⟨"_law_stretch",top 29,["_law_row_here","_law_begin","_law_end"],["_law_row_here","_law_begin","_law_end"],[]⟩
def QM:Df:=⟨"_law_may",top 30,["_law_row_here","_law_begin","_law_end","_law_may_here"],["_law_row_here","_law_begin","_law_end","_law_may_here"],[]⟩
def QL:Df:=⟨"_law_ends",top 31,["_law_row_here","_law_rooms","_law_begin","_law_may_here"],["_law_row_here","_law_rooms","_law_begin","_law_may_here","_law_some"],[]⟩
def QK:Df:=⟨"_law_best",top 32,["_law_row_here","_law_may_here"],["_law_row_here","_law_may_here","_law_many","_law_rooms","_law_begin","_law_some","_law_kept","_law_at"],[.imm,.imm,.imm,.own,.imm,.imm,.own]⟩
def QJ:Df:=⟨"_law_asks",top 33,["_law_left_here","_law_many"],["_law_left_here","_law_many","_law_most","_law_chosen","_law_found","_law_some"],[.own]⟩
def QI:Df:=⟨"_law_costs",top 34,["_law_row_here","_law_asks_here","_law_rate"],["_law_row_here","_law_asks_here","_law_rate","_law_many","_law_found","_law_begin","_law_size_here","_law_total","_law_make","_law_more"],[.imm,.imm,.imm,.imm,.own]⟩
def QG:Df:=⟨"_law_table",top 35,["_law_row_here","_law_costs_here"],["_law_row_here","_law_costs_here","_law_many","_law_found","_law_begin"],[.imm,.imm,.imm,.own]⟩
def QF:Df:=⟨"_law_like",top 36,["_law_left_here","_law_row_here"],["_law_left_here","_law_row_here","_law_many","_law_at","_law_kind","_law_wholes","_law_steps","_law_great"],[.own]⟩
def NZ:Df:=⟨"_law_told",top 37,["_law_world","_law_which"],["_law_world","_law_which","_law_row_here","_law_asks_here","_law_rate","_law_most"],[]⟩
def QE:Df:=⟨"_law_first_right",top 38,["_law_world","_law_told_here"],["_law_world","_law_told_here","_law_row_here","_law_asks_here","_law_rate","_law_most","_law_table_here"],[]⟩
def d34:Df:=⟨"law",top 39,["_law_script"],["_law_script","_law_left_here","_law_row_here","_law_worlds","_law_one","_law_asks_here","_law_rate","_law_kept","_law_first","_law_k","_law_at","_law_which","_law_found"],[.imm,.own,.imm,.own,.imm,.imm,.imm,.imm,.imm,.imm,.imm,.imm,.own]⟩
abbrev d35:Df:=NZ
def fns:Fns:=⟨[ke "change_sizes",ke "kept_sizes",ke "way",ke "reads",ke "row_stock",ke "row_laying",ke "row_reads",ke "stretch_size",ke "within_deep",ke "within_reads",ke "reads_end",ke "least_kept",ke "deep_for",ke "reads_for",ke "not_beaten",ke "least_sum",ke "sum_table",ke "best_sums",ke "stretch_sums",ke "_law_mix",ke "_law_left",ke "_law_pick",ke "_law_size",ke "_law_row",ke "_law_stretch",ke "_law_may",ke "_law_ends",ke "_law_best",ke "_law_asks",ke "_law_costs",ke "_law_table",ke "_law_like",ke "_law_told",ke "_law_first_right",ke "law",ke "_law_told"],[],[]⟩
abbrev DB (d:Df)(fr:Bool)(b:CW->SW):Prop:=∀ (X:Cx)(call:CW) (n:Nat),Good X (d.cc fns) n (Hr tb call)->wA X (d.cc fns) fr (oT d.st) (b call)
local macro_rules | `(tactic| ac_rfl)=>do
 let g:=Lean.mkIdent `G
 let mut ts:Array (Lean.TSyntax ``Lean.Parser.Tactic.tacticSeq):=#[]
 for r in ("§Pe 12210;NQ 03110;IM 00010;PY 00010;nG 02010;O6 11110;rY 01010;fe_ix 03110;Px 02010;O0 01010;OZ 14310;LX 12110;NN 16510;fs_if 03010;O2 00010;G5 11110;Pf 01010;Mb 18710;CompOk.mk 05110;Nl 00010;Pp 13210;fb_eq 12010;Pq 13210;NB 00010;Pm 02010;No 14310;L8 13210;L7 13210;Pg 02010;Nu 01010;Po 01010;Pn 02010;fb_ne 12010;Nr 02110;NC 16510;fe_bl 00010;Pc 01010;Pu 15410;Pl 00010;fe_sl 03010;IL 01010;O3 00010;Pj 02010;Mc 03110;D2 11010;fb_lt 12010;NL 02010;Nv 00010;fe_if 03010;NO 01010;OX 02010;Nj 01010;OV 02010;OU 01010;fw_or 02010;fs_ix 15310;NF 13210;fb_le 12010;Nt 15310;Np 12210;fb_gt 02010;Nk 01010;PU 01010;NM 12010;PV 13010;NI 15310;O5 13210;NH 13210;PR 01010;Py 13210;L9 13210;Pk 01010;NP 13210;L6 16510;NG 13210;fe_eq 12010;Pr 15410;ND 13210;NE 13210;LZ 02010;Pt 13210;NK 14310;LW 15310;CompOk2.mk 09210;fg_tn 12110;fe_ge 02010;fe_le 12010;Ps 01010;fe_or 02010;Pd 02010;Ph 13110;Nn 14210;LY 00010;Pb 02010;Pi 15210;Pv 02010;Ma 17510;Pw 13210;NJ 15310;O1 14210;Nm 00010;IK 13310;O4 02010;OY 14210;PX 01010;Nq 01010;fr_of 01010;PQ 02110;fb_w 01010;NC 16511;L6 16511;O9 13200;O8 01000;Nx 15300;Nz 13200;Ny 13200;NA 15300;O7 15300;Pa 12200;Nw 15400;IM 00000;fe_bl 00000;Pl 00000".drop 1).toString.splitOn ";" do
  let [n,c]:=r.splitOn " " | continue
  let [a,k,s,w,e]:=c.toList.map λx=>x.toNat-48|continue
  let f:=Lean.mkIdent n.toName
  let mut as:Array Lean.Term:=if a=1 then #[g] else #[]
  for _ in [0:k] do as:=as.push (<- `(?_))
  let mut t <- if as.isEmpty then `(tactic| exact $f) else `(tactic| refine $f $as*)
  if w=1 then t <- `(tactic| with_reducible $t:tactic)
  if e=1 then t <- `(tactic| ((with_reducible refine pG ?_); $t:tactic))
  for _ in [0:s] do t <- `(tactic| (($t:tactic); first | decide +kernel | rfl))
  ts:=ts.push (<- `(Lean.Parser.Tactic.tacticSeq| $t:tactic))
 ts:=ts.push (<- `(Lean.Parser.Tactic.tacticSeq| first | decide +kernel))
 `(tactic| repeat' first $[| $ts]*)
local macro_rules | `(tactic| ac_nf)=>do
 let g:=Lean.mkIdent `G
 `(tactic| (intro _ $g:ident; ac_rfl))
local macro_rules | `(tactic| eq_refl)=>do
 let g:=Lean.mkIdent `G
 `(tactic| (intro $g:ident; ac_rfl))
local macro_rules | `(tactic| exists $e)=>`(tactic| (refine $e; ac_rfl))
local macro_rules | `(tactic| exists $e,$g:ident)=>`(tactic| (intro X call n $g:ident; refine $e; ac_rfl))
theorem db0:DB d0 false N3:=by
 delta N3
 exists rY ?_,G
 exists D3 G (own:=["a","b","size"]) (md':=[]) ?_ ?_
 ac_nf
 ac_nf
 ac_nf
 ac_nf
theorem db1:DB d1 false Ra:=by
 exists nG ?_ ?_,G
 exists pG (oA G (own:=["make","on"]) (md':=[]) ?_)
 ac_nf
 ac_nf
 ac_nf
theorem db2:DB d2 false Q9:=by
 exists nG ?_ ?_,G
theorem db3:DB d3 false Q8:=by
 exists nG ?_ ?_,G
 exists pG (oA G (own:=["make"]) (md':=[]) ?_)
 ac_nf
 ac_nf
 ac_nf
 exists pG (oA G (own:=["passed"]) (md':=[]) ?_)
 ac_nf
 ac_nf
 ac_nf
theorem db4:DB d4 false Q7:=by
 exists nG ?_ ?_,G
 exists pG (oA G (own:=["make","size"]) (md':=[]) ?_)
 ac_nf
 ac_nf
 ac_nf
theorem db5:DB d5 false N2:=by
 delta N2
 exists rY ?_,G
 exists pG (oA G (own:=["make"]) (md':=[]) ?_)
 ac_nf
 ac_nf
 ac_nf
theorem db6:DB d6 false N1:=by
 delta N1
 exists rY ?_,G
theorem db7:DB d7 false Q6:=by
 exists nG ?_ ?_,G
theorem db8:DB d8 false Q5:=by
 exists nG ?_ ?_,G
 exists pG (oA G (own:=["first"]) (md':=[]) ?_)
 ac_nf
 ac_nf
 ac_nf
theorem db9:DB d9 false N0:=by
 delta N0
 exists rY ?_,G
 exists pG (oA G (own:=["first"]) (md':=[]) ?_)
 ac_nf
 ac_nf
 ac_nf
theorem QD:DB Q4 false J5:=by
 exists nG ?_ ?_,G
theorem QC:DB Q3 false J0:=by
 exists nG ?_ ?_,G
 exists pM G (md':=[.imm,.imm,.imm,.own,.imm,.own]) ?_ ?_ ?_ ?_
 eq_refl
 exists pM G (md':=[.imm,.imm,.imm,.own,.imm,.own]) ?_ ?_ ?_ ?_
 eq_refl
theorem QB:DB QZ false JZ:=by
 exists nG ?_ ?_,G
 exists pM G (md':=[]) ?_ ?_ ?_ ?_
 eq_refl
theorem QA:DB QY false JY:=by
 exists nG ?_ ?_,G
 exists B4 G (own:=["first","end"]) (md':=[]) ?_ ?_
 ac_nf
 ac_nf
 ac_nf
 ac_nf
 ac_nf
 ac_nf
theorem Qz:DB QX true JX:=by
 exists nG ?_ ?_,G
 exists pM G (md':=[.imm,.own]) ?_ ?_ ?_ ?_
 eq_refl
theorem Qy:DB QW false GD:=by
 delta GD
 exists rY ?_,G
theorem Qx:DB QV false GC:=by
 delta GC
 exists rY ?_,G
 exists pG (oA G (own:=["number","kept"]) (md':=[]) ?_)
 ac_nf
 ac_nf
 ac_nf
theorem Qw:DB QU false JW:=by
 exists nG ?_ ?_,G
 exists pM G (md':=[]) ?_ ?_ ?_ ?_
 eq_refl
 exists rC G (own:=["takes","number","kept"]) (md':=[]) ?_ ?_ ?_
 ac_nf
 ac_nf
 ac_nf
theorem Qv:DB QT true JV:=by
 exists nG ?_ ?_,G
 exists pM G (md':=[.imm,.imm,.imm,.imm,.own]) ?_ ?_ ?_ ?_
 eq_refl
theorem Qu:DB QS false JU:=by
 exists nG ?_ ?_,G
theorem Qt:DB QR true JT:=by
 exists nG ?_ ?_,G
theorem Qs:DB QQ false GB:=by
 exists nG ?_ ?_,G
theorem Qr:DB QP false JS:=by
 exists nG ?_ ?_,G
theorem Qq:DB QO false JR:=by
 exists nG ?_ ?_,G
 exists pG (oA G (own:=["_law_k"]) (md':=[.own]) ?_)
 ac_nf
 ac_nf
 ac_nf
 exists pG (oA G (own:=["_law_k"]) (md':=[.own]) ?_)
 ac_nf
 ac_nf
 ac_nf
theorem Qp:DB QN false GA:=by
 delta GA
 exists rY ?_,G
theorem Qo:DB QM false JQ:=by
 exists nG ?_ ?_,G
theorem Qn:DB QL true JP:=by
 exists nG ?_ ?_,G
 exists rC G (own:=["_law_end"]) (md':=[]) ?_ ?_ ?_
 ac_nf
 ac_nf
 ac_nf
 exists oA G (own:=["_law_end"]) (md':=[]) ?_
 ac_nf
 ac_nf
 ac_nf
theorem Qm:DB QK false JO:=by
 exists nG ?_ ?_,G
 exists pM G (md':=[.imm,.imm,.imm,.own,.imm,.imm,.own]) ?_ ?_ ?_ ?_
 eq_refl
 exists rC G (own:=["_law_end"]) (md':=[.imm,.imm,.imm,.own,.imm,.imm,.own]) ?_ ?_ ?_
 ac_nf
 ac_nf
 ac_nf
 exists rC G (own:=["_law_end"]) (md':=[.imm,.imm,.imm,.own,.imm,.imm,.own]) ?_ ?_ ?_
 ac_nf
 ac_nf
 ac_nf
theorem Ql:DB QJ false JN:=by
 exists nG ?_ ?_,G
 exists rC G (own:=["_law_k"]) (md':=[.own]) ?_ ?_ ?_
 ac_nf
 ac_nf
 ac_nf
theorem Qk:DB QI true JM:=by
 exists nG ?_ ?_,G
 exists pM G (md':=[.imm,.imm,.imm,.imm,.own]) ?_ ?_ ?_ ?_
 eq_refl
 exists pM G (md':=[.imm,.imm,.imm,.imm,.own]) ?_ ?_ ?_ ?_
 eq_refl
theorem Qj:DB QG false JL:=by
 exists nG ?_ ?_,G
 exists pM G (md':=[.imm,.imm,.imm,.own]) ?_ ?_ ?_ ?_
 eq_refl
 exists pG (oA G (own:=["_law_end"]) (md':=[.imm,.imm,.imm,.own]) ?_)
 ac_nf
 ac_nf
 ac_nf
theorem Qi:DB QF false JK:=by
 exists nG ?_ ?_,G
 exists pG (oA G (own:=["_law_size_here"]) (md':=[.own]) ?_)
 ac_nf
 ac_nf
 ac_nf
 exists pG (oA G (own:=["_law_make"]) (md':=[.own]) ?_)
 ac_nf
 ac_nf
 ac_nf
 exists pG (oA G (own:=["_law_make"]) (md':=[.own]) ?_)
 ac_nf
 ac_nf
 ac_nf
theorem Qh:DB NZ false vC:=by
 exists nG ?_ ?_,G
theorem Qg:DB QE false JJ:=by
 exists nG ?_ ?_,G
theorem Mj:DB d34 false JI:=by
 exists nG ?_ ?_,G
 exists pM G (md':=[.imm,.own,.imm,.own,.imm,.imm,.imm,.imm,.imm,.imm,.imm,.imm,.own]) ?_ ?_ ?_ ?_
 eq_refl
 exists rC G (own:=["_law_world"]) (md':=[.imm,.own,.imm,.frz,.imm,.imm,.imm,.imm,.imm,.imm,.imm,.imm,.own]) ?_ ?_ ?_
 ac_nf
 ac_nf
 ac_nf
 exists pG (oA G (own:=["_law_which"]) (md':=[.imm,.own,.imm,.frz,.imm,.imm,.imm,.imm,.imm,.imm,.imm,.imm,.own]) ?_)
 ac_nf
 ac_nf
 ac_nf
 exists pG (oA G (own:=["_law_world","_law_told_here"]) (md':=[.imm,.own,.imm,.frz,.imm,.imm,.imm,.imm,.imm,.imm,.imm,.imm,.own]) ?_)
 ac_nf
 ac_nf
 ac_nf
 exists pM G (md':=[.imm,.own,.imm,.own,.imm,.imm,.imm,.imm,.imm,.imm,.imm,.imm,.own]) ?_ ?_ ?_ ?_
 eq_refl
 exists II G (md':=[.imm,.own,.imm,.own]) ?_ ?_
 eq_refl
theorem Qf:DB d35 true JH:=by
 exists nG ?_ ?_,G
def rc (d:Df):mJ:=⟨ke d.name,rE d.st,oT d.st,nV d.st,Jw d.st⟩
def recs:List mJ:=[rc d0,rc d1,rc d2,rc d3,rc d4,rc d5,rc d6,rc d7,rc d8,rc d9,rc Q4,rc Q3,rc QZ,rc QY,rc QX,rc QW,rc QV,rc QU,rc QT,rc QS,rc QR,rc QQ,rc QP,rc QO,rc QN,rc QM,rc QL,rc QK,rc QJ,rc QI,rc QG,rc QF,rc NZ,rc QE,rc d34]
theorem recs_eq:recs=recsOf view:=by kernel_rfl!
def PD (K:mZ)(mg:Str->Option mM) (i:Nat)(x:Str):Prop:=∃ df fd fa fdd,tb[i]?=some fd/\Df.ok df fd.np fd.ns fd.io=true/\(∀ X call n,Good X (df.cc fns) n (Hr tb call)->wA X (df.cc fns) fd.fr (oT df.st) (fd.body call))/\Fun K (ke df.name) (ke df.name) df.st fa fdd/\mg x=some (.ref fa)/\Binds K fdd df.ps []
local macro_rules | `(tactic| exists $d,$b,$j,$u)=>`(tactic| (refine And.intro (have ⟨fa,fd,m,F⟩:=DIn.fn (by assumption) ((by assumption:∀ d∈recs,DIn _ _ d) (rc $d) (cK (i:=$j) rfl)); ⟨$d,_,fa,fd,rfl,by decide +kernel,$b,F,m,F.binds fun _ _ _ _ _ _ us hl=>$u (P:=fun us=>bindArgs _ ⟨us,[]⟩=pure (List.zip _ us)) hl (by intros; first | kernel_rfl! | rfl)⟩) ?_))
theorem Me {K:mZ}{h:mY}{mg:Str->Option mM}(A:AllIn K h)(D:∀ d∈recs,DIn K mg d):EachI (PD K mg) 0 fns.f:=by
 exists d0,db0,0,Kv
 exists d1,db1,1,ud
 exists d2,db2,2,ud
 exists d3,db3,3,ud
 exists d4,db4,4,Kv
 exists d5,db5,5,ud
 exists d6,db6,6,ud
 exists d7,db7,7,GO
 exists d8,db8,8,ud
 exists d9,db9,9,ud
 exists Q4,QD,10,GO
 exists Q3,QC,11,ud
 exists QZ,QB,12,ud
 exists QY,QA,13,ud
 exists QX,Qz,14,Kv
 exists QW,Qy,15,GO
 exists QV,Qx,16,GO
 exists QU,Qw,17,GO
 exists QT,Qv,18,Og
 exists QS,Qu,19,ud
 exists QR,Qt,20,ud
 exists QQ,Qs,21,ud
 exists QP,Qr,22,ud
 exists QO,Qq,23,ud
 exists QN,Qp,24,GO
 exists QM,Qo,25,Og
 exists QL,Qn,26,Og
 exists QK,Qm,27,ud
 exists QJ,Ql,28,ud
 exists QI,Qk,29,GO
 exists QG,Qj,30,ud
 exists QF,Qi,31,ud
 exists NZ,Qh,32,ud
 exists QE,Qg,33,ud
 exists d34,Mj,34,Kv
 exists d35,Qf,32,ud
 trivial
theorem law_fn (w:mL)(K:mZ)(mg:Str->Option mM)(fa:m4)(h:mY)(A:AllIn K h)(D:∀ d∈recs,DIn K mg d)(blt:∀ b∈bltNames,mg (ke b)=none)(hm:mg (ke "law")=some (.ref fa)) :
  ∃ fd:mh,(∀ (s:mD)(u:mM),mz s fd ⟨[u],[]⟩ [(ke "_law_script",u)])/\∀ base:mY,FnOk aa w K mg base Ew 14 fa fd [ke "_law_script"] (spT K tb (callW tb 14) 34):=by
 let(fa2,fd,m,F):=DIn.fn A (D (rc d34) (cK (i:=34) rfl))
 have e:=hm.symm.trans m
 cases e
 have E:∀ (f:Nat)(x:Str),fns.f[f]?=some x->PD K mg f x:=λf x hx=>by
  have:=EachI.get (Me A D) f x hx
  rwa [kn] at this
 have EM:∀ (k:Nat)(c:Str)(Ca:m4)(m:Str),fns.ms[k]?=some (c,Ca,m)->∃ df fd fa fdd nm qu,tb[fns.f.length+k]?=some fd/\Df.ok df fd.np fd.ns fd.io=true/\(∀ X call n,Good X (df.cc fns) n (Hr tb call)->wA X (df.cc fns) fd.fr (oT df.st) (fd.body call))/\Fun K nm qu df.st fa fdd/\mg c=some (.ref Ca)/\Cls K Ca/\(m=("__init__":Str)->Mk K Ca fa)/\(m≠("__init__":Str)->Meth K Ca m fa)/\Binds K fdd df.ps []:=λk c Ca m hx=>by cases hx
 have FL:∀ p∈fns.fl,Cls K p.1/\xE K p.1 p.2:=λp hp=>by cases hp
 refine⟨fd,?_,λbase=>?_⟩
 ·let(oc,od,kV,doc,pm,an,cdv,ct,osl,rfl,lk,hcd):=F.ex
  exact λs v=>.of_eq rfl
 ·let(R1,R2):=Bj (P:=aa) (w:=w) (base:=base) blt FL E EM 13
  exact xj (df:=d34) F rfl (by nofun) Mj R1 blt R2 FL
end Kq
set_option maxHeartbeats 0
section
open PySem PySem.W PyProof.Rows





theorem Kq.hdef : defOf Kq.view PySem.Challenge.rw_keepwhole_k39_rows_by_turns.name = some (Kq.rc Kq.d34, []) := by kernel_rfl!
theorem Kq.hp : PySem.Challenge.rw_keepwhole_k39_rows_by_turns.prog.theDef PySem.Challenge.rw_keepwhole_k39_rows_by_turns.name = some ((Kq.rc Kq.d34).params, (Kq.rc Kq.d34).body, (Kq.rc Kq.d34).scope) := by kernel_rfl!
theorem Kq.okq : (chainsOk Kq.view && opensWell PySem.Challenge.rw_keepwhole_k39_rows_by_turns.prog && (frees PySem.Challenge.rw_keepwhole_k39_rows_by_turns.row.toRowW && PySem.Challenge.rw_keepwhole_k39_rows_by_turns.row.within.isEmpty)) = true := by nofun
theorem Kq.prom : PySem.Challenge.rw_keepwhole_k39_rows_by_turns.row.toRowW.promised := ⟨[.list []], by nofun, by nofun⟩
theorem PySem.Challenge.cw_keepwhole_k39_rows_by_turns_holds : PySem.Challenge.rw_keepwhole_k39_rows_by_turns.Holds :=
  Kq.row_holds Kq.said Kq.left Kq.hdef Kq.hp rfl rfl Kq.okq ⟨rfl, rfl, rfl, rfl, rfl, by nofun⟩ Kq.prom (Kq.walk2 (n := 63) (k := 14) (ds := Kq.recs) (x := Str.ofString "_law_script") (sp := fun K => Kq.spT K Kq.tb (Kq.callW Kq.tb 14) 34) rfl (by decide) rfl ⟨rfl, by decide, by decide, rfl⟩ Kq.recs_eq Kq.freeAll Kq.law_fn fun _ _ a ns hl hO hS => Kq.law_sp rfl rfl rfl hO hS (Kq.law_val ns))
end
