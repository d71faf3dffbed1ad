import PyProof.Rows.All
import Wide.All
import OpenK.AllK
import Wide.FinOn
import Lean
import PyProof.EqAt
import PyProof.EqKinds
import PyProof.TupleCall
import PyProof.DictCompW
import PyProof.Rows.Range3
import KE.KRevIter
import PyProof.AutoRange
import PyProof.FactsAll.range_2
import PyProof.Rows.CallKwBuiltin
import PyProof.ListRange
import PyProof.TupleOfGen
import PyProof.P3Eq
import PyProof.Rows.RowHeap
import PyProof.CollectIter
import PyProof.WalksMore
import PyProof.AutoSeq1
import KE.KListMore
import PyProof.AttrMissHeap
import KE.KDictOf
import KE.KSortTup
import PyProof.Rows.SortWalk
import PyProof.SumWalkG
import PyProof.DictWalks
import KE.KDictSum
import PyProof.SetKind
import PyProof.SetRoads
import PyProof.Rows.SetFrom
import PyProof.TupleKey
import KE.KTryMore
import PyProof.ExcArgs
import PyProof.ExcBaseAll.ValueError
import OpenK.KOwn
import PySem.Challenge.RW_keepwhole_k17_least_room_shown
set_option compiler.extract_closed false
set_option genSizeOf false
set_option genInjectivity false
local macro_rules | `(⋯) => `(by lia)
open PySem.Challenge renaming pw_keepwhole_k17_least_room_shown->aa
open PySem.Builtin.SmallTypes renaming ownedTupleHandOut->ac,ownedTupleIsFree->ae,nextOf->aY
open List renaming take_succ_eq_append_getElem->af,take_append_of_le_length->ak,eq_nil_of_length_eq_zero->al,idxOf_lt_length_of_mem->ax,perm_append_singleton->aD,getElem?_append_right->aE,getD_eq_getElem?_getD->aF,pairwise_iff_getElem->aO,mem_of_find?_eq_some->aP,getElem?_zip_eq_some->aQ,getElem?_eq_some_iff->aR,getElem?_eq_none_iff->aS,getElem?_append_left->aT,extract_eq_take_drop->aU,exists_mem_of_ne_nil->aV,drop_eq_getElem_cons->aW,getElem?_take_of_lt->bn,getElem?_eq_getElem->bo,pairwise_filterMap->bz,getElem?_replicate->bA,eraseIdx_cons_succ->bB,take_of_length_le->bM,pairwise_lt_range->bN,getElem?_set_self->bO,drop_of_length_le->bP,take_eq_take_iff->ca,take_append_drop->cb,singleton_append->cg,perm_append_comm->cj,mem_iff_getElem?->ck,mem_append_right->cm,length_singleton->cn,length_replicate->cp,length_filter_le->cq,getElem?_zipWith->cr,dropLast_eq_take->cu,pairwise_append->cE,mem_of_mem_take->cF,mem_of_mem_drop->cG,mem_of_getElem?->cH,mem_iff_getElem->cI,mem_cons_of_mem->cJ,mem_append_left->cK,getElem?_set_ne->cL,drop_eq_nil_iff->cM,zip_eq_zipWith->cY,replicate_succ->cZ,mem_map_of_mem->c5,map_eq_nil_iff->c7,map_congr_left->c8,getElem?_range->c9,filterMap_cons->da,eraseDups_cons->db,zip_cons_cons->dI,pairwise_cons->dJ,mem_singleton->dL,mem_filterMap->dN,mem_cons_self->dO,length_append->dP,getElem?_take->dQ,getElem?_drop->dR,find?_eq_none->dS,filter_append->dU,append_of_mem->dW,take_sublist->fj,size_toArray->fk,reverse_perm->fm,pairwise_map->fo,nodup_append->fq,length_range->ft,idxOf_append->fu,getElem?_set->fv,getElem?_map->fw,flatten_cons->fx,drop_sublist->fy,countP_congr->fC,append_assoc->fE,zipIdx_cons->gp,take_length->gr,perm_middle->gt,not_mem_nil->gu,nodup_range->gv,lookup_cons->gy,length_take->gz,length_drop->gB,length_cons->gC,getElem_mem->gD,getElem_inj->gE,filter_cons->gF,ext_getElem->gG,drop_append->gH,cons_append->gI,any_eq_true->gJ,all_eq_true->gK,zip_append->iw,zipIdx_nil->iy,sum_append->iz,range_succ->iA,of_mem_zip->iB,nodup_cons->iC,nil_append->iD,mem_filter->iE,mem_append->iF,map_append->iG,length_zip->iH,length_set->iI,length_nil->iJ,length_map->iK,forIn_cons->iL,foldl_cons->iM,find?_some->iN,find?_cons->iO,append_nil->iQ,tail_drop->jr,replicate->jt,nodup_nil->ju,mem_range->jv,forIn_nil->jw,filterMap->jx,drop_zero->jy,drop_drop->jz,take_nil->kc,take_add->ke,sum_cons->kh,set_comm->ki,mem_cons->kj,map_take->kl,map_drop->km,map_cons->kn,drop_nil->kq,any_cons->kr,zipWith->k5,mem_map->k6,map_set->k7,map_nil->k8,map_map->k9,length->lK,range->mm,foldl->mn,Nodup->mq,tail->mB,getD->mC,map->mU
open PyProof.Rows renaming slot_tuple_getitem->ag,callWith_type1->aw,subscriptTail_builtinR->bF,entry_tuple_getitem->cU,lt_int->cW,assignInOrder_cons->dz,args_tuple_getitem->dA,unpackItems_tuple->eQ,assignInOrder_nil->eS,get?_update_seq->ia,slicePart_none->jb,pairsOf_toList->jc,tupleItemsOf_->jL,listUpdate_at->jO,Constant_none->kA,wpS_forRange->kG,wpS_modify->lN,Subscript_->lX,wpS_pure->mG,wpS_mono->mH,wpS_lift->mI,wpS_bind->mJ,elem'_eq->mK,SortKind->mM,wpS_get->mW,IntsAre->m5,AllBare->m9,SortSt->nc,Keyed->nH,IsTup->nJ
open PySem.F renaming args_dict_keyiterator_next_1->ah,entry_dict_keyiterator_next->am,slot_dict_keyiterator_next->ap,args_tuple_iterator_next_1->aq,entry_tuple_iterator_next->ay,slot_NoneType_hash->aB,slot_tuple_iterator_next->aG,args_tuple_add_2->bj,slot_list_getattribute->bp,plainAttrs_list->bw,entry_tuple_add->bx,args_enumerate_next_1->bC,slot_tuple_add->bJ,entry_enumerate_next->bT,slot_enumerate_next->cx,plain_list_iadd->fJ,entry_list_iadd->fK,args_zip_next_1->fL,slot_list_iadd->gL,slot_dict_iter->gM,plain_min_loop->gN,entry_zip_next->gO,entry_min_loop->gP,slot_zip_next->iT,slot_int_rmul->iU
open PySem renaming wpAny_typeNameOfWhole_keyiter->aj,wpAny_typeNameOf_keyiter->bh,wpAny_comprehension_free->bi,wpAny_callSpecial?_slot->bv,wpAny_notOrdered_dict->bV,wpAny_isTrue_Compare1->bW,wpAny_isOneOf_keyiter->bX,wpAny_eqIsQuiet_tuple->bY,ofString_length->bZ,wpAny_updateSeq_pair->cB,wpAny_loadName_local->cC,wpAny_loadName_cell->cT,mem_of_lookup->cV,wpAny_setField_rec->dq,wpAny_pyIter_tuple->dr,wpAny_dictSet_heap->du,wpAny_Call_Name_kw->dv,tupleKind_room_in1->dw,wpAny_truthy_bool->eD,wpAny_storeSet_of->eF,wpAny_setState_of->eG,wpAny_sequenceKey->eI,wpAny_pyIter_list->eJ,wpAny_pyIter_enum->eK,wpAny_newObj_type->eM,wpAny_dictEntries->eO,wpAny_assign_Name->eP,slot_list_getitem->eR,wpAny_pyIter_zip->fQ,wpAny_isInstance->fR,wpAny_forIn_list->fS,wpAny_execs_cons->fT,wpAny_eqBool_int->fU,wpAny_call_entry->fV,wpAny_askSetting->fW,noFill_tuple_add->fX,wpAny_updateSeq->gU,wpAny_specialOf->gV,wpAny_passesOwn->gX,wpAny_loadPart'->gY,wpAny_execs_nil->gZ,wpAny_dictEpoch->hX,pushCells_keeps->hZ,exec_Assign_arm->ib,codeAny_builtin->ic,wpAny_tryCatch->iZ,wpAny_setField->i5,wpAny_seqItems->i6,wpAny_newTuple->i7,wpAny_fieldsOf->i8,wpAny_bindName->i9,wpAny_Compare1->ja,isSubtype_stop->jd,wpAny_standAt->jF,wpAny_onRaise->jG,wpAny_newList->jH,wpAny_holding->jI,wpAny_handled->jJ,wpAny_attempt->jK,seq_tuple_add->jM,plainId_quiet->jN,intBits_le_64->jP,evalPart_none->jQ,call_sum_walk->jR,call_list_seq->jS,Comprehension->kB,wpAny_typeOf->kH,seqIndex_neg->kI,concat_meets->kJ,codeAny_mono->kK,Within->kN,wpAny_of_eq->lq,wpAny_letGo->lu,wpAny_field->lw,sizeLine_eq->lA,seqIndex_of->lC,wpAny_rule->lO,wpAny_pure->lP,wpAny_mono->lQ,wpAny_bind->lR,wpAny_Name->lT,typeIs_int->lU,call_meets->lV,call->lZ,putSet_of->mz,IsEnumOut->mE,DictEntry->mF,ZipApart->mL,SetTable->mN,Operator->mR,NameKind->mT,FuncData->mV,Program->mX,Builtin->m7,BindsTo->m8,Shared->nh,Result->nj,Paired->nq,IsPart->nr,IsPair->nu,IsEnum->nv,DefRec->nA,Around->nB,World->nC,Value->nE,Scope->nF,Model->nG,IsZip->nI,CmpOp->nK,Stmt->nL,Heap->nM,Code->nO,Addr->nP
open PySem.Builtin.Dict_items renaming ownsTuple->au
open Array renaming getElem?_setIfInBounds->av,getD_eq_getD_getElem?->aA,perm_iff_toList_perm->aM,getElem?_eq_some_iff->aN,getElem?_eq_getElem->bg,mem_of_getElem?->cz,getElem?_toList->cA,toList_reverse->cO,toList_extract->cP,mem_toList_iff->cQ,getElem_toList->cR,toList_append->dj,length_toList->dk,size_extract->eA,forIn_toList->eB,toList_push->fP,toList_map->gS,replicate->iX,size_map->jE,toList->lj
open PySem.Builtin.Builtins renaming bindParams->az
open PySem.Around renaming under_plainId->aC,under_plainId->cS
open PySem.Calls renaming Name_function_global->aH,callWith_builtin->bU
open PySem.Builtin.Tuple renaming tupleItemsOf->aI,tupleIsExact->aJ,tupleExact->bq
open PySem.Builtin.Slice renaming sliceApplied->aK,slicePlaces->aZ,sliceAdjust->bc
open PySem.Builtin.List renaming listFitsIndex->aL,listTooLong->br
open Classical renaming byContradiction->aX,propDecidable->bD,not_not->fM
open Option renaming isSome_iff_exists->bm,map_eq_some_iff->bK,isSome_some->dD,isSome_map->fe,getD_some->ga,getD_none->gb,bind_some->gc
open Bool renaming eq_false_or_eq_true->bu,and_eq_true_iff->cN,false_ne_true->dY,false_eq_true->dZ,not_eq_true'->fN,eq_false_iff->fO,noConfusion->gQ,and_eq_true->gR,or_eq_true->iV,eq_iff_iff->iW,not_false->jB,and_false->jC,and_assoc->jD,not_true->kC,and_true->kD,and_self->kF
open PySem.Builtin.Dict renaming updateFrom->bE,showsAll->cy
open PySem.Str renaming ofString_eq_toList->bG,ofString->kL
open PySem.SetTable.layClean renaming free->bH
open PySem.W renaming cellsFrom_some->bI,methodObj->eX,kitx_list->eY,kitx_dict->eZ,plainGet->f8,kia_one->ig,instObj->ii,lookIn->jj,kitOne->jk,keepIn->jm,hashAt->jn,findIn->jo,codeIn->jp,fnOf->kO,Frag->kP,OpenLaw->mY,Frag->nN
open Nat renaming lt_of_succ_lt_succ->bL,mul_le_mul_right->cD,sub_add_cancel->dG,lt_of_lt_of_le->dH,lt_succ_of_lt->fg,le_of_succ_le->fh,succ_ne_zero->ge,succ_le_succ->gf,min_eq_right->gh,lt_succ_self->gk,le_add_right->gn,not_lt_zero->iq,min_eq_left->ir,le_antisymm->iu,mul_le_mul->jq,lt_irrefl->j9,add_assoc->ka,zero_add->kR,succ_pos->kS,succ_mul->kT,ne_of_lt->kU,ne_of_gt->kW,le_trans->kX,le_of_lt->kY,le_of_eq->kZ,zero_le->lH,le_succ->lI,le_refl->lJ,not_lt->mf,not_le->mh,mod_lt->ml
open List.Perm renaming append_right->bQ,append_left->cv
open PySem.Heap renaming get?_update_other->bR,get?_push_of_some->bS,get?_update_self->cw,get?_push_size->dc,get?_push_ne->fH,size_push->jA,lt_size->lg,SameBut->lh,ExtBut->lM
open PySem.Obj renaming isFreed_of_fields->b9,data_mapFields->dE,cls_mapFields->ff,mapFields->j8,putSet->l0,mapSeq->ma
open PySem.PyData renaming intsShortAll->cX,showableAll->dC,hasDictAll->fb,canLayAll0->fc,weightAll->f9,depthAll->ik,weight->j6,depth->kQ
open PySem.Heap.SameBut renaming update->dh
open PySem.SetTable renaming sizeAbove->dB,layClean->eU,insertAt->eV,tooFull->fZ,advance->f7,runEnd->ie,turns->je,probe->jf,grown->jg,below->jh,Probe->ji,slot->jV,leap->jW,laid->jX,fits->jY,fill->jZ,bits->j5,has->kM
open Int renaming emod_lt_of_pos->dX,toNat_natCast->fG,natCast_add->iR,emod_nonneg->iS,le_refl->lL
open PySem.SetTable.probe renaming go->eT
open PySem.SetTable.below renaming go->eW
open List.Sublist renaming refl->fF
open Function renaming comp_def->fI,comp->ku
open Std.Legacy renaming Range->fY
open PySem.PassesOwn renaming never->il
open Option.some renaming inj->ip
open List.cons renaming injEq->iP
open Array.Perm renaming refl->iY
open PySem.Value renaming isStrOf->jT,isInt->lE
open PySem.Shared renaming TypeIs->jU,heap->lG
open PySem.Paired renaming length->j7
open PySem.Env renaming blockKind->kw
open Sum.inl renaming inj->lF
open PySem.Walks renaming list->lW
open PyProof.Rows.SortSt renaming mk'->lY
open False renaming elim->mw
open Char renaming toNat->mx
open PyProof.Rows.IsTup renaming new->mD
open Prod renaming snd->mO,fst->mP,ext->mQ
open Ne renaming symm->mZ
open Iff renaming rfl->m6
namespace L2
end L2
local macro_rules | `(tactic| nofun) => `(tactic| decide +kernel)
open Option renaming some->Ψ,none->Φ
open Bool renaming true->Ω,false->Ξ
open Decidable renaming decide->Δ
local macro_rules | `(tactic| let $p:term := $e:term) => do
 let rec f:Nat->Lean.Term->Lean.MacroM (Lean.TSyntax `rcasesPat)
  | 0,_=>Lean.Macro.throwUnsupported
  | n+1,t=>do match t with
   | `(⟨$ts,*⟩)=>
    let ps <- ts.getElems.mapM fun x=>do
     let y <- f n x
     `(Lean.Parser.Tactic.rcasesPatLo| $y:rcasesPat)
    `(rcasesPat| ⟨$ps,*⟩)
   | `(($a,$ts,*))=>
    let ps <- (#[a]++ts.getElems).mapM fun x=>do
     let y <- f n x
     `(Lean.Parser.Tactic.rcasesPatLo| $y:rcasesPat)
    `(rcasesPat| ⟨$ps,*⟩)
   | `($i:ident)=>`(rcasesPat| $i:ident)
   | `(_)=>`(rcasesPat| _)
   | _=>Lean.Macro.throwUnsupported
 match p with
 | `(⟨$_,*⟩)|`(($_,$_,*))=>
  let q <- f 20 p
  `(tactic| obtain $q:rcasesPat := $e)
 | _=>Lean.Macro.throwUnsupported
local macro_rules | `(tactic| exact $e) => if (e.raw.find? (·.isOfKind ``Lean.Parser.Term.syntheticHole)).isSome then `(tactic| refine $e) else Lean.Macro.throwUnsupported
local macro_rules | `(tactic| simp! [$ls,*] $[$l:location]?) => `(tactic| simp only [$ls,*] $[$l:location]?)
local macro_rules
 | `(tactic| let $i:ident := $e) => if i.getId==`W then Lean.Macro.throwUnsupported else `(tactic| have $i:ident := $e)
 | `(tactic| let $i:ident : $t := $e) => if i.getId==`W then Lean.Macro.throwUnsupported else `(tactic| have $i:ident : $t := $e)
local macro_rules | `(∅) => `(by simp)
local macro_rules | `((·)) => `(by decide)
local macro_rules | `(command| $m:declModifiers abbrev $i:declId $s:optDeclSig $v:declVal) => if m.raw.getArgs.all (·.getNumArgs == 0) then `(command| noncomputable def $i:declId $s:optDeclSig $v:declVal) else Lean.Macro.throwUnsupported
local macro_rules | `(command| $m:declModifiers def $i:declId $s:optDeclSig $v:declVal) => if s.raw[1].getNumArgs == 1 then
  let d:Lean.TSyntax ``Lean.Parser.Command.declSig:=⟨.node .none ``Lean.Parser.Command.declSig #[s.raw[0],s.raw[1][0]]⟩
  if m.raw.getArgs.all (·.getNumArgs == 0) then `(command| theorem $i:declId $d:declSig $v:declVal) else if (m.raw.find? (·.isToken "nonrec")).isSome then `(command| @[scoped simp ↓] theorem $i:declId $d:declSig $v:declVal) else Lean.Macro.throwUnsupported else Lean.Macro.throwUnsupported
set_option Elab.async false
set_option linter.all false
set_option maxRecDepth 100000
set_option maxHeartbeats 4000000
namespace Kq
open PySem PySem.Spec PyProof.Rows L2
abbrev bltNames:List String:=["len","abs","int","sum","all","any","min","max","tuple","list","isinstance","range","zip","bool","str","enumerate","reversed","sorted","dict","set"]
end Kq
namespace Kq
open PySem PySem.Spec PySem.Calls PyProof.Rows L2 PySem.W
abbrev Jy:nL->Pos
 | .FunctionDef _ _ _ _ _ _ _ _ _ p=>p
 | _=>⟨0,0,0,0⟩
abbrev LX:nL->Bool
 | .FunctionDef ..=>Ω
 | _=>Ξ
abbrev GW (p:mX):mX:={ p with main:={ p.main with body:=p.main.body.filter LX } }
abbrev freeIn (q:mX)(loose:List Str)(x:Str):Bool:=!startupNames.contains x && !loose.contains x && !((recsOf q).map (·.name)).contains x && !((litsOf q).map (·.1)).contains x && !((clssOf q loose).map (·.name)).contains x
end Kq
namespace Kq
open PySem PySem.Spec PyProof.Rows L2 PySem.W
abbrev view:mX:=GW aa
end Kq
set_option maxHeartbeats 0
section
open PySem PySem.W PyProof.Rows
def Kq.said:PySem.Challenge.rw_keepwhole_k17_least_room_shown.wellSaid=Ω:=by nofun
def Kq.left:LeftO PySem.Challenge.rw_keepwhole_k17_least_room_shown.prog Kq.view [] (λs=>xlAt Kq.view [] s && recOk (RowW.records PySem.Challenge.rw_keepwhole_k17_least_room_shown.row.toRowW) s) (λ_=>()) (λ_=>()) 3000:=by
  intro w
  kernel_rfl!
def Kq.freeAll:(Kq.bltNames.all λb=>Kq.freeIn Kq.view (looseW Kq.view []) (kL b))=Ω:=by nofun
end
namespace L2
open PySem PySem.Spec PyProof.Rows
noncomputable abbrev pW:=Sum Int (Option Str)
abbrev we:pW->nE->Bool
 | .inl k,v=>lE k v
 | .inr (Ψ x),v=>jT x v
 | .inr Φ,v=>match v with
  | .none=>Ω
  | _=>Ξ
abbrev keyH (w:nC):pW->Int
 | .inl k=>hashInt k
 | .inr (Ψ x)=>hashStr w x
 | .inr Φ=>4238894112
def B1 {prog:mX}{w:nC}{A:nB}{E:nE->nh->Prop}{s:nh}{Q:Int->nh->Prop}(h:Q 4238894112 { s with toks:=s.toks+1 }):wpAny (model prog w) A (pyHash .none) Q E s:=by
 let hT:s.TypeIs .none "NoneType":=rfl
 show wpAny _ _ (pyHashByItsType .none) Q E s
 unfold pyHashByItsType
 let hv:[Value.none].any Value.onHeap=Ξ:=rfl
 exact lR ?_
 rw[cRoomFor,if_neg (by rw[hv];exact dY)];exact lP ?_
 exact lR (gV hT aB.lookup ?_)
 show wpAny _ _ (if (Ψ (Value.builtin "NoneType.__hash__") == Ψ Value.none)=Ω then _ else _) Q E s
 rw[if_neg (·)]
 exact lR (gV hT aB.lookup ?_)
 show wpAny _ _ (callSpecialIfBoundUnlessNone? .none "__hash__" _ >>= _) Q E s
 exact lR (wpAny_callSpecialIfBoundUnlessNone?_slot hT aB
  (fV aB hT PySem.F.entry_NoneType_hash
   (show wpAny _ _ (do ret (<- mkInt 4238894112)) _ _ s from wpAny_ret_mkInt ?_) (PySem.F.args_NoneType_hash_1 _)))
 show wpAny _ _ (if (Δ (-(2:Int) ^ 63<=4238894112) && Δ ((4238894112:Int)<2 ^ 63))=Ω then _ else _) Q E _
 rw[if_pos (·)]
 exact lP h
def pd:∀ {k:pW}{v:nE},we k v=Ω->(∃ i t,k=Sum.inl i/\v=Value.int i t) ∨ (∃ x t,k=Sum.inr (Ψ x)/\v=Value.str x t) ∨ (k=Sum.inr Φ/\v=Value.none)
 | .inl i,v,h=>by
  let(t,e):=Value.isInt_shape (k:=i) (v:=v) h
  exact .inl ⟨i,t,rfl,e⟩
 | .inr (Ψ x),v,h=>by
  let(t,e):=Value.isStrOf_shape (x:=x) (v:=v) h
  exact .inr (.inl ⟨x,t,rfl,e⟩)
 | .inr Φ,v,h=>by
  cases v with
  | none=>exact .inr (.inr ⟨rfl,rfl⟩)
  | _=>cases h
def BU (i:Int)(t:Tok):we (.inl i) (.int i t)=Ω:=by simp[we,lE]
def BS (x:Str)(t:Tok):we (.inr (Ψ x)) (.str x t)=Ω:=by simp[we,jT]
def Ix (a b:Int):Δ ((Sum.inl a:pW)=Sum.inl b)=(a == b):=by
 by_cases e:a=b
 ·subst e;simp
 ·let h:¬ (Sum.inl a:pW)=Sum.inl b:=λq=>e (lF q)
  rw[decide_eq_false h]
  exact (beq_eq_false_iff_ne.mpr e).symm
def Iw (a b:Str):Δ ((Sum.inr (Ψ a):pW)=Sum.inr (Ψ b))=Δ (a=b):=by
 by_cases e:a=b
 ·subst e;simp
 ·let h:¬ (Sum.inr (Ψ a):pW)=Sum.inr (Ψ b):=λq=>e (ip (Sum.inr.inj q))
  rw[decide_eq_false h,decide_eq_false e]
abbrev oI (prog:mX)(w:nC):PySem.KeyKind prog w pW where
 is:=we
 hash:=keyH w
 inj:=λv a b ha hb=>by
  rcases pd ha with⟨i,t,rfl,rfl⟩|⟨x,t,rfl,rfl⟩|⟨rfl,rfl⟩<;>rcases pd hb with⟨j,u,rfl,e⟩|⟨y,u,rfl,e⟩|⟨rfl,e⟩<;>first|rfl|(injection e with e1 _;rw[e1])|cases e
 byValue:=λk v h=>by
  rcases pd h with⟨i,t,rfl,rfl⟩|⟨x,t,rfl,rfl⟩|⟨rfl,rfl⟩<;>rfl
 pyHash:=λhv h=>by
  rcases pd hv with⟨i,t,rfl,rfl⟩|⟨x,t,rfl,rfl⟩|⟨rfl,rfl⟩
  ·exact wpAny_pyHash_int h
  ·exact wpAny_pyHash_str h
  ·exact B1 h
 eqBool:=λhu hv h=>by
  rcases pd hu with⟨i,t,rfl,rfl⟩|⟨x,t,rfl,rfl⟩|⟨rfl,rfl⟩
  ·rcases pd hv with⟨j,u,rfl,rfl⟩|⟨y,u,rfl,rfl⟩|⟨rfl,rfl⟩
   ·rw[Ix] at h;exact fU h
   ·rw[decide_eq_false (show ¬ (Sum.inl i:pW)=Sum.inr (Ψ y) from λq=>nomatch q)] at h;exact SeqAt.EqAt.int_str i t y u _ _ _ _ h
   ·rw[decide_eq_false (show ¬ (Sum.inl i:pW)=Sum.inr Φ from λq=>nomatch q)] at h;exact SeqAt.EqAt.int_none i t _ _ _ _ h
  ·rcases pd hv with⟨j,u,rfl,rfl⟩|⟨y,u,rfl,rfl⟩|⟨rfl,rfl⟩
   ·rw[decide_eq_false (show ¬ (Sum.inr (Ψ x):pW)=Sum.inl j from λq=>nomatch q)] at h;exact SeqAt.EqAt.str_int x t j u _ _ _ _ h
   ·rw[Iw] at h;exact wpAny_eqBool_str h
   ·rw[decide_eq_false (show ¬ (Sum.inr (Ψ x):pW)=Sum.inr Φ from λq=>nomatch q)] at h;exact SeqAt.EqAt.str_none x t _ _ _ _ h
  ·rcases pd hv with⟨j,u,rfl,rfl⟩|⟨y,u,rfl,rfl⟩|⟨rfl,rfl⟩
   ·rw[decide_eq_false (show ¬ (Sum.inr Φ:pW)=Sum.inl j from λq=>nomatch q)] at h;exact SeqAt.EqAt.none_int j u _ _ _ _ h
   ·rw[decide_eq_false (show ¬ (Sum.inr Φ:pW)=Sum.inr (Ψ y) from λq=>nomatch q)] at h;exact SeqAt.EqAt.none_str y u _ _ _ _ h
   ·rw[decide_eq_true rfl] at h;exact SeqAt.EqAt.same .none _ _ _ _ h
 «strs»:=λk x t v h=>by
  rcases pd h with⟨i,u,rfl,e⟩|⟨y,u,rfl,e⟩|⟨rfl,e⟩
  ·exact nomatch e
  ·injection e with e1 _
   subst e1
   cases v<;>rfl
  ·exact nomatch e
def yn (prog:mX)(w:nC) (i:Int)(t:Tok):(oI prog w).is (.inl i) (.int i t)=Ω:=BU i t
def w9 (prog:mX)(w:nC):(oI prog w).is (.inr Φ) .none=Ω:=rfl
def ym (prog:mX)(w:nC)(x:Str)(t:Tok):(oI prog w).is (.inr (Ψ x)) (.str x t)=Ω:=BS x t
set_option genInjectivity true in
inductive V where
 | non|bl (b:Bool)|int (i:Int)|str (x:Str)|byt (b:Array UInt8)|flt (b:UInt64)|ref (a:nP)|ty (n:String)
 deriving DecidableEq
abbrev RelV:V->nE->Prop
 | .non,u=>u=Value.none
 | .bl b,u=>u=Value.bool b
 | .int i,u=>∃ t,u=Value.int i t
 | .str x,u=>∃ t,u=Value.str x t
 | .byt b,u=>∃ t,u=Value.bytes b t
 | .flt b,u=>∃ t,u=Value.float b t
 | .ref a,u=>u=Value.ref a
 | .ty n,u=>u=Value.type n
noncomputable abbrev Vals:List V->List nE->Prop:=nq RelV
def Vals.length {xs:List V}{us:List nE}(r:Vals xs us):xs.length=us.length:=j7 r
def Vals.get:∀ {xs:List V}{us:List nE}{i:Nat}{x:V},Vals xs us->xs[i]?=Ψ x->∃ u,us[i]?=Ψ u/\RelV x u
 | _,_,_,_,.nil,e=>by simp at e
 | _,_,0,_,.cons r _,e=>by simp at e;subst e;exact⟨_,rfl,r⟩
 | _,_,i+1,x,.cons _ t,e=>by
  let(u,h1,h2):=Vals.get (i:=i) (x:=x) t (by simpa using e)
  exact⟨u,by simpa using h1,h2⟩
def Vals.set {x:V}{u:nE}(r:RelV x u):∀ {xs:List V}{us:List nE} (i:Nat),Vals xs us->Vals (xs.set i x) (us.set i u)
 | _,_,_,.nil=>.nil
 | _,_,0,.cons _ t=>.cons r t
 | _,_,i+1,.cons q t=>.cons q (Vals.set r i t)
def Vals.append:∀ {xs ys:List V}{us ws:List nE},Vals xs us->Vals ys ws->Vals (xs++ys) (us++ws):=λh s=>by
 induction h with
 | nil=>exact s
 | cons r _ ih=>exact .cons r ih
def Vals.unc {x:V}{xs:List V}{us:List nE}(h:Vals (x :: xs) us):∃ u r,us=u :: r/\RelV x u/\Vals xs r:=by
 cases h with|cons r t=>exact⟨_,_,rfl,r,t⟩
def Vals.unn {us:List nE}(h:Vals [] us):us=[]:=by cases h;rfl
def Vals.take:∀ {xs:List V}{us:List nE} (n:Nat),Vals xs us->Vals (xs.take n) (us.take n):=λn h=>by
 induction h generalizing n with
 | nil=>cases n<;>exact .nil
 | cons r _ ih=>cases n with|zero=>exact .nil|succ n=>exact .cons r (ih n)
def Vals.drop:∀ {xs:List V}{us:List nE} (n:Nat),Vals xs us->Vals (xs.drop n) (us.drop n):=λn h=>by
 induction h generalizing n with
 | nil=>cases n<;>exact .nil
 | cons r t ih=>cases n with|zero=>exact .cons r t|succ n=>exact ih n
abbrev RelO:Option V->Option nE->Prop
 | some v,Ψ u=>RelV v u
 | none,Φ=>True
 | _,_=>False
abbrev KV {κ:Type}:List (κ×V)->List (κ×nE)->Prop:=nq λ(p:κ×V)(q:κ×nE)=>p.1=q.1/\RelV p.2 q.2
abbrev kV:pW->V
 | .inl i=>.int i
 | .inr (Ψ x)=>.str x
 | .inr Φ=>.non
inductive HO where
 | lst (xs:List V)
 | tup (xs:List V)
 | dK (Z6:List (pW×V))|dT (Z6:List (List pW×V))
 | set (S:Int->Bool) (n:Nat)
 | ins (C dx:nP)(fs:List (Str×V))
 | big (C dx:nP)(fs:List (Str×V))(gs:List (nP×List V))
 | own (x:nP)
 | xd (fs:List (Str×V))
 | met (f x:nP)
 | rng (lo hi:Int)
 | frz (o:Obj)(u:HO)
 | tbl (ps:Array nE)
 | ext (φ:nM->Prop)
noncomputable abbrev Hp:=nP->Option HO
abbrev oT (H:Hp)(a:nP)(o:HO):Hp:=λb=>if b=a then Ψ o else H b
def n5 {H:Hp}{a:nP}{o:HO}:oT H a o a=Ψ o:=by unfold oT;rw[if_pos rfl]
def nZ {H:Hp}{a b:nP}{o:HO}(h:b≠a):oT H a o b=H b:=by unfold oT;rw[if_neg h]
def GL {H:Hp}{a b:nP}{o u:HO}(h:H a=Ψ o)(h':H b=Ψ u)(d:o≠u):a≠b:=by
 intro e;subst e;rw[h] at h';exact d (ip h')
def oY {H:Hp}{a b:nP}{o:HO}(h:H a=Ψ o)(h':H b=Φ):a≠b:=by
 intro e;subst e;rw[h] at h';cases h'
section
variable (P:mX)(w:nC)
abbrev ObjOk (H:Hp)(h:nM)(a:nP):HO->Prop
 | .lst xs=>xs.length<=sizeLine/\∃ (Z7:List nE) (n:Nat),Vals xs Z7/\h.get? a=Ψ { cls:=.type "list",data:=.seq Z7.toArray n }
 | .tup xs=>xs.length<=sizeLine/\∃ Z7:List nE,Vals xs Z7/\nJ h a Z7.toArray
 | .dK Z6=>Z6.length<=sizeLine/\(a == sysModules)=Ξ/\∃ vs,KV Z6 vs/\h.DictOf (oI P w) a vs
 | .dT Z6=>Z6.length<=sizeLine/\(a == sysModules)=Ξ/\∃ xs:List (List pW×nP×nE),
   nq (λ(p:List pW×V)(q:List pW×nP×nE)=>p.1=q.1/\H q.2.1=Ψ (.tup (p.1.map kV))/\RelV p.2 q.2.2) Z6 xs /\
   ∃ o es ep,h.get? a=Ψ o/\o.ExactDict/\o.data=.dict es ep/\es.toList=xs.map (entryOfKey (tupleKind (oI P w)))/\(xs.map (·.1)).Nodup
 | .set S n=>h.SetOf (intKind P w) a S n
 | .ins C dx fs=>H dx=Ψ (.own a)/\fs.length<=1000/\dx≠a/\h.get? a=Ψ (ii C dx) /\
   ∃ mA,h.Ns1 dx mA/\(∀ f,RelO (fs.lookup f) (mA f))/\kN mA (fs.map (·.1))
 | .big C dx fs gs=>H dx=Ψ (.own a)/\(∀ g∈gs,H g.1=Ψ (.own a))/\(a :: dx :: gs.map (·.1)).Nodup/\fs.length<=1000/\h.get? a=Ψ (ii C dx) /\
   (∃ mA,h.Ns1 dx mA/\(∀ f,RelO (fs.lookup f) (mA f))/\kN mA (fs.map (·.1))) /\
   ∀ g∈gs,g.2.length<=sizeLine/\∃ (Z7:List nE) (n:Nat),Vals g.2 Z7/\h.get? g.1=Ψ { cls:=.type "list",data:=.seq Z7.toArray n }
 | .own _=>∃ o,h.get? a=Ψ o
 | .xd fs=>∃ mA,h.Ns1 a mA/\∀ f,RelO (fs.lookup f) (mA f)
 | .rng lo hi=>∃ t u v,h.get? a=Ψ { cls:=.type "range",data:=.fields #[.int lo t,.int hi u,.int 1 v] }
 | .frz o u=>h.get? a=Ψ o/\ObjOk H h a u
 | .tbl ps=>h.get? a=Ψ { cls:=.none,data:=.fields ps }
 | .met f x=>h.get? a=Ψ (eX (.ref f) (.ref x))
 | .ext φ=>φ h/\(∃ o,h.get? a=Ψ o)/\∀ h1 h2:nM,φ h1->(∀ o,h1.get? a=Ψ o->h2.get? a=Ψ o)->φ h2
abbrev HOk (H:Hp)(h:nM):Prop:=∀ a o,H a=Ψ o->ObjOk P w H h a o
end
section
variable {P:mX}{w:nC}{H H':Hp}{h h':nM}{a:nP}{o:HO}
def ObjOk.lt (x:ObjOk P w H h a o):a<h.objs.size:=by
 cases o with
 | lst xs=>let(_,_,_,_,e):=x;exact lg e
 | tup xs=>let(_,_,_,p):=x;exact p.lt
 | dK Z6=>let(_,_,_,_,o,_,_,e,_):=x;exact lg e
 | dT Z6=>let(_,_,_,_,o,_,_,e,_):=x;exact lg e
 | set S n=>let(o,_,_,_,e,_):=x;exact lg e
 | ins C dx fs=>let(_,_,_,e,_):=x;exact lg e
 | big C dx fs gs=>let(_,_,_,_,e,_):=x;exact lg e
 | own y=>let(_,e):=x;exact lg e
 | xd fs=>let(_,(_,_,_,e,_),_):=x;exact lg e
 | rng lo hi=>let(_,_,_,e):=x;exact lg e
 | frz ob u=>let(e,_):=x;exact lg e
 | tbl ps=>exact lg (show h.get? a=Ψ _ from x)
 | met f y=>exact lg (show h.get? a=Ψ _ from x)
 | ext φ=>let(_,(_,e),_):=x;exact lg e
def Paired.mapP {α β:Type}{F G:α->β->Prop}:∀ {l₁:List α}{l₂:List β},nq F l₁ l₂->(∀ a b,F a b->G a b)->nq G l₁ l₂:=λh f=>by
 induction h with
 | nil=>exact .nil
 | cons r _ ih=>exact .cons (f _ _ r) ih
def ObjOk.stay (x:ObjOk P w H h a o)(k:∀ b u,(b=a ∨ H b=Ψ (.own a))->h.get? b=Ψ u->h'.get? b=Ψ u)
  (ho:∀ b,H b=Ψ (.own a)->H' b=Ψ (.own a))(ht:∀ b xs,H b=Ψ (.tup xs)->H' b=Ψ (.tup xs)):ObjOk P w H' h' a o:=by
 induction o with
 | lst xs=>let(z,Z7,n,r,e):=x;exact⟨z,Z7,n,r,k _ _ (.inl rfl) e⟩
 | tup xs=>let(z,Z7,r,ob,e,c):=x;exact⟨z,Z7,r,ob,k _ _ (.inl rfl) e,c⟩
 | dK Z6=>let(z,y,vs,r,ob,es,ep,e,c):=x;exact⟨z,y,vs,r,ob,es,ep,k _ _ (.inl rfl) e,c⟩
 | dT Z6 =>
  let(z,y,xs,r,ob,es,ep,e,c):=x
  exact⟨z,y,xs,Paired.mapP r λp q z=>⟨z.1,ht _ _ z.2.1,z.2.2⟩,ob,es,ep,k _ _ (.inl rfl) e,c⟩
 | set S n=>let(ob,es,ep,t,e,c):=x;exact⟨ob,es,ep,t,k _ _ (.inl rfl) e,c⟩
 | ins C dx fs =>
  let(d,z,ne,e,mA,(od,es,ep,e2,c),r):=x
  exact⟨ho _ d,z,ne,k _ _ (.inl rfl) e,mA,⟨od,es,ep,k _ _ (.inr d) e2,c⟩,r⟩
 | big C dx fs gs =>
  let(d,gg,nd,z,e,(mA,(od,es,ep,e2,c),r),ls):=x
  exact⟨ho _ d,λg m=>ho _ (gg g m),nd,z,k _ _ (.inl rfl) e,⟨mA,⟨od,es,ep,k _ _ (.inr d) e2,c⟩,r⟩,λg m=>let ⟨l1,Z7,n,l2,l3⟩:=ls g m;⟨l1,Z7,n,l2,k _ _ (.inr (gg g m)) l3⟩⟩
 | own y=>let(ob,e):=x;exact⟨ob,k _ _ (.inl rfl) e⟩
 | xd fs=>let(mA,(od,es,ep,e,c),r):=x;exact⟨mA,⟨od,es,ep,k _ _ (.inl rfl) e,c⟩,r⟩
 | rng lo hi=>let(t,u,v,e):=x;exact⟨t,u,v,k _ _ (.inl rfl) e⟩
 | frz ob u ih=>let(e,q):=x;exact⟨k _ _ (.inl rfl) e,ih q⟩
 | tbl ps =>
  let e:h.get? a=Ψ { cls:=.none,data:=.fields ps }:=x
  show h'.get? a=Ψ { cls:=.none,data:=.fields ps }
  exact k a _ (.inl rfl) e
 | met f y =>
  let e:h.get? a=Ψ (eX (.ref f) (.ref y)):=x
  show h'.get? a=Ψ (eX (.ref f) (.ref y))
  exact k a _ (.inl rfl) e
 | ext φ=>let(p,(o,e),st):=x;exact⟨st _ _ p λo q=>k _ _ (.inl rfl) q,⟨o,k _ _ (.inl rfl) e⟩,st⟩
def HOk.lt (x:HOk P w H h)(e:H a=Ψ o):a<h.objs.size:=(x a o e).lt
def HOk.fresh (x:HOk P w H h)(e:h.objs.size<=a):H a=Φ:=by
 cases q:H a with
 | none=>rfl
 | some u=>exact absurd (dH (x.lt q) e) (j9 _)
def HOk.kept (x:HOk P w H h)(k:∀ b u,h.get? b=Ψ u->h'.get? b=Ψ u):HOk P w H h':=λa o e =>
 (x a o e).stay (λb u _ q=>k b u q) (λ_ q=>q) λ_ _ q=>q
def HOk.laid (x:HOk P w H h)(k:∀ b u,h.get? b=Ψ u->h'.get? b=Ψ u)(hp:h.objs.size<=a)(new:ObjOk P w (oT H a o) h' a o):HOk P w (oT H a o) h':=λb u e=>by
 let hn:=x.fresh hp
 by_cases hb:b=a
 ·subst hb;rw[n5] at e;cases e;exact new
 ·rw[nZ hb] at e
  exact (x b u e).stay (λc v _ q=>k c v q) (λc q=>by rw[nZ (oY q hn)];exact q) λc xs q=>by rw[nZ (oY q hn)];exact q
end
abbrev Rd (H:Hp)(a:nP)(u:HO):Prop:=H a=Ψ u ∨ ∃ o,H a=Ψ (.frz o u)
def Rd.ok {P:mX}{w:nC}{H:Hp}{h:nM}{a:nP}{u:HO}(r:Rd H a u)(x:HOk P w H h):ObjOk P w H h a u:=by
 rcases r with r|⟨o,r⟩
 ·exact x a u r
 ·let(_,q):=x a _ r
  exact q
abbrev MX:Option HO->Prop
 | some (.lst _)=>True
 | some (.dK _)=>True
 | some (.dT _)=>True
 | some (.set _ _)=>True
 | some (.ins _ _ _)=>True
 | some (.ext _)=>True
 | _=>False
section
variable {P:mX}{w:nC}{H:Hp}{h h':nM}{x e:nP}{o':HO}
def HOk.write (ok:HOk P w H h)(mu:MX (H x))(he:e=x ∨ H e=Ψ (.own x))(k:∀ b u,b≠e->h.get? b=Ψ u->h'.get? b=Ψ u)(heo:∃ u,h'.get? e=Ψ u)
  (new:ObjOk P w (oT H x o') h' x o'):HOk P w (oT H x o') h':=λb u q=>by
 let nown:∀ c y,H c=Ψ (.own y)->c≠x:=λc y r z=>by subst z;rw[r] at mu;exact mu
 let ntup:∀ c xs,H c=Ψ (.tup xs)->c≠x:=λc xs r z=>by subst z;rw[r] at mu;exact mu
 by_cases hb:b=x
 ·subst hb;rw[n5] at q;cases q;exact new
 ·rw[nZ hb] at q
  by_cases hbe:b=e
  ·let q':H b=Ψ (.own x):=by
    rcases he with z|z
    ·exact absurd (hbe.trans z) hb
    ·rw[hbe];exact z
   rw[q] at q';cases q'
   let(v,hv):=heo
   exact⟨v,by rw[hbe];exact hv⟩
  ·exact (ok b u q).stay (λc v hc r=>k c v ?_ r) (λc r=>by rw[nZ (nown c b r)];exact r) λc xs r=>by rw[nZ (ntup c xs r)];exact r
   rcases hc with rfl|hc
   ·exact hbe
   ·rintro rfl
    rcases he with z|z
    ·exact nown c b hc z
    ·rw[hc] at z;cases z;exact hb rfl
end
structure Un (fs ex:List nP)(H H':Hp)(h h':nM):Prop where
 keep:∀ b o,h.get? b=Ψ o->H b=Φ->b ∉ fs->b ∉ ex->h'.get? b=Ψ o
 slot:∀ b o,h.get? b=Ψ o->H b=Φ->b∈fs->b ∉ ex->∃ sl,h'.get? b=Ψ { o with slots:=sl }
 free:∀ b o,h.get? b=Ψ o->H b=Φ->b ∉ ex->H' b=Φ
 there:∀ b o,h.get? b=Ψ o->b ∉ ex->∃ o',h'.get? b=Ψ o'
 tups:∀ b xs,H b=Ψ (.tup xs)->H' b=Ψ (.tup xs)
 frzs:∀ b o u,H b=Ψ (.frz o u)->H' b=Ψ (.frz o u)
 tbls:∀ b ps,H b=Ψ (.tbl ps)->∃ more,H' b=Ψ (.tbl (ps++more))
section
variable {fs ex:List nP}{H H1:Hp}{h h1 h':nM}{a x e:nP}{o:HO}
def Un.any (u:Un fs ex H H1 h h1){b:nP}{ob:Obj}(q:h.get? b=Ψ ob)(n:H b=Φ)(hx:b ∉ ex):∃ sl,h1.get? b=Ψ { ob with slots:=sl }:=by
 by_cases hb:b∈fs
 ·exact u.slot b ob q n hb hx
 ·exact⟨ob.slots,u.keep b ob q n hb hx⟩
def Un.kept (k:∀ b u,h.get? b=Ψ u->h'.get? b=Ψ u):Un fs ex H H h h' :=
 ⟨λb ob q _ _ _=>k b ob q,λb ob q _ _ _=>⟨ob.slots,k b ob q⟩,λ_ _ _ n _=>n,λb ob q _=>⟨ob,k b ob q⟩,λ_ _ q=>q,λ_ _ _ q=>q,λ_ ps q=>⟨#[],by rw[q];simp⟩⟩
def Un.refl:Un fs ex H H h h:=Un.kept λ_ _ q=>q
def Un.laid (k:∀ b u,h.get? b=Ψ u->h'.get? b=Ψ u)(hp:h.objs.size<=a)(hn:H a=Φ):Un fs ex H (oT H a o) h h' where
 keep:=λb u q _ _ _=>k b u q
 slot:=λb u q _ _ _=>⟨u.slots,k b u q⟩
 free:=λb u q n _=>by rw[nZ (kU (dH (lg q) hp))];exact n
 there:=λb u q _=>⟨u,k b u q⟩
 tups:=λb xs q=>by rw[nZ (oY q hn)];exact q
 frzs:=λb u xs q=>by rw[nZ (oY q hn)];exact q
 tbls:=λb ps q=>⟨#[],by rw[nZ (oY q hn),q];simp⟩
def Un.write (mu:MX (H x))(he:e=x ∨ H e=Ψ (.own x))(k:∀ b u,b≠e->h.get? b=Ψ u->h'.get? b=Ψ u)(heo:∃ u,h'.get? e=Ψ u):Un fs ex H (oT H x o) h h':=by
 let hx:∀ b,H b=Φ->b≠x:=λb n z=>by subst z;rw[n] at mu;exact mu
 let hb:∀ b,H b=Φ->b≠e:=λb n z=>by
  subst z
  rcases he with r|r
  ·exact hx b n r
  ·rw[n] at r;cases r
 let hm:∀ b u,H b=Ψ u->¬ MX (Ψ u)->b≠x:=λb u q nm z=>by subst z;rw[q] at mu;exact nm mu
 exact⟨λb u q n _ _=>k b u (hb b n) q,λb u q n _ _=>⟨u.slots,k b u (hb b n) q⟩,λb u q n _=>by rw[nZ (hx b n)];exact n,λb u q _=>?_,
  λb xs q=>by rw[nZ (hm b _ q λz=>z)];exact q,λb u xs q=>by rw[nZ (hm b _ q λz=>z)];exact q,λb ps q=>⟨#[],by rw[nZ (hm b _ q λz=>z),q];simp⟩⟩
 by_cases hbe:b=e
 ·subst hbe;exact heo
 ·exact⟨u,k b u hbe q⟩
end
abbrev M9 (h:nM)(H:Hp):List nP:=(mm h.objs.size).filter λa=>(H a).isSome
abbrev xn (h:nM)(H:Hp):nM:=PySem.W.hideAll h (M9 h H)
def B0 (h:nM)(H:Hp):(xn h H).objs.size=h.objs.size:=PySem.W.hideAll_size _ _
def DN {h:nM}{H:Hp}{b:nP}{o:Obj}(e:h.get? b=Ψ o)(n:H b=Φ):(xn h H).get? b=Ψ o :=
 PySem.W.hideAll_get _ e λhm=>by
  let q:(H b).isSome=Ω:=(iE.mp hm).2
  rw[n] at q;simp at q
def Fj {h:nM}{H:Hp}{b:nP}{o:Obj}(e:(xn h H).get? b=Ψ o):h.get? b=Ψ o/\H b=Φ:=by
 let e':h.get? b=Ψ o:=PySem.W.of_hideAll (M9 h H) e
 exact⟨e',?_⟩
 cases q:H b with
 | none=>rfl
 | some x =>
  let hm:b∈M9 h H:=iE.mpr ⟨jv.mpr (lg e'),by simp[q]⟩
  let z:(xn h H).get? b=Φ:=PySem.W.hideAll_none (M9 h H) hm
  rw[z] at e;cases e
structure Mod (K:kP)(mg:Str->Option nE)(base:nM):Prop where
 kin:K.In base
 glob:base.Ns mainGlobals mg
 blt:∃ mb,base.Ns builtinsNs mb/\∀ x:Str,x≠"__name__"->mb x=bootBuiltins x
 nolimit:base.NoLimit
set_option genInjectivity true in
structure Cx where
 prog:mX
 w:nC
 K:kP
 mg:Str->Option nE
 base:nM
 A:nB
 N:List Str
 s₀:nh
 H₀:Hp
 env:Env
 outer:List Env
 stack:List Env
 ex:List nP
 fn:Str->Bool
 calm:Bool
 pn:List (nP×Obj)
 xe:nE->nh->Prop
abbrev zN (l:List Env):List nP:=l.filterMap (·.frame)
noncomputable abbrev Cx.fs (X:Cx):List nP:=zN X.outer
abbrev KE (sc:nF)(x:Str):Prop:=sc.names.lookup x=Ψ .local ∨ sc.names.lookup x=Ψ .cell ∨ sc.names.lookup x=Ψ .free
abbrev Loc (sc:nF)(x:Str):Prop:=sc.names.lookup x=Ψ .local ∨ sc.names.lookup x=Ψ .cell
abbrev Look (env:Env)(h:nM)(m:Str->Option nE)(x:Str)(u:nE):Prop :=
 (env.kindOf x=Ψ .local/\m x=Ψ u) ∨ ((env.kindOf x=Ψ .cell ∨ env.kindOf x=Ψ .free)/\∃ c,env.cells.lookup x=Ψ c/\h.IsCell c (Ψ u))
set_option genInjectivity true in
structure Cx.Ok (X:Cx):Prop where
 mod:Mod X.K X.mg X.base
 kind:X.env.scope.kind=.function
 glob:X.env.globals=mainGlobals
 blt:X.env.builtins=builtinsNs
 above:X.s₀.heap.objs.size<=X.env.locals
 inj:∀ x y c,X.env.cells.lookup x=Ψ c->X.env.cells.lookup y=Ψ c->x=y
 has:∀ x,(X.env.kindOf x=Ψ .cell ∨ X.env.kindOf x=Ψ .free)->∃ c,X.env.cells.lookup x=Ψ c
 cab:∀ x c,X.fn x=Ω->X.env.cells.lookup x=Ψ c->X.s₀.heap.objs.size<=c
 hd:X.calm=Ω->X.A.handled=Φ
 frames:X.A.frames=Ψ X.stack
 stk:X.stack=X.outer ∨ (X.stack=X.env :: X.outer/\X.env.frame=Ψ X.env.locals)
 exf:∀ b∈X.ex,b≠X.env.locals/\∀ x c,X.env.cells.lookup x=Ψ c->c≠b
 bs:∀ b o,X.base.get? b=Ψ o->X.s₀.heap.get? b=Ψ o/\X.H₀ b=Φ
 bsz:X.base.objs.size<=X.s₀.heap.objs.size
 noex:∀ b o,X.base.get? b=Ψ o->b ∉ X.ex
 exfs:∀ b∈X.ex,b ∉ X.fs
 funs:X.s₀.heap.FunFrames X.base X.outer
 frf:∀ b∈X.fs,X.H₀ b=Φ
structure Inv (X:Cx)(Z9:List (nP×Obj))(σ:List (Option V))(H:Hp)(s:nh):Prop where
 ok:X.Ok
 os:s.os=X.s₀.os
 bare:m9 s.gens
 base:Un X.fs X.ex X.H₀ H X.s₀.heap s.heap
 loc:∃ m,s.heap.Ns X.env.locals m/\∀ (i:Nat)(x:Str)(v:V),X.N[i]?=Ψ x->σ[i]?=Ψ (Ψ v)->KE X.env.scope x->∃ u,RelV v u/\Look X.env s.heap m x u
 cell:∀ x c,X.env.cells.lookup x=Ψ c->∃ v,s.heap.IsCell c v
 free:H X.env.locals=Φ
 freeC:∀ x c,X.env.cells.lookup x=Ψ c->H c=Φ
 pin:∀ p∈X.pn++Z9,s.heap.get? p.1=Ψ p.2/\H p.1=Φ/\p.1≠X.env.locals/\p.1 ∉ X.fs/\∀ v,p.2.data≠.cell v
 hok:HOk X.prog X.w H s.heap
 len:σ.length=X.N.length
section
variable {X:Cx}{Z9:List (nP×Obj)}{σ:List (Option V)}{H H':Hp}{s:nh}{h':nM}
def Cx.Ok.nofr (ok:X.Ok){b:nP}{o:Obj}(e:X.base.get? b=Ψ o):b ∉ X.fs:=λhb=>by
 have:=(ok.funs.mem hb).1
 rw[e] at this;cases this
def Inv.bs (I:Inv X Z9 σ H s):∀ b o,X.base.get? b=Ψ o->s.heap.get? b=Ψ o/\H b=Φ:=λb o e =>
 ⟨I.base.keep b o (I.ok.bs b o e).1 (I.ok.bs b o e).2 (I.ok.nofr e) (I.ok.noex b o e),I.base.free b o (I.ok.bs b o e).1 (I.ok.bs b o e).2 (I.ok.noex b o e)⟩
def Inv.bk (I:Inv X Z9 σ H s):∀ b o,X.base.get? b=Ψ o->s.heap.get? b=Ψ o:=λb o e=>(I.bs b o e).1
def Inv.mod (I:Inv X Z9 σ H s):Mod X.K X.mg X.base:=I.ok.mod
def Inv.kIn (I:Inv X Z9 σ H s):X.K.In s.heap:=I.ok.mod.kin.keeps I.bk
def Inv.lt (I:Inv X Z9 σ H s):X.env.locals<s.heap.objs.size:=let ⟨_,hn,_⟩:=I.loc;hn.lt
def Inv.sz (I:Inv X Z9 σ H s):X.s₀.heap.objs.size<=s.heap.objs.size:=kX I.ok.above (kY I.lt)
def Inv.nofs (I:Inv X Z9 σ H s){a:nP}(h:s.heap.objs.size<=a):a ∉ X.fs:=λhb=>by
 let(_,o,ho,_):=I.ok.funs.mem hb
 exact absurd (dH (lg ho) (kX I.sz h)) (j9 _)
def Inv.cne (I:Inv X Z9 σ H s):∀ x c,X.env.cells.lookup x=Ψ c->c≠X.env.locals:=λx c e z=>by
 let(v,o,ho,hd):=I.cell x c e
 let(m,(o',es,ep,ho',hd',_),_):=I.loc
 rw[z,ho'] at ho;cases ho;rw[hd'] at hd;cases hd
def Inv.funs (I:Inv X Z9 σ H s):s.heap.FunFrames X.base X.outer:=by
 let all:∀ (l:List Env),(∀ b∈zN l,b∈X.fs)->X.s₀.heap.FunFrames X.base l->s.heap.FunFrames X.base l:=by
  intro l
  induction l with
  | nil=>intro _ _;trivial
  | cons env r ih =>
   intro hs hl
   let(hk,(L,o,hf,hn,ho,hd),hr):=hl
   let hL:L∈X.fs:=hs L (by unfold zN;rw[da,hf];exact dO)
   let(sl,e):=I.base.slot L o ho (I.ok.frf L hL) hL λz=>I.ok.exfs L z hL
   exact⟨hk,⟨L,_,hf,hn,e,hd⟩,ih (λb hb=>hs b (by unfold zN;rw[da,hf];exact cJ _ hb)) hr⟩
 exact all X.outer (λ_ hb=>hb) I.ok.funs
def Inv.stack (I:Inv X Z9 σ H s):s.heap.FunFrames X.base X.stack:=by
 rcases I.ok.stk with e|⟨e,hf⟩
 ·rw[e];exact I.funs
 ·rw[e]
  let(m,hn,_):=I.loc
  exact .cons (by rw[I.ok.kind];decide) hf hn ?_ I.funs
  exact Heap.get?_none_of_le (kX I.ok.bsz I.ok.above)
def Inv.stkSub (I:Inv X Z9 σ H s):∀ b∈zN X.stack,b∈X.env.locals :: X.fs:=λb hb=>by
 rcases I.ok.stk with e|⟨e,hf⟩
 ·rw[e] at hb;exact cJ _ hb
 ·rw[e] at hb
  unfold zN at hb
  rw[da,hf] at hb
  exact hb
def Inv.stkFree (I:Inv X Z9 σ H s):∀ b∈zN X.stack,H b=Φ:=λb hb=>by
 rcases kj.mp (I.stkSub b hb) with e|hb
 ·rw[e];exact I.free
 ·let(_,o,ho,_):=I.ok.funs.mem hb
  exact I.base.free b o ho (I.ok.frf b hb) λz=>I.ok.exfs b z hb
def Inv.step {g':Array GenState}{t':Nat}{d':Drawn}{ch:List nP}(I:Inv X Z9 σ H s)
  (hch:∀ b∈ch,(b∈X.ex ∨ X.s₀.heap.objs.size<=b)/\b≠X.env.locals/\(∀ x c,X.env.cells.lookup x=Ψ c->c≠b)/\∀ p∈X.pn++Z9,p.1≠b)
  (keep:∀ b o,b≠X.env.locals->b ∉ X.fs->b ∉ ch->s.heap.get? b=Ψ o->H b=Φ->h'.get? b=Ψ o)
  (slot:∀ b o,b≠X.env.locals->b∈X.fs->b ∉ ch->s.heap.get? b=Ψ o->H b=Φ->∃ sl,h'.get? b=Ψ { o with slots:=sl })(free:∀ b o,b ∉ ch->s.heap.get? b=Ψ o->H b=Φ->H' b=Φ)
  (there:∀ b o,b ∉ ch->s.heap.get? b=Ψ o->∃ o',h'.get? b=Ψ o')
  (tups:∀ b xs,H b=Ψ (.tup xs)->H' b=Ψ (.tup xs))(frzs:∀ b o u,H b=Ψ (.frz o u)->H' b=Ψ (.frz o u))(tbls:∀ b ps,H b=Ψ (.tbl ps)->∃ more,H' b=Ψ (.tbl (ps++more)))
  (ns:∀ m,s.heap.Ns X.env.locals m->h'.Ns X.env.locals m)(hok:HOk X.prog X.w H' h')(hg:m9 g') :
  Inv X Z9 σ H' { s with heap:=h',gens:=g',drawn:=d',toks:=t' }:=by
 let neL:∀ b o,X.s₀.heap.get? b=Ψ o->b≠X.env.locals:=λb o e=>kU (dH (lg e) I.ok.above)
 let neC:∀ b o,X.s₀.heap.get? b=Ψ o->b ∉ X.ex->b ∉ ch:=λb o e hx hb=>by
  rcases (hch b hb).1 with z|z
  ·exact hx z
  ·exact absurd (dH (lg e) z) (j9 _)
 let cellK:∀ x c,X.env.cells.lookup x=Ψ c->∀ v,s.heap.IsCell c v->h'.IsCell c v:=λx c e v q1=>by
  let(o,ho,hd):=q1
  let nch:c ∉ ch:=λz=>(hch c z).2.2.1 x c e rfl
  by_cases hc:c∈X.fs
  ·let(sl,q):=slot c o (I.cne x c e) hc nch ho (I.freeC x c e)
   exact⟨_,q,hd⟩
  ·exact⟨o,keep c o (I.cne x c e) hc nch ho (I.freeC x c e),hd⟩
 exact⟨I.ok,I.os,hg,⟨λb o e n hb hx=>?_,λb o e n hb hx=>?_,λb o e n hx=>?_,λb o e hx=>?_,λb xs e=>tups b xs (I.base.tups b xs e),λb o xs e=>frzs b o xs (I.base.frzs b o xs e),λb ps e=>?_⟩,?_,λx c e=>?_,?_,λx c e=>?_,λp hp=>?_,hok,I.len⟩
 ·exact keep b o (neL b o e) hb (neC b o e hx) (I.base.keep b o e n hb hx) (I.base.free b o e n hx)
 ·let(sl,e1):=I.base.slot b o e n hb hx
  let(sl',e2):=slot b _ (neL b o e) hb (neC b o e hx) e1 (I.base.free b o e n hx)
  exact⟨sl',e2⟩
 ·let(o',e1):=I.base.there b o e hx
  exact free b o' (neC b o e hx) e1 (I.base.free b o e n hx)
 ·let(o',e1):=I.base.there b o e hx
  exact there b o' (neC b o e hx) e1
 ·let(m1,e1):=I.base.tbls b ps e
  let(m2,e2):=tbls b _ e1
  exact⟨m1++m2,by rw[e2,Array.append_assoc]⟩
 ·let(m,hn,hl):=I.loc
  exact⟨m,ns m hn,λi x v e1 e2 e3=>?_⟩
  let(u,r,l):=hl i x v e1 e2 e3
  exact⟨u,r,?_⟩
  rcases l with l|⟨k,c,e,z⟩
  ·exact .inl l
  ·exact .inr ⟨k,c,e,cellK x c e _ z⟩
 ·let(v,z):=I.cell x c e
  exact⟨v,cellK x c e v z⟩
 ·let(m,(o,_,_,ho,_),_):=I.loc
  exact free _ o (λz=>(hch _ z).2.1 rfl) ho I.free
 ·let(v,o,ho,hd):=I.cell x c e
  exact free c o (λz=>(hch c z).2.2.1 x c e rfl) ho (I.freeC x c e)
 ·let(e,n,ne,nf,d):=I.pin p hp
  let nch:p.1 ∉ ch:=λz=>(hch p.1 z).2.2.2 p hp rfl
  exact⟨keep p.1 p.2 ne nf nch e n,free p.1 p.2 nch e n,ne,nf,d⟩
def Inv.un {t':Nat}(I:Inv X Z9 σ H s)(u:Un X.fs [] H H' s.heap h')(hok:HOk X.prog X.w H' h'):Inv X Z9 σ H' { s with heap:=h',toks:=t' }:=by
 let(m,(o,es,ep,ho,r),_):=id I.loc
 let(sl,hL):=u.any ho I.free ∅
 exact I.step (g':=s.gens) (d':=s.drawn) (ch:=[]) (λ_ z=>nomatch z) (λb o _ hb _ e n=>u.keep b o e n hb ∅) (λb o _ hb _ e n=>u.slot b o e n hb ∅) (λb o _ e n=>u.free b o e n ∅) (λb o _ e=>u.there b o e ∅) u.tups u.frzs u.tbls (λm' hm=>by
  let(o',es',ep',ho',r'):=hm
  rw[ho] at ho';cases ho'
  exact⟨_,es',ep',hL,r'⟩) hok I.bare
def Inv.call {g':Array GenState}{t':Nat}{d':Drawn}{ch:List nP}(I:Inv X Z9 σ H s)(u:Un (zN X.stack) ch H H' s.heap h')(hok:HOk X.prog X.w H' h')(hg:m9 g')
  (hch:∀ b∈ch,(b∈X.ex ∨ X.s₀.heap.objs.size<=b)/\b≠X.env.locals/\(∀ x c,X.env.cells.lookup x=Ψ c->c≠b)/\∀ p∈X.pn++Z9,p.1≠b) :
  Inv X Z9 σ H' { s with heap:=h',gens:=g',drawn:=d',toks:=t' }:=by
 let(m,(o,es,ep,ho,r),_):=id I.loc
 let(sl,hL):=u.any ho I.free λz=>(hch _ z).2.1 rfl
 exact I.step (ch:=ch) hch (λb o hL hb hc e n=>u.keep b o e n (λz=>(kj.mp (I.stkSub b z)).elim hL hb) hc) (λb o _ _ hc e n=>u.any e n hc) (λb o hc e n=>u.free b o e n hc) (λb o hc e=>u.there b o e hc) u.tups u.frzs u.tbls (λm' hm=>by
  let(o',es',ep',ho',r'):=hm
  rw[ho] at ho';cases ho'
  exact⟨_,es',ep',hL,r'⟩) hok hg
def Inv.turned {t':Nat}{it:nP}(I:Inv X Z9 σ H s)(k:∀ b o,b≠it->s.heap.get? b=Ψ o->h'.get? b=Ψ o)(hn:H it=Φ)(hL:it≠X.env.locals)
  (h1:it∈X.ex ∨ X.s₀.heap.objs.size<=it)(h2:∀ x c,X.env.cells.lookup x=Ψ c->c≠it)(h3:∀ p∈X.pn++Z9,p.1≠it):Inv X Z9 σ H { s with heap:=h',toks:=t' }:=by
 let nit:∀ b u,H b=Ψ u->b≠it:=λb u e z=>by rw[z,hn] at e;cases e
 exact I.step (g':=s.gens) (d':=s.drawn) (ch:=[it]) (λb hb=>?_) (λb o _ _ hc e _=>k b o (λz=>hc (by simp[z])) e) (λb o _ _ hc e _=>⟨o.slots,k b o (λz=>hc (by simp[z])) e⟩) (λ_ _ _ _ n=>n)
  (λb o hc e=>⟨o,k b o (λz=>hc (by simp[z])) e⟩) (λ_ _ e=>e) (λ_ _ _ e=>e) (λb ps e=>⟨#[],by rw[e];simp⟩) (λm hm=>?_) (λb u e=>?_) I.bare
 ·let e:b=it:=by simpa using hb
  subst e
  exact⟨h1,hL,h2,h3⟩
 ·let(o,es,ep,ho,r):=hm
  exact⟨o,es,ep,k _ o (mZ hL) ho,r⟩
 ·exact (I.hok b u e).stay (λc v hc q=>k c v ?_ q) (λ_ q=>q) λ_ _ q=>q
  rcases hc with z|z
  ·rw[z];exact nit b u e
  ·exact nit c _ z
def Inv.tok (I:Inv X Z9 σ H s) (t:Nat):Inv X Z9 σ H { s with toks:=t }:=I.un (h':=s.heap) (t':=t) Un.refl I.hok
def Inv.kept {t':Nat}(I:Inv X Z9 σ H s)(k:∀ b u,s.heap.get? b=Ψ u->h'.get? b=Ψ u):Inv X Z9 σ H { s with heap:=h',toks:=t' }:=I.un (Un.kept k) (I.hok.kept k)
def Inv.laid {a:nP}{o:HO}{t':Nat}(I:Inv X Z9 σ H s)(k:∀ b u,s.heap.get? b=Ψ u->h'.get? b=Ψ u)(hp:s.heap.objs.size<=a)(new:ObjOk X.prog X.w (oT H a o) h' a o) :
  Inv X Z9 σ (oT H a o) { s with heap:=h',toks:=t' }:=I.un (Un.laid k hp (I.hok.fresh hp)) (I.hok.laid k hp new)
def Inv.write {x e:nP}{o:HO}{t':Nat}(I:Inv X Z9 σ H s)(mu:MX (H x))(he:e=x ∨ H e=Ψ (.own x))(k:∀ b u,b≠e->s.heap.get? b=Ψ u->h'.get? b=Ψ u)(heo:∃ u,h'.get? e=Ψ u)
  (new:ObjOk X.prog X.w (oT H x o) h' x o):Inv X Z9 σ (oT H x o) { s with heap:=h',toks:=t' }:=I.un (Un.write mu he k heo) (I.hok.write mu he k heo new)
def Inv.weak {σ':List (Option V)}(I:Inv X Z9 σ H s)(hl:σ'.length=σ.length)(w:∀ (i:Nat) v,σ'[i]?=Ψ (Ψ v)->σ[i]?=Ψ (Ψ v)):Inv X Z9 σ' H s :=
 ⟨I.ok,I.os,I.bare,I.base,let ⟨m,hn,hl'⟩:=I.loc;⟨m,hn,λi x v e1 e2 e3=>hl' i x v e1 (w i v e2) e3⟩,I.cell,I.free,I.freeC,I.pin,I.hok,hl.trans I.len⟩
def Inv.pins_of {pins':List (nP×Obj)}(I:Inv X Z9 σ H s)(h:∀ p∈pins',s.heap.get? p.1=Ψ p.2/\H p.1=Φ/\p.1≠X.env.locals/\p.1 ∉ X.fs/\∀ v,p.2.data≠.cell v):Inv X pins' σ H s :=
 ⟨I.ok,I.os,I.bare,I.base,I.loc,I.cell,I.free,I.freeC,λp hp=>(iF.mp hp).elim (λz=>I.pin p (cK _ z)) (h p),I.hok,I.len⟩
def yj {N:List Str}(hN:N.Nodup){i j:Nat}{x:Str}(a:N[i]?=Ψ x)(b:N[j]?=Ψ x):i=j:=by
 let(h1,e1):=aR.mp a
 let(h2,e2):=aR.mp b
 exact (gE hN).mp (e1.trans e2.symm)
def vR {M:nG}{A:nB}{E:nE->nh->Prop}{i:Nat}{x:Str}{v:V}{u:nE}{Q:Unit->nh->Prop}(I:Inv X Z9 σ H s)(hN:X.N.Nodup)(hi:X.N[i]?=Ψ x)(hx:Loc X.env.scope x)(r:RelV v u)
  (h:∀ s',Inv X Z9 (σ.set i (Ψ v)) H s'->(∃ a,lh a s.heap s'.heap/\(a=X.env.locals ∨ X.env.cells.lookup x=Ψ a))->Q () s')(hf:X.fn x=Ω ∨ X.env.scope.names.lookup x=Ψ .local:=by first|exact .inl rfl|exact .inr rfl|assumption):wpAny M A (storeName X.env x u) Q E s:=by
 let(m,hn,hl):=id I.loc
 let hcls:(X.env.scope.kind == .class || (X.env.scope.kind == .module && X.env.locals != X.env.globals))=Ξ:=by rw[I.ok.kind];rfl
 let hiσ:i<σ.length:=by rw[I.len];exact (aR.mp hi).1
 let cne:=I.cne
 let tracked:∀ {a:nP}{h':nM},(∃ o,s.heap.get? a=Ψ o/\H a=Φ)->lh a s.heap h'->HOk X.prog X.w H h':=λ{a h'} ha hs b ob e=>by
  let(_,_,hfree):=ha
  exact (I.hok b ob e).stay (λc w' hc q=>(hs.2 c ?_).trans q) (λ_ q=>q) λ_ _ q=>q
  rintro rfl
  rcases hc with rfl|hc
  ·rw[hfree] at e;cases e
  ·rw[hfree] at hc;cases hc
 rcases hx with hk|hk
 ·exact wpAny_storeName_local hk hn (λh' hn' hs=>?_) hcls
  let(oL,_,_,hoL,_):=id hn
  exact h _ ⟨I.ok,I.os,I.bare,⟨λb o e n hb hx=>?_,λb o e n hb hx=>?_,I.base.free,λb o e hx=>?_,I.base.tups,I.base.frzs,I.base.tbls⟩,⟨_,hn',λj y v' e1 e2 e3=>?_⟩,λy c e=>?_,I.free,I.freeC,λp hp=>?_,tracked ⟨oL,hoL,I.free⟩ hs,by simpa using I.len⟩ ⟨_,hs,.inl rfl⟩
  ·exact (hs.2 b (kU (dH (lg e) I.ok.above))).trans (I.base.keep b o e n hb hx)
  ·let(sl,e1):=I.base.slot b o e n hb hx
   exact⟨sl,(hs.2 b (kU (dH (lg e) I.ok.above))).trans e1⟩
  ·let(o',e1):=I.base.there b o e hx
   exact⟨o',(hs.2 b (kU (dH (lg e) I.ok.above))).trans e1⟩
  ·by_cases hj:j=i
   ·subst hj
    rw[hi] at e1;cases e1
    rw[bO hiσ] at e2
    cases e2
    exact⟨u,r,.inl ⟨hk,∅⟩⟩
   ·rw[cL (mZ hj)] at e2
    let(u',r',q):=hl j y v' e1 e2 e3
    exact⟨u',r',?_⟩
    rcases q with⟨k,e⟩|⟨k,c,e,z⟩
    ·exact .inl ⟨k,?_⟩
     have:y≠x:=λe=>hj (yj hN e1 (e ▸ hi))
     simp[this,e]
    ·exact .inr ⟨k,c,e,z.sameBut hs (cne y c e)⟩
  ·let(w',z):=I.cell y c e
   exact⟨w',z.sameBut hs (cne y c e)⟩
  ·let(e,n,ne,nf,d):=I.pin p hp
   exact⟨(hs.2 p.1 ne).trans e,n,ne,nf,d⟩
 ·let hfn:X.fn x=Ω:=by
   rcases hf with z|z
   ·exact z
   ·rw[z] at hk;cases hk
  let(c,hc):=I.ok.has x (.inl hk)
  let(w',z):=I.cell x c hc
  exact wpAny_storeName_cell I.ok.kind hk hc z (λh' hc' hs=>?_)
  let(oc,hoc,hocd):=id z
  exact h { s with heap:=h' } ⟨I.ok,I.os,I.bare,⟨λb o e n hb hx=>?_,λb o e n hb hx=>?_,I.base.free,λb o e hx=>?_,I.base.tups,I.base.frzs,I.base.tbls⟩,⟨m,hn.sameBut hs (mZ (cne x c hc)),λj y v' e1 e2 e3=>?_⟩,λy c' e=>?_,I.free,I.freeC,λp hp=>?_,tracked ⟨oc,hoc,I.freeC x c hc⟩ hs,by simpa using I.len⟩ ⟨c,hs,.inr hc⟩
  ·exact (hs.2 b (kU (dH (lg e) (I.ok.cab x c hfn hc)))).trans (I.base.keep b o e n hb hx)
  ·let(sl,e1):=I.base.slot b o e n hb hx
   exact⟨sl,(hs.2 b (kU (dH (lg e) (I.ok.cab x c hfn hc)))).trans e1⟩
  ·let(o',e1):=I.base.there b o e hx
   exact⟨o',(hs.2 b (kU (dH (lg e) (I.ok.cab x c hfn hc)))).trans e1⟩
  ·by_cases hj:j=i
   ·subst hj
    rw[hi] at e1;cases e1
    rw[bO hiσ] at e2
    cases e2
    exact⟨u,r,.inr ⟨.inl hk,c,hc,hc'⟩⟩
   ·rw[cL (mZ hj)] at e2
    let(u',r',q):=hl j y v' e1 e2 e3
    exact⟨u',r',?_⟩
    rcases q with q|⟨k,c',e,z'⟩
    ·exact .inl q
    ·exact .inr ⟨k,c',e,z'.sameBut hs ?_⟩
     rintro rfl
     exact hj (yj hN e1 (I.ok.inj _ _ _ e hc ▸ hi))
  ·by_cases hcc:c'=c
   ·subst hcc;exact⟨_,hc'⟩
   ·let(w2,z2):=I.cell y c' e
    exact⟨w2,z2.sameBut hs hcc⟩
  ·let(e,n,ne,nf,d):=I.pin p hp
   exact⟨(hs.2 p.1 ?_).trans e,n,ne,nf,d⟩
   intro q
   rw[q,hoc] at e
   let q':oc=p.2:=ip e
   exact d w' (by rw[<- q'];exact hocd)
def qq {M:nG}{A:nB}{E:nE->nh->Prop}{i:Nat}{x:Str}{v:V}{u:nE}{Q:Unit->nh->Prop}(I:Inv X Z9 σ H s)(hN:X.N.Nodup)(hi:X.N[i]?=Ψ x)(hx:Loc X.env.scope x)(r:RelV v u)
  (h:∀ s',Inv X Z9 (σ.set i (Ψ v)) H s'->Q () s')(hf:X.fn x=Ω ∨ X.env.scope.names.lookup x=Ψ .local:=by first|exact .inl rfl|exact .inr rfl|assumption):wpAny M A (storeName X.env x u) Q E s :=
 vR I hN hi hx r (λs' I' _=>h s' I') hf
def Inv.call' {s':nh}{ch:List nP}(I:Inv X Z9 σ H s)(ho:s'.os=s.os)(u:Un (zN X.stack) ch H H' s.heap s'.heap)(hok:HOk X.prog X.w H' s'.heap)(hg:m9 s'.gens)
  (hch:∀ b∈ch,(b∈X.ex ∨ X.s₀.heap.objs.size<=b)/\b≠X.env.locals/\(∀ x c,X.env.cells.lookup x=Ψ c->c≠b)/\∀ p∈X.pn++Z9,p.1≠b):Inv X Z9 σ H' s':=by
 let(h',g',d',t',o'):=s'
 let e:o'=s.os:=ho
 subst e
 exact I.call (g':=g') (t':=t') (d':=d') u hok hg hch
end
noncomputable abbrev XK:=nE->Option nP->Hp->Prop
noncomputable abbrev St:=List (Option V)
noncomputable abbrev VK:=V->Hp->Prop
noncomputable abbrev TE:=St->Hp->VK->Prop
noncomputable abbrev TT:=St->Hp->(Bool->Hp->Prop)->Prop
noncomputable abbrev TA:=St->Hp->(List V->Hp->Prop)->Prop
structure Ends where
 nx:St->Hp->Prop
 rt:VK
 bk:St->Hp->Prop:=λ_ _=>False
 ct:St->Hp->Prop:=λ_ _=>False
noncomputable abbrev TS:=Ends->St->Hp->Prop
inductive EP (X:Cx)(Z9:List (nP×Obj))(σ:St)(Q:VK)(u:nE)(s':nh):Prop
 | mk (v:_)(H':_)(_:Inv X Z9 σ H' s')(_:RelV v u)(_:Q v H'):EP X Z9 σ Q u s'
inductive TP (X:Cx)(Z9:List (nP×Obj))(σ:St)(Q:Bool->Hp->Prop)(b:Bool)(s':nh):Prop
 | mk (H':_)(_:Inv X Z9 σ H' s')(_:Q b H'):TP X Z9 σ Q b s'
inductive AP (X:Cx)(Z9:List (nP×Obj))(σ:St)(Q:List V->Hp->Prop)(us:List nE)(s':nh):Prop
 | mk (vs:_)(H':_)(_:Inv X Z9 σ H' s')(_:Vals vs us)(_:Q vs H'):AP X Z9 σ Q us s'
abbrev SP (X:Cx)(Z9:List (nP×Obj))(D:Ends)(f:Flow)(s':nh):Prop :=
 match f with
 | .next=>∃ σ' H',Inv X Z9 σ' H' s'/\D.nx σ' H'
 | .brk=>∃ σ' H',Inv X Z9 σ' H' s'/\D.bk σ' H'
 | .cont=>∃ σ' H',Inv X Z9 σ' H' s'/\D.ct σ' H'
 | .ret u=>∃ v σ' H',Inv X Z9 σ' H' s'/\RelV v u/\D.rt v H'
abbrev PE (X:Cx)(e:Expr)(t:TE):Prop :=
 ∀ (Z9:List (nP×Obj))(s:nh)(σ:St)(H:Hp)(Q:VK),Inv X Z9 σ H s->t σ H Q->wpAny (model X.prog X.w) X.A (eval e X.env) (EP X Z9 σ Q) X.xe s
abbrev PT (X:Cx)(e:Expr)(t:TT):Prop :=
 ∀ (Z9:List (nP×Obj))(s:nh)(σ:St)(H:Hp)(Q:Bool->Hp->Prop),Inv X Z9 σ H s->t σ H Q->wpAny (model X.prog X.w) X.A (isTrue e X.env (eval e X.env)) (TP X Z9 σ Q) X.xe s
abbrev PW (X:Cx)(e:Expr)(t:TT):Prop :=
 ∀ (whole:Sem nE)(Z9:List (nP×Obj))(s:nh)(σ:St)(H:Hp)(Q:Bool->Hp->Prop),Inv X Z9 σ H s->t σ H Q->wpAny (model X.prog X.w) X.A (isTrue e X.env whole) (TP X Z9 σ Q) X.xe s
def PW.pt {X:Cx}{e:Expr}{t:TT}(h:PW X e t):PT X e t:=h _
abbrev PA (X:Cx)(es:List Expr)(t:TA):Prop :=
 ∀ (pos:Pos)(Z9:List (nP×Obj))(s:nh)(σ:St)(H:Hp)(Q:List V->Hp->Prop),Inv X Z9 σ H s->t σ H Q->wpAny (model X.prog X.w) X.A (spliced (backTo pos (starEach es X.env))) (AP X Z9 σ Q) X.xe s
abbrev PS (X:Cx)(st:nL)(t:TS):Prop :=
 ∀ (Z9:List (nP×Obj))(s:nh)(σ:St)(H:Hp)(D:Ends),Inv X Z9 σ H s->t D σ H->wpAny (model X.prog X.w) X.A (exec st X.env) (SP X Z9 D) X.xe s
abbrev PSs (X:Cx)(st:List nL)(t:TS):Prop :=
 ∀ (Z9:List (nP×Obj))(s:nh)(σ:St)(H:Hp)(D:Ends),Inv X Z9 σ H s->t D σ H->wpAny (model X.prog X.w) X.A (execs st X.env) (SP X Z9 D) X.xe s
def oX {α:Type}{t:Sem α}{Q Q':α->nh->Prop}{M:nG}{A:nB}{E:nE->nh->Prop}{s:nh}(h:wpAny M A t Q E s)(hQ:∀ a s,Q a s->Q' a s):wpAny M A t Q' E s:=lQ h hQ λ_ _ x=>x
section
variable {X:Cx}
inductive tVar (i:Nat)(σ:L2.St)(H:Hp)(Q:VK):Prop
 | mk (v:_)(_:σ[i]?=Ψ (Ψ v))(_:Q v H):tVar i σ H Q
abbrev tC (v:V):TE:=λ_ H Q=>Q v H
def zA {i:Nat}{x:Str}{pos:Pos}(hN:X.N[i]?=Ψ x)(hv:KE X.env.scope x)(hd:(x == ("__debug__":Str))=Ξ:=by decide)(hcd:(x == ("__classdict__":Str))=Ξ:=by decide):PE X (.Name x pos) (tVar i):=by
 intro Z9 s σ H Q I h
 let(v,e,h):=h
 let(m,hn,hl):=I.loc
 let(u,r,l):=hl i x v hN e hv
 let fin:EP X Z9 σ Q u s:=⟨v,H,I,r,h⟩
 rcases l with⟨hk,hm⟩|⟨hk,c,hc,hcell⟩
 ·exact lT (cC I.ok.kind hk hn hm fin) hd
 ·rcases hk with hk|hk
  ·exact lT (cT I.ok.kind hk hc hcell fin) hd
  ·exact lT (wpAny_loadName_free I.ok.kind hk hc hcell fin hcd) hd
def HH {i j pos}:PE X (.Constant (.int i) j pos) (tC (.int i)):=λ_ _ _ H _ I h=>wpAny_Constant_int ⟨.int i,H,I.tok _,⟨_,rfl⟩,h⟩
def Lx {b j pos}:PE X (.Constant (.bool b) j pos) (tC (.bl b)):=λ_ _ _ H _ I h=>Constant_bool ⟨.bl b,H,I,rfl,h⟩
def HG {j pos}:PE X (.Constant .none j pos) (tC .non):=λ_ _ _ H _ I h=>kA ⟨.non,H,I,rfl,h⟩
abbrev Gl (X:Cx)(x:Str):Prop:=X.env.kindOf x=Ψ .globalImplicit
def Fy {E:nE->nh->Prop}{Z9:List (nP×Obj)}{s:nh}{σ:St}{H:Hp}{x:Str}{u:nE}{pos:Pos}{Q:nE->nh->Prop}(I:Inv X Z9 σ H s)(hg:Gl X x)(hm:X.mg x=Ψ u)(h:Q u s)
  (hd:(x == ("__debug__":Str))=Ξ:=by decide):wpAny (model X.prog X.w) X.A (eval (.Name x pos) X.env) Q E s :=
 aH I.ok.kind hg (Calls.loadGlobal_global (by rw[I.ok.glob];exact I.mod.glob.keeps I.bk) hm h) hd
def sS {E:nE->nh->Prop}{Z9:List (nP×Obj)}{s:nh}{σ:St}{H:Hp}{x:Str}{u:nE}{pos:Pos}{Q:nE->nh->Prop}(I:Inv X Z9 σ H s)(hg:Gl X x)(hm:X.mg x=Φ)(hv:bootBuiltins x=Ψ u)(h:Q u s)
  (hn:x≠"__name__":=by decide)(hd:(x == ("__debug__":Str))=Ξ:=by decide):wpAny (model X.prog X.w) X.A (eval (.Name x pos) X.env) Q E s:=by
 let(mb,h1,h2):=I.mod.blt
 exact aH I.ok.kind hg (Calls.loadGlobal_builtin (by rw[I.ok.glob];exact I.mod.glob.keeps I.bk) hm (by rw[I.ok.blt];exact h1.keeps I.bk) ((h2 x hn).trans hv) h) hd
def Fb {x:Str}{v:V}{u:nE}{pos:Pos}(hg:Gl X x)(hm:X.mg x=Φ)(hv:bootBuiltins x=Ψ u)(r:RelV v u)(hn:x≠"__name__":=by decide)(hd:(x == ("__debug__":Str))=Ξ:=by decide):PE X (.Name x pos) (tC v) :=
 λ_ _ _ H _ I h=>sS I hg hm hv ⟨v,H,I,r,h⟩ hn hd
variable {a b:Expr}{ta tb:TE}{pos:Pos}
abbrev PC (X:Cx)(op:nK)(a b:Expr)(t:TE):Prop :=
 ∀ (Z9:List (nP×Obj))(s:nh)(σ:St)(H:Hp)(Q:VK),Inv X Z9 σ H s->t σ H Q ->
  wpAny (model X.prog X.w) X.A (eval a X.env) (λv s₁=>wpAny (model X.prog X.w) X.A (eval b X.env) (λu s₂=>wpAny (model X.prog X.w) X.A (compareOp op v u) (EP X Z9 σ Q) X.xe s₂) X.xe s₁) X.xe s
def pZ (b:Expr){op:nK}(h:op≠.In)(h2:op≠.NotIn):behindInMarks op b=Ξ:=by
 let e1:(op == CmpOp.In)=Ξ:=by cases op<;>first|rfl|exact absurd rfl h
 let e2:(op == CmpOp.NotIn)=Ξ:=by cases op<;>first|rfl|exact absurd rfl h2
 cases b<;>simp[behindInMarks,e1,e2]
abbrev OJ (ta:TE):TE:=λσ H Q=>ta σ H λx H1=>Q (.bl (Δ (x=.non))) H1
abbrev KS (ta:TE):TE:=λσ H Q=>ta σ H λx H1=>Q (.bl (!Δ (x=.non))) H1
def RelV.none_iff {x:V}{v:nE}(r:RelV x v):(v == Value.none)=Δ (x=.non):=by
 cases x with
 | non=>cases r;rfl
 | bl _=>cases r;rfl
 | int _=>let(t,rfl):=r;rfl
 | str _=>let(t,rfl):=r;rfl
 | byt _=>let(t,rfl):=r;rfl
 | flt _=>let(t,rfl):=r;rfl
 | ref _=>cases r;rfl
 | ty _=>cases r;rfl
def HK {j pos'}(ha:PE X a ta):PC X .Is a (.Constant .none j pos') (OJ ta):=by
 intro Z9 s σ H Q I h
 exact oX (ha Z9 s σ H _ I h) λv s1 q1=>?_;let(x,H1,I1,r1,q1):=q1
 exact kA (is_none_gen ⟨.bl _,H1,I1,by rw[r1.none_iff];rfl,q1⟩)
def Av {j pos'}(ha:PE X a ta):PC X .IsNot a (.Constant .none j pos') (KS ta):=by
 intro Z9 s σ H Q I h
 exact oX (ha Z9 s σ H _ I h) λv s1 q1=>?_;let(x,H1,I1,r1,q1):=q1
 exact kA (isnot_none_gen ⟨.bl _,H1,I1,by rw[r1.none_iff];rfl,q1⟩)
abbrev tB (t:TE):TT:=λσ H Q=>t σ H λx H1=>∃ c,x=.bl c/\Q c H1
def HI {op:nK}{t:TE}(h:PC X op a b t)(h1:behindInMarks op b=Ξ:=by first|exact pZ _ (·) (·)|rfl):PE X (.Compare a [op] [b] pos) t:=λZ9 s σ H Q I hw=>ja (h Z9 s σ H Q I hw) h1
def C0 {op:nK}{t:TE}(h:PC X op a b t)(h1:behindInMarks op b=Ξ:=by first|exact pZ _ (·) (·)|rfl):PT X (.Compare a [op] [b] pos) (tB t):=by
 intro Z9 s σ H Q I hw
 exact bW (oX (h Z9 s σ H _ I hw) λv s1 h1=>oX h1 λu s2 h2=>oX h2 λc s3 ⟨x,H1,I1,r1,q1⟩=>?_) h1
 let(d,rfl,q):=q1
 cases r1
 exact eD ⟨H1,I1,q⟩
variable {tA tB':TT}{rest:List Expr}
abbrev OO (t u:TT):TT:=λσ H Q=>t σ H λc H1=>if c=Ω then u σ H1 Q else Q Ξ H1
abbrev tOr (t u:TT):TT:=λσ H Q=>t σ H λc H1=>if c=Ω then Q Ω H1 else u σ H1 Q
abbrev OH (t:TT):TT:=λσ H Q=>t σ H λc H1=>Q (!c) H1
def EO (ha:PT X a tA):PW X (.BoolOp .And [a] pos) tA:=by
 intro wh Z9 s σ H Q I h
 exact isTrue_and (oX (ha Z9 s σ H Q I h) λc s1 e=>?_)
 cases c with
 | true=>exact isTrue_and_nil e
 | false=>exact e
def Hr (ha:PT X a tA):PW X (.BoolOp .Or [a] pos) tA:=by
 intro wh Z9 s σ H Q I h
 exact isTrue_or (oX (ha Z9 s σ H Q I h) λc s1 e=>?_)
 cases c with
 | false=>exact isTrue_or_nil e
 | true=>exact e
def Hs (ha:PT X a tA)(hb:PW X (.BoolOp .And (b :: rest) pos) tB'):PW X (.BoolOp .And (a :: b :: rest) pos) (OO tA tB'):=by
 intro wh Z9 s σ H Q I h
 exact isTrue_and (oX (ha Z9 s σ H _ I h) λc s1 ⟨H1,I1,q1⟩=>?_)
 cases c with
 | true=>exact hb wh Z9 s1 σ H1 Q I1 q1
 | false=>exact⟨H1,I1,q1⟩
def Ls (ha:PT X a tA)(hb:PW X (.BoolOp .Or (b :: rest) pos) tB'):PW X (.BoolOp .Or (a :: b :: rest) pos) (tOr tA tB'):=by
 intro wh Z9 s σ H Q I h
 exact isTrue_or (oX (ha Z9 s σ H _ I h) λc s1 ⟨H1,I1,q1⟩=>?_)
 cases c with
 | true=>exact⟨H1,I1,q1⟩
 | false=>exact hb wh Z9 s1 σ H1 Q I1 q1
def Hu (ha:PT X a tA):PT X (.UnaryOp .Not a pos) (OH tA):=by
 intro Z9 s σ H Q I h
 exact isTrue_not (oX (ha Z9 s σ H (λc H1=>Q (!c) H1) I h) λu s' q1=>by let(H1,I1,q):=q1;exact⟨H1,I1,q⟩)
abbrev KR (ta:TE):TE:=λσ H Q=>ta σ H λx H1=>∃ c,x=.bl c/\Q (.bl (!c)) H1
def HE {op}{t:TE}(h:PE X a t):PE X (.BoolOp op [a] pos) t:=λZ9 s σ H Q I hw=>BoolOp_one (h Z9 s σ H Q I hw)
def HF (ha:PE X a ta):PE X (.UnaryOp .Not a pos) (KR ta):=by
 intro Z9 s σ H Q I h
 exact UnaryOp_ (oX (ha Z9 s σ H _ I h) λv s1 ⟨x,H1,I1,r1,q1⟩=>?_)
 let(c,rfl,q1):=q1
 cases r1
 exact not_of (eD ⟨.bl (!c),H1,I1,rfl,q1⟩)
abbrev tIf (t:TT)(ta tb:TE):TE:=λσ H Q=>t σ H λc H1=>if c=Ω then ta σ H1 Q else tb σ H1 Q
def Db {c:Expr}(hc:PT X c tA)(ha:PE X a ta)(hb:PE X b tb):PE X (.IfExp c a b pos) (tIf tA ta tb):=by
 intro Z9 s σ H Q I h
 exact wpAny_IfExp (oX (hc Z9 s σ H _ I h) λd s1 ⟨H1,I1,q1⟩=>?_)
 cases d with
 | true=>exact ha Z9 s1 σ H1 Q I1 q1
 | false=>exact hb Z9 s1 σ H1 Q I1 q1
end
abbrev SqL (K:kP)(H:Hp)(a:nP)(xs:List V):Prop :=
 Rd H a (.lst xs) ∨
  ∃ (o:Obj)(Z7:Array nE) (n:Nat),K.lookup a=Ψ o/\o.cls=.type "list"/\o.dict=Φ/\o.data=.seq Z7 n/\Z7.size<=sizeLine/\Vals xs Z7.toList
abbrev SqT (K:kP)(H:Hp)(a:nP)(xs:List V):Prop :=
 Rd H a (.tup xs) ∨
  ∃ (o:Obj)(Z7:Array nE) (n:Nat),K.lookup a=Ψ o/\o.cls=.type "tuple"/\o.data=.seq Z7 n/\Z7.size<=sizeLine/\Vals xs Z7.toList
abbrev Si:nE->Option V
 | .none=>Ψ .non
 | .bool b=>Ψ (.bl b)
 | .int i _=>Ψ (.int i)
 | .str x _=>Ψ (.str x)
 | .bytes b _=>Ψ (.byt b)
 | .float b _=>Ψ (.flt b)
 | .ref a=>Ψ (.ref a)
 | .type n=>Ψ (.ty n)
 | _=>Φ
def RelV.abs {x:V}{u:nE}(r:RelV x u):Si u=Ψ x:=by
 cases x with
 | non=>cases r;rfl
 | bl _=>cases r;rfl
 | int _=>let(t,rfl):=r;rfl
 | str _=>let(t,rfl):=r;rfl
 | byt _=>let(t,rfl):=r;rfl
 | flt _=>let(t,rfl):=r;rfl
 | ref _=>cases r;rfl
 | ty _=>cases r;rfl
def RelV.inj {x y:V}{u:nE}(r:RelV x u)(q:RelV y u):x=y:=ip (r.abs.symm.trans q.abs)
def Vals.inj:∀ {xs ys:List V}{us:List nE},Vals xs us->Vals ys us->xs=ys:=λ{_ ys _} h=>by
 induction h generalizing ys with
 | nil=>intro h;cases h;rfl
 | cons r _ ih=>intro h;cases h with|cons r' t'=>rw[r.inj r',ih t']
section
variable {X:Cx}{Z9:List (nP×Obj)}{σ:St}{H:Hp}{s:nh}{a:nP}{xs ys:List V}
def SqL.of {K:kP}(h:H a=Ψ (.lst xs)):SqL K H a xs:=.inl (.inl h)
def SqT.of {K:kP}(h:H a=Ψ (.tup xs)):SqT K H a xs:=.inl (.inl h)
def Inv.list (I:Inv X Z9 σ H s)(h:SqL X.K H a xs):∃ Z7:List nE,Vals xs Z7/\PlainL s.heap a Z7.toArray/\xs.length<=sizeLine:=by
 rcases h with h|⟨o,Z7,n,hk,hc,hd,hs,hz,r⟩
 ·let(z,Z7,n,r,e):=h.ok I.hok
  exact⟨Z7,r,⟨_,n,e,rfl,rfl,rfl⟩,z⟩
 ·exact⟨Z7.toList,r,⟨o,n,I.kIn a o hk,hc,hd,by simpa using hs⟩,?_⟩
  let e:=r.length
  simp -iota only[dk] at e
  lia
def Inv.tuple (I:Inv X Z9 σ H s)(h:SqT X.K H a xs):∃ Z7:List nE,Vals xs Z7/\nJ s.heap a Z7.toArray/\xs.length<=sizeLine:=by
 rcases h with h|⟨o,Z7,n,hk,hc,hs,hz,r⟩
 ·let(z,Z7,r,p):=h.ok I.hok
  exact⟨Z7,r,p,z⟩
 ·exact⟨Z7.toList,r,⟨o,I.kIn a o hk,hc,n,by simpa using hs⟩,?_⟩
  let e:=r.length
  simp -iota only[dk] at e
  lia
def Inv.list_inj (I:Inv X Z9 σ H s)(h:SqL X.K H a xs)(h':SqL X.K H a ys):xs=ys:=by
 let(Z7,r,(o,n,e,_,_,d),_):=I.list h
 let(its',r',(o',n',e',_,_,d'),_):=I.list h'
 rw[e] at e';cases e'
 rw[d] at d'
 injection d' with d1 _
 have:Z7=its':=by simpa using congrArg lj d1
 subst this
 exact r.inj r'
def Inv.tuple_inj (I:Inv X Z9 σ H s)(h:SqT X.K H a xs)(h':SqT X.K H a ys):xs=ys:=by
 let(Z7,r,(o,e,_,n,d),_):=I.tuple h
 let(its',r',(o',e',_,n',d'),_):=I.tuple h'
 rw[e] at e';cases e'
 rw[d] at d'
 injection d' with d1 _
 have:Z7=its':=by simpa using congrArg lj d1
 subst this
 exact r.inj r'
end
noncomputable abbrev Cx.wish (X:Cx)(E:nE->nh->Prop):Cx:={ X with xe:=E }
noncomputable abbrev Cx.nox (X:Cx):Cx:=X.wish λ_ _=>False
def Cx.Ok.wish {X:Cx}(ok:X.Ok)(E:nE->nh->Prop):(X.wish E).Ok :=
 ⟨ok.mod,ok.kind,ok.glob,ok.blt,ok.above,ok.inj,ok.has,ok.cab,ok.hd,ok.frames,ok.stk,ok.exf,ok.bs,ok.bsz,ok.noex,ok.exfs,ok.funs,ok.frf⟩
def Cx.Ok.unwish {X:Cx}{E:nE->nh->Prop}(ok:(X.wish E).Ok):X.Ok :=
 ⟨ok.mod,ok.kind,ok.glob,ok.blt,ok.above,ok.inj,ok.has,ok.cab,ok.hd,ok.frames,ok.stk,ok.exf,ok.bs,ok.bsz,ok.noex,ok.exfs,ok.funs,ok.frf⟩
section
variable {X:Cx}{Z9:List (nP×Obj)}{σ:St}{H:Hp}{s:nh}{E:nE->nh->Prop}
def Inv.wish (I:Inv X Z9 σ H s)(E:nE->nh->Prop):Inv (X.wish E) Z9 σ H s:=⟨I.ok.wish E,I.os,I.bare,I.base,I.loc,I.cell,I.free,I.freeC,I.pin,I.hok,I.len⟩
def Inv.unwish (I:Inv (X.wish E) Z9 σ H s):Inv X Z9 σ H s:=⟨I.ok.unwish,I.os,I.bare,I.base,I.loc,I.cell,I.free,I.freeC,I.pin,I.hok,I.len⟩
def SP.unwish {D:Ends}{f:Flow}{s':nh}(h:SP (X.wish E) Z9 D f s'):SP X Z9 D f s':=by
 cases f with
 | next=>let(σ',H',I,q):=h;exact⟨σ',H',I.unwish,q⟩
 | brk=>let(σ',H',I,q):=h;exact⟨σ',H',I.unwish,q⟩
 | cont=>let(σ',H',I,q):=h;exact⟨σ',H',I.unwish,q⟩
 | ret u=>let(v,σ',H',I,r,q):=h;exact⟨v,σ',H',I.unwish,r,q⟩
def PSs.nox {st:List nL}{t:TS}(h:PSs X.nox st t):PSs X st t:=λZ9 s σ H D I hw =>
 lQ (h Z9 s σ H D (I.wish _) hw) (λ_ _ q=>q.unwish) λ_ _ z=>mw z
end
section
variable {X:Cx}{st:nL}{rest:List nL}{t u:TS}{e:Expr}{te:TE}{pos:Pos}
abbrev KW:TS:=λD σ H=>D.nx σ H
abbrev OF (t u:TS):TS:=λD σ H=>t { D with nx:=u D } σ H
def EU:PSs X [] KW:=λ_ _ σ H _ I h=>gZ ⟨σ,H,I,h⟩
def C1 (h1:PS X st t)(h2:PSs X rest u):PSs X (st :: rest) (OF t u):=by
 intro Z9 s σ H D I h
 exact fT (oX (h1 Z9 s σ H { D with nx:=u D } I h) λf s1 q=>?_)
 cases f with
 | next =>
  let(σ',H',I',q):=q
  exact h2 Z9 s1 σ' H' D I' q
 | ret v=>exact q
 | brk=>exact q
 | cont=>exact q
def ET (h1:PS X st t):PSs X [st] t:=by
 intro Z9 s σ H D I h
 exact fT (oX (h1 Z9 s σ H D I h) λf s1 q=>?_)
 cases f with
 | next=>exact gZ q
 | ret v=>exact q
 | brk=>exact q
 | cont=>exact q
def Inv.quiet {Z9:List (nP×Obj)}{σ:St}{H:Hp}{s:nh}(I:Inv X Z9 σ H s):interactive X.env=Ξ:=by simp[interactive,I.ok.kind]
abbrev KY (te:TE):TS:=λD σ H=>te σ H λ_ H1=>D.nx σ H1
def EY (he:PE X e te)(hs:swapsWith e Φ pos.line X.env=pure Ξ:=by rfl):PS X (.Expr e pos) (KY te):=by
 intro Z9 s σ H D I h
 exact wpAny_Expr_any (oX (he Z9 s σ H _ I h) λv s1 q1=>by let(x,H1,I1,r1,q1):=q1;exact⟨σ,H1,I1,q1⟩) I.quiet hs
abbrev OG (te:TE):TS:=λD σ H=>te σ H D.rt
def zu (he:PE X e te):PS X (.Return (Ψ e) pos) (OG te):=by
 intro Z9 s σ H D I h
 exact wpAny_Return_some (oX (he Z9 s σ H _ I h) λv s1 q1=>by let(x,H1,I1,r1,q1):=q1;exact⟨x,σ,H1,I1,r1,q1⟩)
abbrev OK (c:TT)(t u:TS):TS:=λD σ H=>c σ H λb H1=>if b=Ω then t D σ H1 else u D σ H1
def Lu {c:Expr}{a b:List nL}{tc:TT}(hc:PT X c tc)(ha:PSs X a t)(hb:PSs X b u):PS X (.If c a b pos) (OK tc t u):=by
 intro Z9 s σ H D I h
 exact wpAny_If (oX (hc Z9 s σ H _ I h) λd s1 ⟨H1,I1,q1⟩=>?_)
 cases d with
 | true=>exact ha Z9 s1 σ H1 D I1 q1
 | false=>exact hb Z9 s1 σ H1 D I1 q1
end
noncomputable abbrev TG:=V->St->Hp->(St->Hp->Prop)->Prop
noncomputable abbrev Ke:=List V->St->Hp->(St->Hp->Prop)->Prop
abbrev PG (X:Cx)(Z1:Expr)(t:TG):Prop :=
 ∀ (Z9:List (nP×Obj))(s:nh)(σ:St)(H:Hp)(v:V)(u:nE)(Q:St->Hp->Prop),Inv X Z9 σ H s->RelV v u->t v σ H Q ->
  wpAny (model X.prog X.w) X.A (assign Z1 X.env u) (λ_ s'=>∃ σ' H',Inv X Z9 σ' H' s'/\Q σ' H') X.xe s
abbrev MV (X:Cx)(ts:List Expr)(t:Ke):Prop :=
 ∀ (Z9:List (nP×Obj))(s:nh)(σ:St)(H:Hp)(vs:List V)(us:List nE)(Q:St->Hp->Prop),Inv X Z9 σ H s->Vals vs us->t vs σ H Q ->
  wpAny (model X.prog X.w) X.A (assignInOrder ((assignEach ts X.env).map (·.2)) us) (λ_ s'=>∃ σ' H',Inv X Z9 σ' H' s'/\Q σ' H') X.xe s
noncomputable abbrev Kd:=V->V->V->Hp->(Hp->Prop)->Prop
abbrev MU (X:Cx)(t:Kd):Prop :=
 ∀ (Z9:List (nP×Obj))(s:nh)(σ:St)(H:Hp)(o i v:V)(ov iv u:nE)(Q:Hp->Prop),Inv X Z9 σ H s->RelV o ov->RelV i iv->RelV v u->t o i v H Q ->
  wpAny (model X.prog X.w) X.A (setItem ov iv u) (λ_ s'=>∃ H',Inv X Z9 σ H' s'/\Q H') X.xe s
noncomputable abbrev Sl:=V->V->Hp->VK->Prop
abbrev Ow (X:Cx)(op:mR)(t:Sl):Prop :=
 ∀ (Z9:List (nP×Obj))(s:nh)(σ:St)(H:Hp)(x y:V)(v u:nE)(Q:VK),Inv X Z9 σ H s->RelV x v->RelV y u->t x y H Q ->
  wpAny (model X.prog X.w) X.A (inplaceOp op v u) (EP X Z9 σ Q) X.xe s
section
variable {X:Cx}{pos:Pos}
abbrev rm (i:Nat):TG:=λv σ H Q=>Q (σ.set i (Ψ v)) H
def E8 {i:Nat}{x:Str}(hN:X.N.Nodup)(hi:X.N[i]?=Ψ x)(hx:Loc X.env.scope x)(hf:X.fn x=Ω ∨ X.env.scope.names.lookup x=Ψ .local:=by first|exact .inl rfl|exact .inr rfl|assumption):PG X (.Name x pos) (rm i):=by
 intro Z9 s σ H v u Q I r h
 exact eP (qq I hN hi hx r (λs' I'=>⟨_,H,I',h⟩) hf)
abbrev IK:Ke:=λvs σ H Q=>vs=[]/\Q σ H
inductive gCons (t:TG)(u:Ke)(vs:List V)(σ:L2.St)(H:Hp)(Q:(L2.St->Hp->Prop)):Prop
 | mk (v:_)(r:_)(_:vs=v :: r)(_:t v σ H λσ' H'=>u r σ' H' Q):gCons t u vs σ H Q
def E7:MV X [] IK:=by
 intro Z9 s σ H vs us Q I r h
 let(e,h):=h
 subst e
 cases r
 exact eS ⟨σ,H,I,h⟩
def C8 {e:Expr}{es:List Expr}{t:TG}{u:Ke}(h1:PG X e t)(h2:MV X es u)
  (hs:(assignEach (e :: es) X.env).map (·.2)=assign e X.env :: (assignEach es X.env).map (·.2):=by rfl):MV X (e :: es) (gCons t u):=by
 intro Z9 s σ H vs us Q I r h
 let(v,vr,e1,h):=h
 subst e1
 cases r with
 | cons r rr =>
  rw[hs]
  exact dz (oX (h1 Z9 s σ H _ _ _ I r h) λ_ s1 ⟨σ1,H1,I1,q1⟩=>?_)
  exact h2 Z9 s1 σ1 H1 _ _ Q I1 rr q1
inductive gTup (K:kP) (n:Nat)(t:Ke)(v:V)(σ:L2.St)(H:Hp)(Q:(L2.St->Hp->Prop)):Prop
 | mk (a:_)(xs:_)(_:v=.ref a)(_:SqT K H a xs)(_:xs.length=n)(_:t xs σ H Q):gTup K n t v σ H Q
def Hz {es:List Expr}{k:Nat}{t:Ke}{n:Nat}(hc:X.calm=Ω)(h:MV X es t)
  (hn:(assignEach es X.env).length=n:=by rfl)(hst:(assignEach es X.env).findIdx? (·.1)=Φ:=by rfl):PG X (.Tuple es k pos) (gTup X.K n t):=by
 intro Z9 s σ H v u Q I r hw
 let(a,xs,e1,hq,hl,hw):=hw
 subst e1
 cases r
 let(Z7,rv,ht,hz):=I.tuple hq
 exact assign_Tuple_tuple (I.ok.hd hc) ht (by simp[hn,<- hl,rv.length]) hst λh' hx=>?_
 let I1:Inv X Z9 σ H { s with heap:=h' }:=I.kept (t':=s.toks) λb o e=>hx b o (kU (lg e)) e
 exact h Z9 _ σ H xs _ Q I1 (by simpa using rv) hw
abbrev Pn (to ti:TE)(t:Kd):TG:=λv σ H Q=>to σ H λo H1=>ti σ H1 λi H2=>t o i v H2 λH3=>Q σ H3
def HC {o i:Expr}{to ti:TE}{t:Kd}(ho:PE X o to)(hi:PE X i ti)(hs:MU X t)
  (ha:∀ v,assign (.Subscript o i pos) X.env v=(do
   let ov <- holding [v] (eval o X.env)
   let iv <- holding [v,ov] (eval i X.env)
   standAt pos
   holding [v,ov,iv] (setItem ov iv v)
   release [v,ov,iv] []):=by intro _;rfl):PG X (.Subscript o i pos) (Pn to ti t):=by
 intro Z9 s σ H v u Q I r h
 rw[ha]
 exact lR (jI (oX (ho Z9 s σ H _ I h) λov s1 ⟨x,H1,I1,r1,q1⟩=>?_))
 exact lR (jI (oX (hi Z9 s1 σ H1 _ I1 q1) λiv s2 ⟨y,H2,I2,r2,q2⟩=>?_))
 exact lR (jF (lR (jI (oX (hs Z9 s2 σ H2 x y v ov iv u _ I2 r1 r2 r q2) λ_ s3 ⟨H3,I3,q3⟩=>?_))))
 exact wpAny_release ⟨σ,H3,I3,q3⟩
abbrev vH (te:TE)(g:TG):TS:=λD σ H=>te σ H λx H1=>g x σ H1 D.nx
def zw {tg e:Expr}{te:TE}{g:TG}(he:PE X e te)(hg:PG X tg g)(hs:swapsWithSole [tg] e pos.line X.env=pure Ξ:=by rfl)(hw:swappedStores [tg] e X.env=pure Φ:=by rfl)
  (h1:(assignEach [tg] X.env).map (·.2)=[assign tg X.env]:=by rfl):PS X (.Assign [tg] e pos) (vH te g):=by
 intro Z9 s σ H D I h
 exact wpAny_Assign_stores (oX (he Z9 s σ H _ I h) λv s1 ⟨x,H1,I1,r1,q1⟩=>?_) hs hw
 rw[h1]
 exact oX (hg Z9 s1 σ H1 x v _ I1 r1 q1) λ_ s2 q=>q
def Hv {i:Nat}{x:Str}{e:Expr}{te:TE}{pos':Pos}(hN:X.N.Nodup)(hi:X.N[i]?=Ψ x)(hx:Loc X.env.scope x)(he:PE X e te)(hs:swapsWith e (Ψ (.Name x pos')) pos.line X.env=pure Ξ:=by rfl)(hf:X.fn x=Ω ∨ X.env.scope.names.lookup x=Ψ .local:=by first|exact .inl rfl|exact .inr rfl|assumption) :
  PS X (.Assign [.Name x pos'] e pos) (vH te (rm i)):=by
 intro Z9 s σ H D I h
 exact wpAny_Assign_Name (oX (he Z9 s σ H _ I h) λv s1 ⟨y,H1,I1,r1,q1⟩=>?_) hs
 exact qq I1 hN hi hx r1 (λs2 I2=>⟨_,H1,I2,q1⟩) hf
abbrev KQ (i j:Nat)(ta:TA):TS:=λD σ H=>ta σ H λvs H1=>∃ v w,vs=[v,w]/\D.nx ((σ.set i (Ψ v)).set j (Ψ w)) H1
def Hw {i j:Nat}{x y:Str}{a b:Expr}{ta:TA}{px py pt:Pos} {kt k2 pt2}(hc:X.calm=Ω)(hN:X.N.Nodup)(hi:X.N[i]?=Ψ x)(hj:X.N[j]?=Ψ y)(hij:i≠j)
  (hx:X.env.scope.names.lookup x=Ψ .local)(hy:X.env.scope.names.lookup y=Ψ .local)(ha:PA X [a,b] ta)
  (hw:swappedStores [.Tuple [.Name x px,.Name y py] kt pt] (.Tuple [a,b] k2 pt2) X.env=pure (Ψ [x,y]))
  (hs:swapsWithSole [.Tuple [.Name x px,.Name y py] kt pt] (.Tuple [a,b] k2 pt2) pos.line X.env=pure Ξ:=by rfl) :
  PS X (.Assign [.Tuple [.Name x px,.Name y py] kt pt] (.Tuple [a,b] k2 pt2) pos) (KQ i j ta):=by
 intro Z9 s σ H D I h
 rw[ib]
 exact lR (jF ?_)
 rw[hs]
 exact lR (lP ?_)
 rw[if_neg (·)]
 exact lR (Tuple_ (oX (ha _ Z9 s σ H _ I h) λus s1 ⟨vs,H1,I1,r1,q1⟩=>?_))
 let(v,w,e1,q1):=q1
 subst e1
 obtain⟨u1,u2,rfl,rv,rw'⟩:∃ u1 u2,us=[u1,u2]/\RelV v u1/\RelV w u2:=by
  cases r1 with
  | cons p q =>
   cases q with
   | cons p' q' =>
    cases q'
    exact⟨_,_,rfl,p,p'⟩
 exact eM ?_ (by show 2<=sizeLine;decide)
 let I2:Inv X Z9 σ H1 { s1 with heap:=s1.heap.push { cls:=.type "tuple",data:=.seq [u1,u2].toArray } }:=I1.kept (t':=s1.toks) λb o e=>bS _ e
 rw[hw]
 exact lR (lP ?_)
 show wpAny (model X.prog X.w) X.A (do rule "assign.swapped-stores";let items <- unpackItems (.ref s1.heap.objs.size) 2 Φ;assignInOrder [λv=>bindName X.env y v,λv=>bindName X.env x v] items.reverse;pure Flow.next) _ _ _
 exact lR (lO (lR (eQ (items:=#[u1,u2]) (I.ok.hd hc) (mD s1.heap _) λh' hx'=>?_)))
 let I3:=I2.kept (h':=h') (t':=s1.toks) λb o e=>hx' b o (kU (lg e)) e
 show wpAny _ _ (assignInOrder [λv=>bindName X.env y v,λv=>bindName X.env x v] [u2,u1] >>= λ_=>pure Flow.next) _ _ _
 exact lR (dz (i9 (qq I3 hN hj (.inl hy) rw' (λs2 I4=>?_) (.inr hy))))
 exact dz (i9 (qq I4 hN hi (.inl hx) rv (λs3 I5=>eS (lP ?_)) (.inr hx)))
 rw[ki _ _ (mZ hij)] at I5
 exact⟨_,H1,I5,q1⟩
inductive tAug (i:Nat)(te:TE)(ti:Sl)(D:Ends)(σ:L2.St)(H:Hp):Prop
 | mk (x:_)(_:σ[i]?=Ψ (Ψ x))(_:te σ H λy H1=>ti x y H1 λz H2=>D.nx (σ.set i (Ψ z)) H2):tAug i te ti D σ H
def C3 {i:Nat}{x:Str}{e:Expr}{te:TE}{op:mR}{ti:Sl}{pos':Pos}(hN:X.N.Nodup)(hi:X.N[i]?=Ψ x)(hx:Loc X.env.scope x)(he:PE X e te)(ho:Ow X op ti)(hf:X.fn x=Ω ∨ X.env.scope.names.lookup x=Ψ .local:=by first|exact .inl rfl|exact .inr rfl|assumption) :
  PS X (.AugAssign (.Name x pos') op e pos) (tAug i te ti):=by
 intro Z9 s σ H D I h
 let(v,e1,h):=h
 let(m,hn,hl):=I.loc
 let vis:KE X.env.scope x:=by rcases hx with k|k;exact .inl k;exact .inr (.inl k)
 let(u,r,l):=hl i x v hi e1 vis
 exact wpAny_AugAssign_Name ?_
 let go:wpAny (model X.prog X.w) X.A (eval e X.env) (λw s₂=>wpAny (model X.prog X.w) X.A (inplaceOp op u w) (λr s₃=>wpAny (model X.prog X.w) X.A (storeName X.env x r) (λ_=>SP X Z9 D .next) X.xe s₃) X.xe s₂) X.xe s:=by
  exact oX (he Z9 s σ H _ I h) λw s1 q1=>?_;let(y,H1,I1,r1,q1):=q1
  exact oX (ho Z9 s1 σ H1 v y u w _ I1 r r1 q1) λz s2 q2=>?_;let(zv,H2,I2,r2,q2):=q2
  exact qq I2 hN hi hx r2 (λs3 I3=>⟨_,H2,I3,q2⟩) hf
 rcases l with⟨hk,hm⟩|⟨hk,c,hc,hcell⟩
 ·exact cC I.ok.kind hk hn hm go
 ·rcases hk with hk|hk
  ·exact cT I.ok.kind hk hc hcell go
  ·rcases hx with k|k
   ·have:X.env.scope.names.lookup x=Ψ .free:=hk
    rw[k] at this;cases this
   ·have:X.env.scope.names.lookup x=Ψ .free:=hk
    rw[k] at this;cases this
inductive ipI (f:Int->Int->Int)(x:V)(y:V)(H:Hp)(Q:VK):Prop
 | mk (i:_)(j:_)(_:x=.int i)(_:y=.int j)(_:Q (.int (f i j)) H):ipI f x y H Q
def IC:Ow X .Add (ipI λi j=>i+j):=by
 intro Z9 s σ H x y v u Q I r1 r2 h
 let(i,j,e1,e2,q):=h
 subst e1;subst e2
 let(t,rfl):=r1
 let(t',rfl):=r2
 exact iadd_int ⟨.int _,H,I.tok _,⟨_,rfl⟩,q⟩
def IB:Ow X .Sub (ipI λi j=>i-j):=by
 intro Z9 s σ H x y v u Q I r1 r2 h
 let(i,j,e1,e2,q):=h
 subst e1;subst e2
 let(t,rfl):=r1
 let(t',rfl):=r2
 exact isub_int ⟨.int _,H,I.tok _,⟨_,rfl⟩,q⟩
end
section
variable {X:Cx}{pos:Pos}
inductive tWhile (c:TT)(tb:TS)(D:Ends)(σ:L2.St)(H:Hp):Prop
 | mk (W:Nat->St->Hp->Prop)(_:(∃ m,W m σ H))(_:∀ m σ H,W m σ H->c σ H λb H1=>if b=Ω then ∃ N:St->Hp->Prop,(∀ σ' H',N σ' H'->∃ m',m'<m/\W m' σ' H')/\tb { D with nx:=N,ct:=N,bk:=D.nx } σ H1 else D.nx σ H1):tWhile c tb D σ H
def C2 {c:Expr}{body:List nL}{tc:TT}{tb:TS}(hp:PassesOwn (model X.prog X.w) X.A X.env X.xe)(hc:PT X c tc)(hb:PSs X body tb):PS X (.While c body [] pos) (tWhile tc tb):=by
 intro Z9 s σ H D I h
 let(W,(m0,w0),turn):=h
 exact wpAny_While (codeAny_whileLoop (λn s'=>∃ σ' H',Inv X Z9 σ' H' s'/\W n σ' H') ?_ m0 ⟨σ,H,I,w0⟩)
 rintro n s1 ⟨σ1,H1,I1,w1⟩
 exact gX hp (oX (hc Z9 s1 σ1 H1 _ I1 (turn n σ1 H1 w1)) λb s2 ⟨H2,I2,q2⟩=>?_)
 cases b with
 | true =>
  let(N,hN,q2):=q2
  rw[if_pos rfl]
  exact gX hp (oX (hb Z9 s2 σ1 H2 _ I2 q2) λf s3 q3=>?_)
  cases f with
  | next =>
   let(σ3,H3,I3,n3):=q3
   let(m',hm,w3):=hN σ3 H3 n3
   exact⟨m',hm,σ3,H3,I3,w3⟩
  | cont =>
   let(σ3,H3,I3,n3):=q3
   let(m',hm,w3):=hN σ3 H3 n3
   exact⟨m',hm,σ3,H3,I3,w3⟩
  | brk=>exact q3
  | ret v=>exact q3
 | false =>
  rw[if_neg dY]
  exact gZ ⟨σ1,H2,I2,q2⟩
end
structure It where
 go:Nat->Hp->Prop
 yld:Nat->Hp->V->Hp->Prop
 stop:Nat->Hp->Prop
abbrev uo (X:Cx)(Z9:List (nP×Obj))(H:Hp)(b:nP):Prop :=
 H b=Φ/\b≠X.env.locals/\b ∉ X.fs/\(b∈X.ex ∨ X.s₀.heap.objs.size<=b)/\(∀ x c,X.env.cells.lookup x=Ψ c->c≠b)/\∀ p∈X.pn++Z9,p.1≠b
def Inv.fpOk {X:Cx}{Z9:List (nP×Obj)}{σ:St}{H H':Hp}{s:nh}{b:nP}(I:Inv X Z9 σ H s)(hb:s.heap.objs.size<=b)(hn:H' b=Φ):uo X Z9 H' b:=by
 exact⟨hn,kW (dH I.lt hb),I.nofs hb,.inr (kX I.sz hb),λx c e z=>?_,λp hp z=>?_⟩
 ·let(v,q):=I.cell x c e
  exact absurd (dH q.lt (by rw[z];exact hb)) (j9 _)
 ·exact absurd (dH (lg (I.pin p hp).1) (by rw[z];exact hb)) (j9 _)
structure Turn (P:mX)(w:nC)(K:kP)(tg:Expr)(J:It)(fp:List nP)(it:nP)(tn:Nat->nM->Prop):Prop where
 mem:it∈fp
 obj:∀ i h,tn i h->∀ b∈fp,∃ o,h.get? b=Ψ o/\∀ v,o.data≠.cell v
 keep:∀ i h h',tn i h->(∀ b∈fp,∀ o,h.get? b=Ψ o->h'.get? b=Ψ o)->tn i h'
 item:∀ (X:Cx),X.prog=P->X.w=w->X.K=K->X.calm=Ω->∀ (i:Nat)(Z9:List (nP×Obj))(s:nh)(σ:St)(H:Hp)(E:nE->nh->Prop),Inv X Z9 σ H s->(∀ b∈fp,uo X Z9 H b)->tn i s.heap->J.go i H ->
  wpAny (model P w) X.A (pyNext (.ref it)) (λr s1=>∃ u,r=Ψ u /\
   wpAny (model P w) X.A (letOwnedTupleGo tg (.ref it) u) (λ_ s2=>∃ x H',Inv X Z9 σ H' s2/\RelV x u/\J.yld i H x H'/\tn (i+1) s2.heap/\∀ b∈fp,H' b=Φ) E s1) E s
 done:∀ (X:Cx),X.prog=P->X.w=w->X.K=K->X.calm=Ω->∀ (i:Nat)(Z9:List (nP×Obj))(s:nh)(σ:St)(H:Hp)(E:nE->nh->Prop),Inv X Z9 σ H s->(∀ b∈fp,uo X Z9 H b)->tn i s.heap->J.stop i H ->
  wpAny (model P w) X.A (pyNext (.ref it)) (λr s1=>r=Φ/\Inv X Z9 σ H s1) E s
 self:∀ (A:nB) (i:Nat)(s:nh)(Q:nE->nh->Prop)(E:nE->nh->Prop),tn i s.heap->Q (.ref it) s->wpAny (model P w) A (pyIter (.ref it)) Q E s
noncomputable abbrev TI:=St->Hp->(It->Hp->Prop)->Prop
inductive PIE (X:Cx)(Z9:List (nP×Obj))(σ:St)(tg:Expr)(R:It->Hp->Prop)(itv:nE)(s2:nh):Prop
 | mk (it:nP)(fp:List nP)(tn:Nat->nM->Prop)(J:It)(H':Hp)(_:itv=.ref it)(_:Inv X Z9 σ H' s2)(_:Turn X.prog X.w X.K tg J fp it tn)(_:tn 0 s2.heap)(_:(∀ b∈fp,uo X Z9 H' b))(_:R J H'):PIE X Z9 σ tg R itv s2
abbrev PI (X:Cx)(tg Z5:Expr)(wi:TI):Prop :=
 ∀ (Z9:List (nP×Obj))(s:nh)(σ:St)(H:Hp)(R:It->Hp->Prop),Inv X Z9 σ H s->wi σ H R ->
  wpAny (model X.prog X.w) X.A (eval Z5 X.env) (λv s1=>wpAny (model X.prog X.w) X.A (pyIter v) (PIE X Z9 σ tg R) X.xe s1) X.xe s
def A1 {M : nG} {A : nB} {E : nE -> nh -> Prop} {s : nh} {tg : Expr} {it : nP} {u : nE} {o : Obj} {n : String} {vs : Array nE} {Q : Unit -> nh -> Prop} (ho : s.heap.get? it = Ψ o) (hc : o.cls = .type n) (hd : o.data = .fields vs)
    (hn:["enumerate","zip","dict_itemiterator","dict_reverseitemiterator","odict_iterator","itertools.zip_longest","itertools.pairwise"].contains n=Ξ) (hQ:Q () s):wpAny M A (letOwnedTupleGo tg (.ref it) u) Q E s:=by
  unfold letOwnedTupleGo
  cases tg<;>first
    | exact lP hQ
    | (cases u <;> first
        | exact lP hQ
        | (exact lR (wpAny_load ho ?_)
           rw [hc, hd]
           show wpAny M A (if (["enumerate", "zip", "dict_itemiterator", "dict_reverseitemiterator", "odict_iterator", "itertools.zip_longest", "itertools.pairwise"].contains n && vs[0]? == Ψ (rawInt _)) = Ω then _ else _) Q E s
           rw [if_neg (by intro h; rw [hn, Bool.false_and] at h; cases h)]
           exact lP hQ))
abbrev Itl (K:kP)(a:nP):It :=
 ⟨λi H=>∃ xs x,SqL K H a xs/\xs[i]?=Ψ x,λi H x H'=>H'=H/\∀ xs,SqL K H a xs->xs[i]?=Ψ x,λi H=>∃ xs,SqL K H a xs/\xs.length<=i⟩
abbrev Itt (K:kP)(a:nP):It :=
 ⟨λi H=>∃ xs x,SqT K H a xs/\xs[i]?=Ψ x,λi H x H'=>H'=H/\∀ xs,SqT K H a xs->xs[i]?=Ψ x,λi H=>∃ xs,SqT K H a xs/\xs.length<=i⟩
abbrev MY (lo:Int) (n:Nat):It:=⟨λi _=>i<n,λi H x H'=>H'=H/\x=.int (lo+i),λi _=>n<=i⟩
def Bw {P:mX}{w:nC}{K:kP}{tg:Expr}(a it:nP):Turn P w K tg (Itl K a) [it] it (λi h=>h.IsListIter it a i) where
 mem:=∅
 obj:=λi h st b hb=>by
  let e:b=it:=by simpa using hb
  subst e
  let(o,e,c,d):=st
  exact⟨o,e,λv z=>by rw[d] at z;cases z⟩
 keep:=λi h h' st k=>st.at λo e=>k it ∅ o e
 item:=by
  intro X hP hw hK hc i Z9 s σ H E I hf st hg
  subst hP hw hK
  let(xs,x,hq,hx):=hg
  let(Z7,rv,p,hz):=I.list hq
  let(u,hu,ru):=rv.get hx
  let(f0,f1,f2,f3,f4,f5):=hf it ∅
  exact wpAny_pyNext_list_item st p.isList (x:=u) (by simpa using hu) λh' st' sb=>?_
  let I1:Inv X Z9 σ H { s with heap:=h' }:=I.turned (t':=s.toks) (λb o hb e=>(sb.2 b hb).trans e) f0 f1 f3 f4 f5
  let(o,e,c,d):=id st'
  exact⟨u,rfl,A1 (s:={ s with heap:=h' }) e c d (·) ⟨x,H,I1,ru,⟨rfl,λys hy=>by rw[I.list_inj hy hq];exact hx⟩,st',λb hb=>(hf b hb).1⟩⟩
 done:=by
  intro X hP hw hK hc i Z9 s σ H E I hf st hg
  subst hP hw hK
  let(xs,hq,hx):=hg
  let(Z7,rv,p,hz):=I.list hq
  let(f0,f1,f2,f3,f4,f5):=hf it ∅
  let hl:=rv.length
  exact wpAny_pyNext_list_end (I.ok.hd hc) st p.isList (by simp;lia) λh' eb=>⟨rfl,I.turned (t':=s.toks) (λb o hb e=>eb b o hb e) f0 f1 f3 f4 f5⟩
 self:=λ_ _ _ _ _ st h=>wpAny_pyIter_listiter st h
def za {P:mX}{w:nC}{K:kP}{tg:Expr}(a it:nP):Turn P w K tg (Itt K a) [it] it (λi h=>h.IsTupleIter it a i) where
 mem:=∅
 obj:=λi h st b hb=>by
  let e:b=it:=by simpa using hb
  subst e
  let(o,e,c,d):=st
  exact⟨o,e,λv z=>by rw[d] at z;cases z⟩
 keep:=λi h h' st k=>st.at λo e=>k it ∅ o e
 item:=by
  intro X hP hw hK hc i Z9 s σ H E I hf st hg
  subst hP hw hK
  let(xs,x,hq,hx):=hg
  let(Z7,rv,p,hz):=I.tuple hq
  let(u,hu,ru):=rv.get hx
  let(f0,f1,f2,f3,f4,f5):=hf it ∅
  exact wpAny_pyNext_tuple_item st (show s.heap.IsTuple a Z7.toArray from p) (x:=u) (by simpa using hu) λh' st' sb=>?_
  let I1:Inv X Z9 σ H { s with heap:=h' }:=I.turned (t':=s.toks) (λb o hb e=>(sb.2 b hb).trans e) f0 f1 f3 f4 f5
  let(o,e,c,d):=id st'
  exact⟨u,rfl,A1 (s:={ s with heap:=h' }) e c d (·) ⟨x,H,I1,ru,⟨rfl,λys hy=>by rw[I.tuple_inj hy hq];exact hx⟩,st',λb hb=>(hf b hb).1⟩⟩
 done:=by
  intro X hP hw hK hc i Z9 s σ H E I hf st hg
  subst hP hw hK
  let(xs,hq,hx):=hg
  let(Z7,rv,p,hz):=I.tuple hq
  let(f0,f1,f2,f3,f4,f5):=hf it ∅
  let hl:=rv.length
  exact wpAny_pyNext_tuple_end (I.ok.hd hc) st (show s.heap.IsTuple a Z7.toArray from p) (by simp;lia) λh' eb=>⟨rfl,I.turned (t':=s.toks) (λb o hb e=>eb b o hb e) f0 f1 f3 f4 f5⟩
 self:=λ_ _ _ _ _ st h=>wpAny_pyIter_tupleiter st h
def zb {P:mX}{w:nC}{K:kP}{tg:Expr}(it:nP) (lo:Int) (n:Nat):Turn P w K tg (MY lo n) [it] it (λi h=>IsRangeIter h it (lo+(i:Nat)*1) ((n:Int)-(i:Nat)) 1) where
 mem:=∅
 obj:=λi h st b hb=>by
  let e:b=it:=by simpa using hb
  subst e
  exact⟨_,st,λv z=>by
   let z':Data.fields _=Data.cell v:=z
   cases z'⟩
 keep:=λi h h' st k=>k it ∅ _ st
 item:=by
  intro X hP hw hK hc i Z9 s σ H E I hf st hg
  subst hP hw hK
  let(f0,f1,f2,f3,f4,f5):=hf it ∅
  let W:=Walks.range (prog:=X.prog) (w:=X.w) (I.ok.hd hc) it lo 1 n
  exact W.item i s _ _ hg st λv h' tk hv st' kk=>?_
  let(t,rfl):=hv
  let I1:Inv X Z9 σ H { s with heap:=h',toks:=tk }:=I.turned (λb o hb e=>kk b o (by simpa using hb) e) f0 f1 f3 f4 f5
  exact⟨_,rfl,A1 (s:={ s with heap:=h',toks:=tk }) (n:="range_iterator") st' rfl rfl (·) ⟨.int (lo+i),H,I1,⟨t,?_⟩,⟨rfl,rfl⟩,st',λb hb=>(hf b hb).1⟩⟩
  rw[Int.mul_one]
 done:=by
  intro X hP hw hK hc i Z9 s σ H E I hf st hg
  subst hP hw hK
  let(f0,f1,f2,f3,f4,f5):=hf it ∅
  exact wpAny_pyNext_range_end (I.ok.hd hc) st (by have:n<=i:=hg;lia) λh' eb=>⟨rfl,I.turned (t':=s.toks) (λb o hb e=>eb b o hb e) f0 f1 f3 f4 f5⟩
 self:=λ_ _ _ _ _ st h=>wpAny_pyIter_rangeiter st h
section
variable {X:Cx}{tg:Expr}
def xY {Z9:List (nP×Obj)}{σ:St}{H:Hp}{s:nh}{R:It->Hp->Prop}{E:nE->nh->Prop}{lo hi:Int}{t u v:Tok}{tk:Nat}(I:Inv X Z9 σ H s)(h1:-(2 ^ 62)<=lo)(h2:lo<2 ^ 62)(h3:-(2 ^ 62)<=hi)(h4:hi<2 ^ 62)
  (q:R (MY lo (hi-lo).toNat) H):wpAny (model X.prog X.w) X.A (pyIter (.ref s.heap.objs.size)) (PIE X Z9 σ tg R) E { s with heap:=s.heap.push { cls:=.type "range",data:=.fields #[.int lo t,.int hi u,.int 1 v] },toks:=tk }:=by
 exact wpAny_pyIter_range (IsRange.new ..) (small_one h1 h2 h3 h4) ?_
 let I1:Inv X Z9 σ H { s with heap:=s.heap.push { cls:=.type "range",data:=.fields #[.int lo t,.int hi u,.int 1 v] },toks:=tk }:=I.kept λb o e=>bS _ e
 refine⟨(s.heap.push { cls:=.type "range",data:=.fields #[.int lo t,.int hi u,.int 1 v] }).objs.size,[(s.heap.push { cls:=.type "range",data:=.fields #[.int lo t,.int hi u,.int 1 v] }).objs.size],_,_,H,rfl,
  I1.kept (t':=tk) λb o e=>bS _ e,zb _ lo (hi-lo).toNat,?_,λb hb=>?_,q⟩
 ·let e1:lo+((0:Nat):Int)*1=lo:=by simp
  let e2:(((hi-lo).toNat:Nat):Int)-((0:Nat):Int)=Builtin.Range.rangeSize lo hi 1:=by rw[rangeSize_one];split<;>lia
  show IsRangeIter _ _ (lo+((0:Nat):Int)*1) ((((hi-lo).toNat:Nat):Int)-((0:Nat):Int)) 1
  rw[e1,e2]
  exact dc _ rfl
 ·let e:b=(s.heap.push { cls:=.type "range",data:=.fields #[.int lo t,.int hi u,.int 1 v] }).objs.size:=by simpa using hb
  subst e
  exact I1.fpOk (lJ _) (I1.hok.fresh (lJ _))
abbrev LZ (ta:TA):TI:=λσ H R=>ta σ H λvs H1=>∃ j:Int,vs=[.int j]/\-(2 ^ 62)<=j/\j<2 ^ 62/\R (MY 0 j.toNat) H1
abbrev iRng2 (ta:TA):TI:=λσ H R=>ta σ H λvs H1=>∃ i j:Int,vs=[.int i,.int j]/\(-(2 ^ 62)<=i/\i<2 ^ 62/\-(2 ^ 62)<=j/\j<2 ^ 62)/\R (MY i (j-i).toNat) H1
def BG {a:Expr}{ta:TA}{p pos:Pos}(hg:Gl X "range")(hm:X.mg "range" = Φ)(ha:PA X [a] ta)(hs:starEach [a] X.env=[(Ξ,eval a X.env)]:=by rfl):PI X tg (.Call (.Name "range" p) [a] [] pos) (LZ ta):=by
 intro Z9 s σ H R I h
 exact Call_ (sS I hg hm boot_range (aw (oX (ha pos Z9 s σ H _ I h) λus s1 ⟨vs,H1,I1,r1,q1⟩=>?_) hs rfl))
 let(j,e,q1,q2,q):=q1
 subst e
 cases r1 with
 | cons r rr =>
  cases rr
  let(t,rfl):=r
  exact call_range_1 (xY I1 ⋯ ⋯ q1 q2 (by simpa using q))
def BF {a b:Expr}{ta:TA}{p pos:Pos}(hg:Gl X "range")(hm:X.mg "range" = Φ)(ha:PA X [a,b] ta)(hs:starEach [a,b] X.env=[(Ξ,eval a X.env),(Ξ,eval b X.env)]:=by rfl)(hs2:starEach [b] X.env=[(Ξ,eval b X.env)]:=by rfl) :
  PI X tg (.Call (.Name "range" p) [a,b] [] pos) (iRng2 ta):=by
 intro Z9 s σ H R I h
 exact Call_ (sS I hg hm boot_range (aw (oX (ha pos Z9 s σ H _ I h) λus s1 ⟨vs,H1,I1,r1,q1⟩=>?_) (by rw[hs,hs2]) (by rw[hs2];rfl)))
 let(i,j,e,(q1,q2,q3,q4),q):=q1
 subst e
 cases r1 with
 | cons r rr =>
  cases rr with
  | cons r' rr =>
   cases rr
   let(t,rfl):=r
   let(t',rfl):=r'
   exact call_range_2 (xY I1 q1 q2 q3 q4 q)
abbrev OL (wi:TI)(g:TG)(tb:TS):TS:=λD σ H=>wi σ H λJ H1=>∃ W:Nat->Nat->St->Hp->Prop,(∃ m,W 0 m σ H1)/\∀ i m σ H,W i m σ H ->
 (J.stop i H/\D.nx σ H) ∨ (J.go i H/\∃ N:St->Hp->Prop,(∀ σ' H',N σ' H'->∃ m',m'<m/\W (i+1) m' σ' H')/\∀ x H',J.yld i H x H'->g x σ H' λσ2 H2=>tb { D with nx:=N,ct:=N,bk:=D.nx } σ2 H2)
abbrev uV (fp:List nP)(h:nM):List (nP×Obj):=fp.filterMap λb=>(h.get? b).map λo=>(b,o)
def rF {fp:List nP}{h:nM}{b:nP}{o:Obj}(hb:b∈fp)(e:h.get? b=Ψ o):(b,o)∈uV fp h:=dN.mpr ⟨b,hb,by rw[e];rfl⟩
def BL {fp:List nP}{h:nM}{p:nP×Obj}(hp:p∈uV fp h):p.1∈fp/\h.get? p.1=Ψ p.2:=by
 let(b,hb,e):=dN.mp hp
 cases q:h.get? b with
 | none=>rw[q] at e;cases e
 | some o =>
  rw[q] at e
  let e':(b,o)=p:=ip e
  subst e'
  exact⟨hb,q⟩
def Inv.pinned {Z9:List (nP×Obj)}{σ:St}{H:Hp}{s:nh}{fp:List nP}(I:Inv X Z9 σ H s)(hf:∀ b∈fp,uo X Z9 H b)(ho:∀ b∈fp,∃ o,s.heap.get? b=Ψ o/\∀ v,o.data≠.cell v):Inv X (Z9++uV fp s.heap) σ H s :=
 I.pins_of λp hp=>(iF.mp hp).elim (λz=>I.pin p (cm _ z)) λz=>by
  let(hb,e):=BL z
  let(f0,f1,f2,_):=hf p.1 hb
  let(o,e',d):=ho p.1 hb
  rw[e] at e';cases e'
  exact⟨e,f0,f1,f2,d⟩
def Inv.unpinned {Z9 pl:List (nP×Obj)}{σ:St}{H:Hp}{s:nh}(I:Inv X (Z9++pl) σ H s):Inv X Z9 σ H s:=I.pins_of λp hp=>I.pin p (cm _ (cK _ hp))
def Hx {Z5:Expr}{body:List nL}{wi:TI}{g:TG}{tb:TS}{pos:Pos}(hp:PassesOwn (model X.prog X.w) X.A X.env X.xe)(hc:X.calm=Ω)(hi:PI X tg Z5 wi)(hg:PG X tg g)(hb:PSs X body tb)
  (hs:∀ x,foldedSetIterable Z5 X.env x=pure x:=by intro _;rfl):PS X (.For tg Z5 body [] pos) (OL wi g tb):=by
 intro Z9 s σ H D I h
 exact wpAny_For (oX (hi Z9 s σ H _ I h) λv s1 h1=>oX h1 λitv s2 h2=>?_) hs
 let(it,fp,tn,J,H2,e,I2,T,st2,f2,W,(m0,w0),turn):=h2
 subst e
 -- what stays Ω of the iterator's objects through the loop
 let stat:∀ {H':Hp},(∀ b∈fp,H' b=Φ)->∀ b∈fp,uo X Z9 H' b:=λhn b hb=>⟨hn b hb,(f2 b hb).2⟩
 exact codeAny_forLoop_any (λn s'=>∃ i σ' H',Inv X Z9 σ' H' s'/\tn i s'.heap/\(∀ b∈fp,H' b=Φ)/\W i n σ' H') ?_ m0 ⟨0,σ,H2,I2,st2,λb hb=>(f2 b hb).1,w0⟩
 rintro n s3 ⟨i,σ3,H3,I3,st3,fr3,w3⟩
 rcases turn i n σ3 H3 w3 with⟨stop,qn⟩|⟨go,N,hN,step⟩
 ·exact gX hp (oX (T.done X rfl rfl rfl hc i Z9 s3 σ3 H3 X.xe I3 (stat fr3) st3 stop) λr s4 ⟨hr,I4⟩=>?_)
  subst hr
  exact gZ ⟨σ3,H3,I4,qn⟩
 ·exact gX hp (oX (T.item X rfl rfl rfl hc i Z9 s3 σ3 H3 X.xe I3 (stat fr3) st3 go) λr s4 ⟨u,hr,h4⟩=>?_)
  subst hr
  exact gX hp (oX h4 λ_ s5 ⟨x,H5,I5,r5,y5,st5,fr5⟩=>?_)
  let I5':=I5.pinned (stat fr5) (T.obj _ _ st5)
  exact gX hp (oX (hg _ s5 σ3 H5 x u _ I5' r5 (step x H5 y5)) λ_ s6 ⟨σ6,H6,I6,q6⟩=>?_)
  exact gX hp (oX (hb _ s6 σ6 H6 _ I6 q6) λf s7 q7=>?_)
  let again:∀ {σ7:St}{H7:Hp},Inv X (Z9++uV fp s5.heap) σ7 H7 s7->N σ7 H7->∃ m,m<n/\∃ i σ' H',Inv X Z9 σ' H' s7/\tn i s7.heap/\(∀ b∈fp,H' b=Φ)/\W i m σ' H':=λ{σ7 H7} I7 n7=>by
   let(m',hm,w7):=hN σ7 H7 n7
   exact⟨m',hm,i+1,σ7,H7,I7.unpinned,T.keep _ _ _ st5 λb hb o e=>(I7.pin (b,o) (cm _ (cm _ (rF hb e)))).1,λb hb=>?_,w7⟩
   let(o,e,d):=T.obj _ _ st5 b hb
   exact (I7.pin (b,o) (cm _ (cm _ (rF hb e)))).2.1
  cases f with
  | next=>let(σ7,H7,I7,n7):=q7;exact again I7 n7
  | cont=>let(σ7,H7,I7,n7):=q7;exact again I7 n7
  | brk=>let(σ7,H7,I7,q7):=q7;exact⟨σ7,H7,I7.unpinned,q7⟩
  | ret v=>let(x7,σ7,H7,I7,r7,q7):=q7;exact⟨x7,σ7,H7,I7.unpinned,r7,q7⟩
end
noncomputable abbrev R2:=V->V->Hp->VK->Prop
abbrev qC (X:Cx)(f:nE->nE->Sem nE)(r:R2):Prop :=
 ∀ (Z9:List (nP×Obj))(s:nh)(σ:St)(H:Hp)(x y:V)(v u:nE)(Q:VK),Inv X Z9 σ H s->RelV x v->RelV y u->r x y H Q ->
  wpAny (model X.prog X.w) X.A (f v u) (EP X Z9 σ Q) X.xe s
abbrev Sj (X:Cx)(f:nE->Sem nE)(r:V->Hp->VK->Prop):Prop :=
 ∀ (Z9:List (nP×Obj))(s:nh)(σ:St)(H:Hp)(x:V)(v:nE)(Q:VK),Inv X Z9 σ H s->RelV x v->r x H Q ->
  wpAny (model X.prog X.w) X.A (f v) (EP X Z9 σ Q) X.xe s
abbrev oR (X:Cx)(f:nE)(r:List V->Hp->VK->Prop):Prop :=
 ∀ (Z9:List (nP×Obj))(s:nh)(σ:St)(H:Hp)(xs:List V)(us:List nE)(Q:VK),Inv X Z9 σ H s->Vals xs us->r xs H Q ->
  wpAny (model X.prog X.w) X.A (call f us) (EP X Z9 σ Q) X.xe s
abbrev Sk (X:Cx)(r:V->Hp->(Bool->Hp->Prop)->Prop):Prop :=
 ∀ (Z9:List (nP×Obj))(s:nh)(σ:St)(H:Hp)(x:V)(v:nE)(Q:Bool->Hp->Prop),Inv X Z9 σ H s->RelV x v->r x H Q ->
  wpAny (model X.prog X.w) X.A (truthy v) (TP X Z9 σ Q) X.xe s
abbrev G5 (r:R2)(ta tb:TE):TE:=λσ H Q=>ta σ H λx H1=>tb σ H1 λy H2=>r x y H2 Q
abbrev tUn (r:V->Hp->VK->Prop)(ta:TE):TE:=λσ H Q=>ta σ H λx H1=>r x H1 Q
inductive rI (C:Int->Int->Prop)(g:Int->Int->V)(x:V)(y:V)(H:Hp)(Q:VK):Prop
 | mk (i:_)(j:_)(_:x=.int i)(_:y=.int j)(_:C i j)(_:Q (g i j) H):rI C g x y H Q
inductive rI0 (g:Int->Int->V)(x:V)(y:V)(H:Hp)(Q:VK):Prop
 | mk (i:_)(j:_)(_:x=.int i)(_:y=.int j)(_:Q (g i j) H):rI0 g x y H Q
inductive rU (g:Int->V)(x:V)(H:Hp)(Q:VK):Prop
 | mk (i:_)(_:x=.int i)(_:Q (g i) H):rU g x H Q
section
variable {X:Cx}{a b:Expr}{ta tb:TE}{pos:Pos}
def JJ (ha:PE X a ta)(hb:PE X b tb){Z9:List (nP×Obj)}{s:nh}{σ:St}{H:Hp}{R:V->V->Hp->Prop}(I:Inv X Z9 σ H s)
  (h:ta σ H λx H1=>tb σ H1 λy H2=>R x y H2){Q:nE->nh->Prop}{f:nE->nE->Sem nE}
  (hf:∀ v u s2 x y H2,Inv X Z9 σ H2 s2->RelV x v->RelV y u->R x y H2->wpAny (model X.prog X.w) X.A (f v u) Q X.xe s2) :
  wpAny (model X.prog X.w) X.A (eval a X.env) (λv s₁=>wpAny (model X.prog X.w) X.A (eval b X.env) (λu s₂=>wpAny (model X.prog X.w) X.A (f v u) Q X.xe s₂) X.xe s₁) X.xe s:=by
 exact oX (ha Z9 s σ H _ I h) λv s1 q1=>?_;let(x,H1,I1,r1,q1):=q1
 exact oX (hb Z9 s1 σ H1 _ I1 q1) λu s2 q2=>?_;let(y,H2,I2,r2,q2):=q2
 exact hf v u s2 x y H2 I2 r1 r2 q2
def GE {op:mR}{r:R2}(ho:qC X (binaryOp op) r)(ha:PE X a ta)(hb:PE X b tb):PE X (.BinOp a op b pos) (G5 r ta tb):=by
 intro Z9 s σ H Q I h
 exact wpAny_BinOp (JJ ha hb I h λv u s2 x y H2 I2 rx ry q=>ho Z9 s2 σ H2 x y v u Q I2 rx ry q)
def Lw {op:UnaryOp}{r:V->Hp->VK->Prop}(ho:Sj X (unaryOp op) r)(ha:PE X a ta):PE X (.UnaryOp op a pos) (tUn r ta):=by
 intro Z9 s σ H Q I h
 exact UnaryOp_ (oX (ha Z9 s σ H _ I h) λv s1 q1=>by let(x,H1,I1,r1,q1):=q1;exact ho Z9 s1 σ H1 x v Q I1 r1 q1)
def Nq {f:nE->nE->Sem nE}{C:Int->Int->Prop}{g:Int->Int->Int}
  (rule:∀ (i j:Int)(t u:Tok)(s:nh)(Q:nE->nh->Prop)(E:nE->nh->Prop),C i j->Q (.int (g i j) s.toks) { s with toks:=s.toks+1 }->wpAny (model X.prog X.w) X.A (f (.int i t) (.int j u)) Q E s) :
  qC X f (rI C λi j=>.int (g i j)):=by
 intro Z9 s σ H x y v u Q I rx ry h
 let(i,j,rfl,rfl,hc,q):=h
 let(t,rfl):=rx
 let(t',rfl):=ry
 exact rule i j t t' s _ _ hc ⟨.int (g i j),H,I.tok _,⟨_,rfl⟩,q⟩
def LK {f:nE->nE->Sem nE}{g:Int->Int->Int}
  (rule:∀ (i j:Int)(t u:Tok)(s:nh)(Q:nE->nh->Prop)(E:nE->nh->Prop),Q (.int (g i j) s.toks) { s with toks:=s.toks+1 }->wpAny (model X.prog X.w) X.A (f (.int i t) (.int j u)) Q E s) :
  qC X f (rI0 λi j=>.int (g i j)):=by
 intro Z9 s σ H x y v u Q I rx ry h
 let(i,j,rfl,rfl,q):=h
 let(t,rfl):=rx
 let(t',rfl):=ry
 exact rule i j t t' s _ _ ⟨.int (g i j),H,I.tok _,⟨_,rfl⟩,q⟩
def Fi {f:nE->nE->Sem nE}{g:Int->Int->Bool}
  (rule:∀ (i j:Int)(t u:Tok)(s:nh)(Q:nE->nh->Prop)(E:nE->nh->Prop),Q (.bool (g i j)) s->wpAny (model X.prog X.w) X.A (f (.int i t) (.int j u)) Q E s) :
  qC X f (rI0 λi j=>.bl (g i j)):=by
 intro Z9 s σ H x y v u Q I rx ry h
 let(i,j,rfl,rfl,q):=h
 let(t,rfl):=rx
 let(t',rfl):=ry
 exact rule i j t t' s _ _ ⟨.bl (g i j),H,I,rfl,q⟩
abbrev Sr (i j:Int):Prop:=0<j/\j<1073741824
abbrev Sq (i j:Int):Prop:=0<=j/\j<=1000000/\i.natAbs<2 ^ 64
abbrev CMul (i j:Int):Prop:=(-(2 ^ 64)<i/\i<2 ^ 64) ∨ (-(2 ^ 64)<j/\j<2 ^ 64)
def CMul.ok {i j:Int}(h:CMul i j):IntMulOk i j:=by
 rcases h with⟨h1,h2⟩|⟨h1,h2⟩
 ·exact .of_left (jP h1 h2)
 ·exact .of_right (jP h1 h2)
def HZ:qC X (binaryOp .Add) (rI0 λi j=>.int (i+j)):=LK λ_ _ _ _ _ _ _ q=>add_int q
def HR:qC X (binaryOp .Sub) (rI0 λi j=>.int (i-j)):=LK λ_ _ _ _ _ _ _ q=>sub_int q
def HW:qC X (binaryOp .Mult) (rI CMul λi j=>.int (i*j)):=Nq λ_ _ _ _ _ _ _ hc q=>mul_int q hc.ok
def Fg:qC X (binaryOp .FloorDiv) (rI Sr λi j=>.int (i / j)):=Nq λi j _ _ _ _ _ hc q=>by
 let h1:(0:Int)<j:=hc.1
 let h2:j<1073741824:=hc.2
 exact floordiv_int ⋯ (by rw[Int.fdiv_eq_ediv_of_nonneg i ⋯];exact q) (.inl (PyProof.noPylong_small ⋯))
def HX:qC X (binaryOp .Mod) (rI (λ_ j=>0<j) λi j=>.int (i % j)):=Nq λi j _ _ _ _ _ hc q=>by
 let h1:(0:Int)<j:=hc
 exact mod_int' ⋯ (by rw[Int.fmod_eq_emod_of_nonneg i ⋯];exact q)
def HV:qC X (binaryOp .Pow) (rI Sq λi j=>.int (i ^ j.toNat)):=Nq λ_ _ _ _ _ _ _ hc q=>pow_int_small hc.1 hc.2.1 hc.2.2 q
def unI {f:nE->Sem nE}{g:Int->Int}
  (rule:∀ (i:Int)(t:Tok)(s:nh)(Q:nE->nh->Prop)(E:nE->nh->Prop),Q (.int (g i) s.toks) { s with toks:=s.toks+1 }->wpAny (model X.prog X.w) X.A (f (.int i t)) Q E s) :
  Sj X f (rU λi=>.int (g i)):=by
 intro Z9 s σ H x v Q I rx h
 let(i,rfl,q):=h
 let(t,rfl):=rx
 exact rule i t s _ _ ⟨.int (g i),H,I.tok _,⟨_,rfl⟩,q⟩
def GY:Sj X (unaryOp .USub) (rU λi=>.int (-i)):=unI λ_ _ _ _ _ q=>neg_int q
end
abbrev K6:V->V->Bool
 | .non,.non=>Ω|.non,.int _=>Ω|.int _,.non=>Ω|.non,.bl _=>Ω|.bl _,.non=>Ω|.non,.str _=>Ω|.str _,.non=>Ω
 | .int _,.int _=>Ω|.bl _,.bl _=>Ω|.str _,.str _=>Ω|.byt _,.byt _=>Ω
 | .int _,.str _=>Ω|.str _,.int _=>Ω|.bl _,.str _=>Ω|.str _,.bl _=>Ω
 | _,_=>Ξ
abbrev rEq:R2:=λx y H Q=>K6 x y=Ω/\Q (.bl (Δ (x=y))) H
abbrev rNe:R2:=λx y H Q=>K6 x y=Ω/\Q (.bl (!Δ (x=y))) H
def Bd {i j:Int}:Δ (V.int i=V.int j)=(i == j):=by
 rw[iW]
 simp
def D4 {i j:Bool}:Δ (V.bl i=V.bl j)=(i == j):=by
 rw[iW]
 simp
def Bc {i j:Str}:Δ (V.str i=V.str j)=(i == j):=by
 rw[iW]
 simp
def Be {i j:Array UInt8}:Δ (V.byt i=V.byt j)=(i.toList == j.toList):=by
 rw[iW]
 cases i
 cases j
 simp
section
variable {X:Cx}{a b c:Expr}{ta tb tc:TE}{pos:Pos}
def oG {Z9:List (nP×Obj)}{σ:St}{H:Hp}{s:nh}{Q:VK}{k k':Bool}(I:Inv X Z9 σ H s)(q:Q (.bl k) H)(e:k=k'):EP X Z9 σ Q (.bool k') s:=by
 subst e
 exact⟨.bl k,H,I,rfl,q⟩
def LJ:qC X (compareOp .Eq) rEq:=by
 intro Z9 s σ H x y v u Q I rx ry h
 let(hs,q):=h
 cases x with
 | non =>
  cases rx
  cases y with
  | non=>cases ry;exact PySem.EqNone.eq_none_none (oG I q ∅)
  | bl j=>cases ry;exact PySem.EqNone.eq_none_bool (oG I q ∅)
  | int j=>let(t',rfl):=ry;exact PySem.EqNone.eq_none_int (oG I q ∅)
  | str j=>let(t',rfl):=ry;exact PySem.EqNone.eq_none_str (oG I q ∅)
  | _=>exact absurd (show Ξ=Ω from hs) dY
 | bl i =>
  cases rx
  cases y with
  | non=>cases ry;exact PySem.EqNone.eq_bool_none (oG I q ∅)
  | bl j=>cases ry;exact eq_bool (oG I q D4)
  | str j=>let(t',rfl):=ry;exact PySem.EqMixed.eq_bool_str (oG I q ∅)
  | _=>exact absurd (show Ξ=Ω from hs) dY
 | int i =>
  let(t,rfl):=rx
  cases y with
  | non=>cases ry;exact PySem.EqNone.eq_int_none (oG I q ∅)
  | int j=>let(t',rfl):=ry;exact eq_int (oG I q Bd)
  | str j=>let(t',rfl):=ry;exact PySem.EqMixed.eq_int_str (oG I q ∅)
  | _=>exact absurd (show Ξ=Ω from hs) dY
 | str i =>
  let(t,rfl):=rx
  cases y with
  | non=>cases ry;exact PySem.EqNone.eq_str_none (oG I q ∅)
  | bl j=>cases ry;exact PySem.EqMixed.eq_str_bool (oG I q ∅)
  | int j=>let(t',rfl):=ry;exact PySem.EqMixed.eq_str_int (oG I q ∅)
  | str j=>let(t',rfl):=ry;exact eq_str (oG I q Bc)
  | _=>exact absurd (show Ξ=Ω from hs) dY
 | byt i =>
  let(t,rfl):=rx
  cases y with
  | byt j=>let(t',rfl):=ry;exact PySem.W.eq_bytes (oG I q Be)
  | _=>exact absurd (show Ξ=Ω from hs) dY
 | _=>cases y<;>exact absurd (show Ξ=Ω from hs) dY
def LD:qC X (compareOp .NotEq) rNe:=by
 intro Z9 s σ H x y v u Q I rx ry h
 let(hs,q):=h
 cases x with
 | non =>
  cases rx
  cases y with
  | non=>cases ry;exact PySem.EqNone.ne_none_none (oG I q ∅)
  | bl j=>cases ry;exact PySem.EqNone.ne_none_bool (oG I q ∅)
  | int j=>let(t',rfl):=ry;exact PySem.EqNone.ne_none_int (oG I q ∅)
  | str j=>let(t',rfl):=ry;exact PySem.EqNone.ne_none_str (oG I q ∅)
  | _=>exact absurd (show Ξ=Ω from hs) dY
 | bl i =>
  cases rx
  cases y with
  | non=>cases ry;exact PySem.EqNone.ne_bool_none (oG I q ∅)
  | bl j=>cases ry;exact ne_bool (oG I q (congrArg not D4))
  | str j=>let(t',rfl):=ry;exact PySem.EqMixed.ne_bool_str (oG I q ∅)
  | _=>exact absurd (show Ξ=Ω from hs) dY
 | int i =>
  let(t,rfl):=rx
  cases y with
  | non=>cases ry;exact PySem.EqNone.ne_int_none (oG I q ∅)
  | int j=>let(t',rfl):=ry;exact ne_int (oG I q (congrArg not Bd))
  | str j=>let(t',rfl):=ry;exact PySem.EqMixed.ne_int_str (oG I q ∅)
  | _=>exact absurd (show Ξ=Ω from hs) dY
 | str i =>
  let(t,rfl):=rx
  cases y with
  | non=>cases ry;exact PySem.EqNone.ne_str_none (oG I q ∅)
  | bl j=>cases ry;exact PySem.EqMixed.ne_str_bool (oG I q ∅)
  | int j=>let(t',rfl):=ry;exact PySem.EqMixed.ne_str_int (oG I q ∅)
  | str j=>let(t',rfl):=ry;exact ne_str (oG I q (congrArg not Bc))
  | _=>exact absurd (show Ξ=Ω from hs) dY
 | byt i =>
  let(t,rfl):=rx
  cases y with
  | byt j=>let(t',rfl):=ry;exact PySem.W.ne_bytes (oG I q (congrArg not Be))
  | _=>exact absurd (show Ξ=Ω from hs) dY
 | _=>cases y<;>exact absurd (show Ξ=Ω from hs) dY
def LF:qC X (compareOp .Lt) (rI0 λi j=>.bl (Δ (i<j))):=Fi λ_ _ _ _ _ _ _ q=>lt_int q
def LG:qC X (compareOp .LtE) (rI0 λi j=>.bl (Δ (i<=j))):=Fi λ_ _ _ _ _ _ _ q=>le_int q
def LH:qC X (compareOp .Gt) (rI0 λi j=>.bl (Δ (j<i))):=Fi λ_ _ _ _ _ _ _ q=>gt_int q
def LI:qC X (compareOp .GtE) (rI0 λi j=>.bl (Δ (j<=i))):=Fi λ_ _ _ _ _ _ _ q=>ge_int q
def E9 {op:nK}{r:R2}(ho:qC X (compareOp op) r)(ha:PE X a ta)(hb:PE X b tb)(hm:behindInMarks op b=Ξ):PE X (.Compare a [op] [b] pos) (G5 r ta tb):=by
 intro Z9 s σ H Q I h
 exact ja (JJ ha hb I h λv u s2 x y H2 I2 rx ry q=>ho Z9 s2 σ H2 x y v u Q I2 rx ry q) hm
abbrev KN (t:TE):TT:=λσ H Q=>t σ H λx H'=>∃ k,x=.bl k/\Q k H'
def ES {op:nK}{r:R2}(ho:qC X (compareOp op) r)(ha:PE X a ta)(hb:PE X b tb)(hm:behindInMarks op b=Ξ):PT X (.Compare a [op] [b] pos) (KN (G5 r ta tb)):=by
 intro Z9 s σ H Q I h
 refine bW (oX (ha Z9 s σ H _ I h) λv s1 ⟨x,H1,I1,r1,q1⟩=>oX (hb Z9 s1 σ H1 _ I1 q1) λu s2 ⟨y,H2,I2,r2,q2⟩ =>
  oX (ho Z9 s2 σ H2 x y v u _ I2 r1 r2 q2) λc s3 ⟨z,H3,I3,r3,k,e,q3⟩=>?_) hm
 subst e
 cases r3
 exact eD ⟨H3,I3,q3⟩
abbrev CD (r r':R2)(ta tb tc:TE):TE:=λσ H Q=>ta σ H λx H1=>tb σ H1 λy H2=>r x y H2 λz H3=>∃ k,z=.bl k /\
 (if k=Ω then tc σ H3 λw' H4=>r' y w' H4 Q else Q (.bl Ξ) H3)
def De {op op':nK}{r r':R2}(ho:qC X (compareOp op) r)(ho':qC X (compareOp op') r')(ha:PE X a ta)(hb:PE X b tb)(hc:PE X c tc)
  (hm:lastMarks [op,op'] [b,c]=Ξ:=by with_unfolding_all rfl):PE X (.Compare a [op,op'] [b,c] pos) (CD r r' ta tb tc):=by
 intro Z9 s σ H Q I h
 refine Compare_chain (oX (ha Z9 s σ H _ I h) λv s1 ⟨x,H1,I1,r1,q1⟩=>chain_link (oX (hb Z9 s1 σ H1 _ I1 q1) λu s2 ⟨y,H2,I2,r2,q2⟩ =>
  oX (ho Z9 s2 σ H2 x y v u _ I2 r1 r2 q2) λd s3 ⟨z,H3,I3,r3,k,e,q3⟩=>?_)) hm
 subst e
 cases r3
 exact eD ?_
 cases k with
 | false=>exact ite_ff ⟨.bl Ξ,H3,I3,rfl,q3⟩
 | true=>exact ite_tt (chain_last (oX (hc Z9 s3 σ H3 _ I3 q3) λw' s4 ⟨z',H4,I4,r4,q4⟩=>ho' Z9 s4 σ H4 y z' u w' Q I4 r2 r4 q4))
abbrev Gq (K:kP)(x:V)(H:Hp)(k:Bool):Prop :=
 match x with
 | .non=>k=Ξ
 | .bl b=>k=b
 | .int i=>k=(i != 0)
 | .str y=>y.length<=sizeLine/\k=((y.length:Int) != 0)
 | .byt y=>y.size<=sizeLine/\k=((y.size:Int) != 0)
 | .ref p=>(∃ xs,SqL K H p xs/\k = !xs.isEmpty) ∨ (∃ xs,SqT K H p xs/\k = !xs.isEmpty) ∨ ∃ Z6,H p=Ψ (.dK Z6)/\k = !Z6.isEmpty
 | _=>False
def zJ {κ:Type}{Z6:List (κ×V)}{vs:List (κ×nE)}(r:KV Z6 vs):(!vs.isEmpty) = !Z6.isEmpty:=by
 cases r<;>rfl
def vf {xs:List V}{Z7:List nE}(r:Vals xs Z7):(!Z7.toArray.isEmpty) = !xs.isEmpty:=by
 cases r<;>simp
def u9:(sizeLine:Nat)<2 ^ 63:=by rw[lA];decide
def Cw:Sk X (λx H Q=>∃ k,Gq X.K x H k/\Q k H):=by
 intro Z9 s σ H x v Q I rx h
 let(k,e,q):=h
 let hl:=u9
 let hs:sizeLine=16777216:=lA
 cases x with
 | non =>
  cases rx
  let e':k=Ξ:=e
  subst e'
  exact truthy_none ⟨H,I,q⟩
 | bl b =>
  cases rx
  let e':k=b:=e
  subst e'
  exact eD ⟨H,I,q⟩
 | int i =>
  let(t,rfl):=rx
  let e':k=(i != 0):=e
  subst e'
  exact PySem.P.truthy_int ⟨H,I,q⟩
 | str y =>
  let(t,rfl):=rx
  obtain⟨hy,e'⟩:y.length<=sizeLine/\k=((y.length:Int) != 0):=e
  subst e'
  exact PySem.P.truthy_str ⋯ ⟨H,I.tok _,q⟩
 | byt y =>
  let(t,rfl):=rx
  obtain⟨hy,e'⟩:y.size<=sizeLine/\k=((y.size:Int) != 0):=e
  subst e'
  exact PySem.W.truthy_bytes ⋯ ⟨H,I.tok _,q⟩
 | ref p =>
  cases rx
  let e':(∃ xs,SqL X.K H p xs/\k = !xs.isEmpty) ∨ (∃ xs,SqT X.K H p xs/\k = !xs.isEmpty) ∨ ∃ Z6,H p=Ψ (.dK Z6)/\k = !Z6.isEmpty:=e
  rcases e' with⟨xs,hx,e'⟩|⟨xs,hx,e'⟩|⟨Z6,hx,e'⟩
  ·subst e'
   let(Z7,r,pl,hz):=I.list hx
   let hlen:=r.length
   exact wpAny_truthy_list pl.isList (by simp -iota only[fk];lia) ⟨H,I.tok _,by rw[vf r];exact q⟩
  ·subst e'
   let(Z7,r,pl,hz):=I.tuple hx
   let hlen:=r.length
   exact truthy_tuple pl (by simp -iota only[fk];lia) ⟨H,I.tok _,by rw[vf r];exact q⟩
  ·subst e'
   obtain⟨hz,hS,vs,r,m⟩:Z6.length<=sizeLine/\(p == sysModules)=Ξ/\∃ vs,KV Z6 vs/\s.heap.DictOf (oI X.prog X.w) p vs:=I.hok p _ hx
   let hlen:Z6.length=vs.length:=j7 r
   exact wpAny_truthy_dict hS m ⋯ ⟨H,I.tok _,by rw[zJ r];exact q⟩
 | _=>exact (show False from e).elim
def CZ (ha:PE X a ta)(he:∀ whole,isTrue a X.env whole=(do let v <- whole;standAt a.pos;holding [v] (truthy v))) :
  PT X a (λσ H Q=>ta σ H λx H'=>∃ k,Gq X.K x H' k/\Q k H'):=by
 intro Z9 s σ H Q I h
 exact isTrue_plain (oX (ha Z9 s σ H _ I h) λv s1 q1=>by let(x,H1,I1,r1,q1):=q1;exact Cw Z9 s1 σ H1 x v Q I1 r1 q1) (he _)
def vals1 {x:V}{us:List nE}(r:Vals [x] us):∃ u,us=[u]/\RelV x u:=by
 cases r with
 | cons r1 r2=>cases r2;exact⟨_,rfl,r1⟩
def vals2 {x y:V}{us:List nE}(r:Vals [x,y] us):∃ u w',us=[u,w']/\RelV x u/\RelV y w':=by
 cases r with
 | cons r1 r2 =>
  cases r2 with
  | cons r3 r4=>cases r4;exact⟨_,_,rfl,r1,r3⟩
def Eb:oR X (.builtin "abs") (λxs H Q=>∃ i,xs=[.int i]/\Q (.int (if i<0 then -i else i)) H):=by
 intro Z9 s σ H xs us Q I r h
 let(i,rfl,q):=h
 let(u,rfl,t,rfl):=vals1 r
 exact call_abs_int λu tk=>⟨.int (if i<0 then -i else i),H,I.tok _,⟨_,rfl⟩,q⟩
def Ch (hc:X.calm=Ω):oR X (.builtin "max") (λxs H Q=>∃ i j,xs=[.int i,.int j]/\Q (.int (if j > i then j else i)) H):=by
 intro Z9 s σ H xs us Q I r h
 let(i,j,rfl,q):=h
 let(u,w',rfl,(t,rfl),(t',rfl)):=vals2 r
 exact max_two_ints (I.ok.hd hc) λh' tk k=>⟨_,H,I.kept k,?_,q⟩
 by_cases hj:j > i
 ·rw[if_pos hj,if_pos hj];exact⟨_,rfl⟩
 ·rw[if_neg hj,if_neg hj];exact⟨_,rfl⟩
def wE:oR X (.type "int") (λxs H Q=>(∃ i,xs=[.int i]/\Q (.int i) H) ∨ ∃ k,xs=[.bl k]/\Q (.int (if k then 1 else 0)) H):=by
 intro Z9 s σ H xs us Q I r h
 rcases h with⟨i,rfl,q⟩|⟨k,rfl,q⟩
 ·let(u,rfl,t,rfl):=vals1 r
  exact call_int_int ⟨.int i,H,I,⟨_,rfl⟩,q⟩
 ·let(u,rfl,r1):=vals1 r
  cases r1
  exact call_int_bool ⟨.int (if k then 1 else 0),H,I.tok _,⟨_,rfl⟩,q⟩
def xE:oR X (.type "str") (λxs H Q=>∃ i,xs=[.int i]/\i.natAbs.log2<1920/\Q (.str (toString i)) H):=by
 intro Z9 s σ H xs us Q I r h
 let(i,rfl,hz,q):=h
 let(u,rfl,t,rfl):=vals1 r
 exact PySem.P.str_of_int hz ⟨.str _,H,I.tok _,⟨_,rfl⟩,q⟩
end
structure ObjM (h:nM)(x dx C:nP)(mA:Str->Option nE):Prop where
 obj:h.get? x=Ψ (ii C dx)
 ns:h.Ns1 dx mA
 ne:dx≠x
def BR {h:nM}{dx:nP}{mA:Str->Option nE}(n:h.Ns1 dx mA):∃ od,h.get? dx=Ψ od/\∀ name,jj name od=Ψ (mA name):=by
 let(o,es,ep,ho,hd,hk,_,hm):=n
 exact⟨o,ho,λname=>?_⟩
 let e:=hm name
 unfold nsFind findBy at e
 rw[<- Array.find?_toList] at e
 unfold jj
 rw[hd]
 dsimp only
 split
 ·rename_i y q
  rw[q] at e
  exact congrArg Ψ e
 ·rename_i q
  rw[q] at e
  let a:es.toList.any (·.refKey)=Ξ:=by
   rw[List.any_eq_false]
   intro y hy
   let(z,t,hkey):=hk y (cQ.mp hy)
   simp[DictEntry.refKey,hkey]
  let a':¬ es.toList.any (·.refKey)=Ω:=by rw[a];exact dY
  rw[if_neg a']
  exact congrArg Ψ e
def ObjM.look {h:nM}{x dx C:nP}{mA:Str->Option nE}(I:ObjM h x dx C mA):∃ od,PySem.W.InstAt h x (ii C dx) C (Ψ od)/\∀ name,jj name od=Ψ (mA name) :=
 let ⟨od,ho,hl⟩:=BR I.ns
 ⟨od,⟨I.obj,rfl,rfl,ho⟩,hl⟩
def RelO.some_of {v:V}{o:Option nE}(r:RelO (Ψ v) o):∃ u,o=Ψ u/\RelV v u:=by
 cases o with
 | none=>exact (show False from r).elim
 | some u=>exact⟨u,rfl,r⟩
section
variable {P:mX}{w:nC}{H:Hp}{h:nM}{a C dx:nP}{fs:List (Str×V)}
def FU (hok:HOk P w H h)(e:H a=Ψ (.ins C dx fs)):∃ mA,ObjM h a dx C mA/\(∀ f,RelO (fs.lookup f) (mA f))/\kN mA (fs.map (·.1))/\fs.length<=1000/\H dx=Ψ (.own a):=by
 let(d,z,ne,ob,mA,n,r,q):=(show ObjOk P w H h a (.ins C dx fs) from hok a _ e)
 exact⟨mA,⟨ob,n,ne⟩,r,q,z,d⟩
end
structure Cls (K:kP)(C:nP):Prop where
 pg:f8 K C Str.empty=Ω
 hd:PySem.W.hasDictIn K C=Ω
 po:PySem.W.plainOver K C=Ω
 sa:jo K (.ref C) "__setattr__" = Ψ (Ψ (.builtin "object.__setattr__"))
def Cls.get {K:kP}{C:nP}(c:Cls K C)(f:Str):f8 K C f=Ω:=c.pg
abbrev xM (K:kP)(C:nP)(f:Str):Prop:=jo K (.ref C) f=Ψ Φ
structure Meth (K:kP)(C:nP)(m:Str)(f:nP):Prop where
 at_:jo K (.ref C) m=Ψ (Ψ (.ref f))
 fn:PySem.W.isFn K (.ref f)=Ω
 kp:jm K (.ref f)=Ω
abbrev M3 (X:Cx)(op:mR)(rd:V->V->Hp->VK->Prop):Prop :=
 ∀ (Z9:List (nP×Obj))(s:nh)(σ:St)(H:Hp)(x y:V)(u v:nE)(Q:VK),Inv X Z9 σ H s->RelV x u->RelV y v->rd x y H Q->wpAny (model X.prog X.w) X.A (inplaceOp op u v) (EP X Z9 σ Q) X.xe s
section
variable {X:Cx}{Z9:List (nP×Obj)}{σ:St}{H:Hp}{s:nh}{A:nB}{E:nE->nh->Prop}{Q:nE->nh->Prop}{c:nE}{b:Bool}
inductive TyOf (K:kP)(H:Hp):V->nE->Prop where
 | non:TyOf K H .non (.type "NoneType")
 | bl (x:Bool):TyOf K H (.bl x) (.type "bool")
 | int (i:Int):TyOf K H (.int i) (.type "int")
 | str (x:Str):TyOf K H (.str x) (.type "str")
 | flt (x:UInt64):TyOf K H (.flt x) (.type "float")
 | lst {a:nP}{xs:List V}(e:H a=Ψ (.lst xs)):TyOf K H (.ref a) (.type "list")
 | frz {a:nP}{o:Obj}{xs:List V}(e:H a=Ψ (.frz o (.lst xs))):TyOf K H (.ref a) (.type "list")
 | tup {a:nP}{xs:List V}(e:H a=Ψ (.tup xs)):TyOf K H (.ref a) (.type "tuple")
 | dK {a:nP}{Z6:List (pW×V)}(e:H a=Ψ (.dK Z6)):TyOf K H (.ref a) (.type "dict")
 | dT {a:nP}{Z6:List (List pW×V)}(e:H a=Ψ (.dT Z6)):TyOf K H (.ref a) (.type "dict")
 | ins {a C dx:nP}{fs:List (Str×V)}(e:H a=Ψ (.ins C dx fs))(cl:Cls K C)(ha:jo K (.ref C) "__class__" = Ψ (Ψ (.builtin "object.__class__")))
   (hn:PySem.W.specialIn K (.builtin "object.__class__") "__get__" = Ψ (Ψ (.builtin "getset_descriptor.__get__")))(htk:PySem.W.takesIn K (.builtin "object.__class__")=Ψ Ω)
   (hm:PySem.W.mroIn K C (.type "object")=Ψ Ω):TyOf K H (.ref a) (.ref C)
def BX {x:V}{u t:nE}(I:Inv X Z9 σ H s)(rx:RelV x u)(ty:TyOf X.K H x t)(e:jk X.K t c=Ψ b)(h:∀ tk,Q (.bool b) { s with toks:=tk }) :
  wpAny (model X.prog X.w) A (call (.builtin "isinstance") [u,c]) Q E s:=by
 cases ty with
 | non=>cases (show u=Value.none from rx);exact ig PySem.W.kitx_none I.kIn True.intro e (λz=>nomatch z) h
 | bl y=>cases (show u=Value.bool y from rx);exact ig PySem.W.kitx_bool I.kIn True.intro e (λz=>nomatch z) h
 | int i=>let(t,q):=(show ∃ t,u=Value.int i t from rx);cases q;exact ig PySem.W.kitx_int I.kIn True.intro e (λz=>nomatch z) h
 | str y=>let(t,q):=(show ∃ t,u=Value.str y t from rx);cases q;exact ig PySem.W.kitx_str I.kIn True.intro e (λz=>nomatch z) h
 | flt y=>let(t,q):=(show ∃ t,u=Value.float y t from rx);cases q;exact ig PySem.W.kitx_float I.kIn True.intro e (λz=>nomatch z) h
 | @lst a xs ea =>
  cases (show u=Value.ref a from rx)
  let(_,_,n,_,h1):=(show ObjOk X.prog X.w H s.heap a (.lst xs) from I.hok a _ ea)
  exact ig eY I.kIn ⟨_,h1,rfl⟩ e (λz=>nomatch z) h
 | @frz a ob xs ea =>
  cases (show u=Value.ref a from rx)
  let(_,_,_,n,_,h1):=(show ObjOk X.prog X.w H s.heap a (.frz ob (.lst xs)) from I.hok a _ ea)
  exact ig eY I.kIn ⟨_,h1,rfl⟩ e (λz=>nomatch z) h
 | @tup a xs ea =>
  cases (show u=Value.ref a from rx)
  let(_,_,_,p):=(show ObjOk X.prog X.w H s.heap a (.tup xs) from I.hok a _ ea)
  let(o,h1,h2,_):=p
  exact ig PySem.W.kitx_tuple I.kIn ⟨o,h1,h2⟩ e (λz=>nomatch z) h
 | @dK a Z6 ea =>
  cases (show u=Value.ref a from rx)
  let(_,_,vs,_,p):=(show ObjOk X.prog X.w H s.heap a (.dK Z6) from I.hok a _ ea)
  let(o,es,ep,h1,h2,_):=p
  exact ig eZ I.kIn ⟨o,h1,h2.1⟩ e (λz=>nomatch z) h
 | @dT a Z6 ea =>
  cases (show u=Value.ref a from rx)
  let(_,_,xs,_,o,es,ep,h1,h2,_):=(show ObjOk X.prog X.w H s.heap a (.dT Z6) from I.hok a _ ea)
  exact ig eZ I.kIn ⟨o,h1,h2.1⟩ e (λz=>nomatch z) h
 | @ins a C dx fs ea cl ha hn htk hm =>
  cases (show u=Value.ref a from rx)
  let(mA,O,_):=FU I.hok ea
  let(od,J,_):=O.look
  exact ig (PySem.W.kitx_own (cl.get _) cl.hd ha hn htk hm) I.kIn J e (λz=>nomatch z) h
end
structure Room (k:Nat)(A:nB):Prop where
 hd:A.handled=Φ
 dp:A.depth+3*k+5<recursionLimit
 un:A.units+16*k+200<cLine
 gd:A.guards=Ψ []
def Room.deeper {k:Nat}{A:nB}(r:Room (k+1) A)(env:Env):Room k (A.deeper env) :=
 ⟨r.hd,by have:=r.dp;show A.depth+1+3*k+5<_;lia,by have:=r.un;show A.units+3+16*k+200<_;lia,r.gd⟩
structure RoomS (k:Nat)(A:nB):Prop extends Room k A where
 dp2:A.depth+3*k+7<recursionLimit
 un2:A.units+16*k+210<cLine
def Room.deeperS {k:Nat}{A:nB}(r:Room (k+1) A)(env:Env):RoomS k (A.deeper env) :=
 ⟨r.deeper env,by have:=r.dp;show A.depth+1+3*k+7<_;lia,by have:=r.un;show A.units+3+16*k+210<_;lia⟩
def Room.depth {k:Nat}{A:nB}(r:Room k A):A.depth<recursionLimit:=by have:=r.dp;lia
def Room.units {k:Nat}{A:nB}(r:Room k A):A.units+64<cLine:=by have:=r.un;lia
abbrev KU:TA:=λ_ H Q=>Q [] H
abbrev Ah (ta:TE)(tr:TA):TA:=λσ H Q=>ta σ H λx H1=>tr σ H1 λxs H2=>Q (x :: xs) H2
section
variable {X:Cx}{e:Expr}{es:List Expr}{te:TE}{t:TA}{pos:Pos}
def pM:PA X [] KU:=λ_ _ _ _ H Q I h=>Calls.spliced_nil ⟨[],H,I,.nil,h⟩
def oy (ha:PE X e te)(hr:PA X es t)(hs:starEach (e :: es) X.env=(Ξ,eval e X.env) :: starEach es X.env:=by rfl):PA X (e :: es) (Ah te t):=by
 intro pos Z9 s σ H Q I h
 rw[hs]
 show wpAny _ _ (spliced ((Ξ,eval e X.env) :: backTo pos (starEach es X.env))) _ _ s
 exact Calls.spliced_cons (oX (ha Z9 s σ H _ I h) λu s1 ⟨x,H1,I1,r1,q1⟩=>?_)
 exact oX (hr pos Z9 s1 σ H1 _ I1 q1) λus s2 q2=>?_;let(xs,H2,I2,r2,q2):=q2;exact⟨x :: xs,H2,I2,.cons r1 r2,q2⟩
abbrev OE (t:TA):TE:=λσ H Q=>t σ H λxs H1=>xs.length<=sizeLine/\∀ p,H1 p=Φ->Q (.ref p) (oT H1 p (.tup xs))
abbrev OI (t:TA):TE:=λσ H Q=>t σ H λxs H1=>xs.length<=sizeLine/\∀ p,H1 p=Φ->Q (.ref p) (oT H1 p (.lst xs))
def HD {x1}(h:PA X es t):PE X (.Tuple es x1 pos) (OE t):=by
 intro Z9 s σ H Q I hq
 exact wpAny_Tuple_spliced (oX (h pos Z9 s σ H _ I hq) λus s1 ⟨xs,H1,I1,r,z,q⟩=>⟨by rw[<- r.length];exact z,?_⟩)
 let hf:H1 s1.heap.objs.size=Φ:=I1.hok.fresh (lJ _)
 exact⟨.ref s1.heap.objs.size,oT H1 s1.heap.objs.size (.tup xs),I1.laid (t':=s1.toks) (λb u e=>bS _ e) (lJ _) ?_,rfl,q _ hf⟩
 exact⟨z,us,r,⟨_,dc _ rfl,rfl,_,rfl⟩⟩
def Da (h:PA X es t):PE X (.List es pos) (OI t):=by
 intro Z9 s σ H Q I hq
 exact wpAny_List_spliced (oX (h pos Z9 s σ H _ I hq) λus s1 ⟨xs,H1,I1,r,z,q⟩=>⟨by rw[<- r.length];exact z,?_⟩)
 let hf:H1 s1.heap.objs.size=Φ:=I1.hok.fresh (lJ _)
 exact⟨.ref s1.heap.objs.size,oT H1 s1.heap.objs.size (.lst xs),I1.laid (t':=s1.toks) (λb u e=>bS _ e) (lJ _) ?_,rfl,q _ hf⟩
 exact⟨z,us,0,r,dc _ rfl⟩
end
noncomputable abbrev Sp:=List V->Hp->VK->XK->Prop
noncomputable abbrev Gu:=List Env->Hp->nh->XK->nE->nh->Prop
structure Env0 (P:mX)(w:nC)(K:kP)(mg:Str->Option nE)(base:nM)(A:nB)(outer:List Env)(s:nh)(H:Hp):Prop where
 frames:A.frames=Ψ outer
 mod:Mod K mg base
 bs:∀ b o,base.get? b=Ψ o->s.heap.get? b=Ψ o/\H b=Φ
 bsz:base.objs.size<=s.heap.objs.size
 funs:s.heap.FunFrames base outer
 frf:∀ b∈zN outer,H b=Φ
 hok:HOk P w H s.heap
 bare:m9 s.gens
inductive CE (outer:List Env)(P:mX)(w:nC)(H:Hp)(s:nh)(Q:VK)(u:nE)(s':nh):Prop
 | mk (v:_)(H':_)(_:s'.os=s.os)(_:m9 s'.gens)(_:Un (zN outer) [] H H' s.heap s'.heap)(_:HOk P w H' s'.heap)(_:RelV v u)(_:Q v H'):CE outer P w H s Q u s'
abbrev CR (CX:Gu)(outer:List Env)(P:mX)(w:nC)(H:Hp)(s:nh)(Q:VK)(E:XK)(r:nj)(s':nh):Prop :=
 match r with
 | .ok (.ret u)=>CE outer P w H s Q u s'
 | .ok _=>False
 | .error e=>CX outer H s E e s'
structure FnOk (P:mX)(w:nC)(K:kP)(mg:Str->Option nE)(base:nM)(CX:Gu) (k:Nat)(f:nP)(fd:mV)(ps:List Str)(sp:Sp):Prop where
 len:∀ vs H Q E,sp vs H Q E->vs.length=ps.length
 run:∀ (A:nB)(outer:List Env)(s:nh)(H:Hp)(args:Args)(us:List nE)(vs:List V)(Q:VK)(E:XK),Room k A->Env0 P w K mg base A outer s H->m8 s fd args (ps.zip us)->Vals vs us->sp vs H Q E ->
  codeAny (model P w) A (.call (.ref f) args) (CR CX outer P w H s Q E) s
section
variable {X:Cx}{Z9:List (nP×Obj)}{σ:St}{H:Hp}{s s':nh}
def Inv.env0 (I:Inv X Z9 σ H s):Env0 X.prog X.w X.K X.mg X.base X.A X.stack s H :=
 ⟨I.ok.frames,I.ok.mod,I.bs,kX I.ok.bsz I.sz,I.stack,I.stkFree,I.hok,I.bare⟩
def Inv.after {Q:VK}{u:nE}(I:Inv X Z9 σ H s)(h:CE X.stack X.prog X.w H s Q u s'):EP X Z9 σ Q u s':=by
 let(v,H',os,bare,un,hok,r,q):=h
 let(hh,g,d,t,os'):=s'
 obtain rfl:os'=s.os:=os
 exact⟨v,H',I.call (h':=hh) (g':=g) (d':=d) (t':=t) (ch:=[]) un hok bare (λb z=>absurd z ∅),r,q⟩
end
abbrev K0 (sp:Sp)(dvs:List V)(E:XK)(t:TA):TE:=λσ H Q=>t σ H λvs H1=>sp (vs++dvs) H1 Q E
abbrev Binds (K:kP)(fd:mV)(ps:List Str)(ds:List nE):Prop :=
 ∀ (s:nh)(us:List nE),K.In s.heap->(us++ds).length=ps.length->m8 s fd ⟨us,[]⟩ (ps.zip (us++ds))
def Binds.all {K:kP}{fd:mV}{ps:List Str}(h:∀ us:List nE,us.length=ps.length->bindArgs fd ⟨us,[]⟩=pure (ps.zip us)):Binds K fd ps []:=λs us _ hl=>by
 rw[iQ] at hl ⊢
 exact .of_eq (h us hl)
abbrev Af (CX:Gu)(X:Cx)(E:XK):Prop:=∀ (Z9:List (nP×Obj))(σ:St)(H:Hp)(s:nh)(e:nE)(s':nh),Inv X Z9 σ H s->CX X.stack H s E e s'->X.xe e s'
section
variable {X:Cx}{CX:Gu}{k:Nat}{f C:nP}{fd:mV}{ps:List Str}{sp:Sp}{dvs:List V}{ds:List nE}{E:XK}{x:Str}{p pos:Pos}{e:Expr}{es:List Expr}{t:TA}
def Hj {Z9:List (nP×Obj)}{σ:St}{H:Hp}{s:nh}{Q:VK}{us:List nE}{vs:List V}(F:FnOk X.prog X.w X.K X.mg X.base CX k f fd ps sp)(hr:Room k X.A)(hb:Binds X.K fd ps ds)(hd:Vals dvs ds)(hx:Af CX X E)
  (I:Inv X Z9 σ H s)(r:Vals vs us)(h:sp (vs++dvs) H Q E):wpAny (model X.prog X.w) X.A (call (.ref f) us) (EP X Z9 σ Q) X.xe s:=by
 let r2:Vals (vs++dvs) (us++ds):=r.append hd
 let hl:(us++ds).length=ps.length:=by rw[<- r2.length];exact F.len _ _ _ _ h
 exact wpAny_call (kK (F.run X.A X.stack s H ⟨us,[]⟩ (us++ds) (vs++dvs) Q E hr I.env0 (hb s us I.kIn hl) r2 h) λr s' hq=>?_)
 cases r with
 | error e=>exact hx Z9 σ H s e s' I hq
 | ok fl =>
  cases fl with
  | ret u=>exact I.after hq
  | next=>exact mw hq
  | brk=>exact mw hq
  | cont=>exact mw hq
def Fa (F:FnOk X.prog X.w X.K X.mg X.base CX k f fd ps sp)(hr:Room k X.A)(hg:Gl X x)(hm:X.mg x=Ψ (.ref f))(hk:jm X.K (.ref f)=Ω)(hb:Binds X.K fd ps ds)(hd:Vals dvs ds)(hx:Af CX X E)
  (ha:PA X (e :: es) t)(hdb:(x == ("__debug__":Str))=Ξ:=by decide)(he:starEach (e :: es) X.env=(Ξ,eval e X.env) :: starEach es X.env:=by rfl)(hpl:(backTo pos (starEach es X.env)).any (·.1)=Ξ:=by rfl) :
  PE X (.Call (.Name x p) (e :: es) [] pos) (K0 sp dvs E t):=by
 intro Z9 s σ H Q I h
 exact dv (Fy I hg hm ?_ hdb)
 exact PySem.W.callWith_K (h₀:=X.base) I.ok.mod.kin hk (oX (ha pos Z9 s σ H _ I h) λus s1 ⟨vs,H1,I1,r,q⟩=>⟨I1.kIn,?_⟩) he hpl
 exact Hj F hr hb hd hx I1 r q
structure Mk (K:kP)(C f:nP):Prop where
 makes:PySem.W.makesIn K C=Ω
 init:jo K (.ref C) "__init__" = Ψ (Ψ (.ref f))
 fn:PySem.W.isFn K (.ref f)=Ω
 kp:jm K (.ref C)=Ω
end
structure FnScope (N P:List Str)(sc:nF):Prop where
 kind:sc.kind=.function
 co:sc.isCoroutine=Ξ
 gen:sc.isGenerator=Ξ
 nd:N.Nodup
 pre:N.take P.length=P
 par:∀ x∈P,sc.names.lookup x=Ψ .local ∨ sc.names.lookup x=Ψ .cell
 nofree:∀ y∈sc.names,y.2≠.free
def wF {kindOf:Str->Option mT}{x:Str}:∀ {binds:List (Str×nE)}{m:Str->Option nE},(∀ v,(x,v) ∉ binds)->bindL kindOf binds m x=m x
 | [],_,_=>rfl
 | (n,v) :: r,m,h=>by
  unfold bindL
  rw[wF λw hw=>h w (cJ _ hw)]
  split
  ·have:x≠n:=by rintro rfl;exact h v dO
   simp[this]
  ·rfl
def wH {kindOf:Str->Option mT}{x:Str}:∀ {binds:List (Str×nE)}{m:Str->Option nE},(∀ v,(x,v) ∉ binds)->bindC kindOf binds m x=m x
 | [],_,_=>rfl
 | (n,v) :: r,m,h=>by
  unfold bindC
  rw[wH λw hw=>h w (cJ _ hw)]
  split
  ·rfl
  ·have:x≠n:=by rintro rfl;exact h v dO
   simp[this]
def wG {kindOf:Str->Option mT}{x:Str}{v:nE}:∀ {P:List Str}{vs:List nE}{i:Nat}{m:Str->Option nE},P.Nodup->P[i]?=Ψ x->vs[i]?=Ψ v->kindOf x=Ψ .local ->
  bindL kindOf (P.zip vs) m x=Ψ v
 | [],_,_,_,_,h,_,_=>by simp at h
 | _ :: _,[],_,_,_,_,h,_=>by simp at h
 | p :: P,w :: vs,0,m,nd,h1,h2,hk=>by
  simp at h1 h2;subst h1;subst h2
  show bindL kindOf ((p,w) :: P.zip vs) m p=_
  unfold bindL
  rw[wF λv hv=>(iC.mp nd).1 (iB hv).1,if_pos hk]
  simp
 | p :: P,w :: vs,i+1,m,nd,h1,h2,hk=>by
  show bindL kindOf ((p,w) :: P.zip vs) m x=_
  unfold bindL
  exact wG (i:=i) (iC.mp nd).2 (by simpa using h1) (by simpa using h2) hk
def wI {kindOf:Str->Option mT}{x:Str}{v:nE}:∀ {P:List Str}{vs:List nE}{i:Nat}{m:Str->Option nE},P.Nodup->P[i]?=Ψ x->vs[i]?=Ψ v->kindOf x≠Ψ .local ->
  bindC kindOf (P.zip vs) m x=Ψ v
 | [],_,_,_,_,h,_,_=>by simp at h
 | _ :: _,[],_,_,_,_,h,_=>by simp at h
 | p :: P,w :: vs,0,m,nd,h1,h2,hk=>by
  simp at h1 h2;subst h1;subst h2
  show bindC kindOf ((p,w) :: P.zip vs) m p=_
  unfold bindC
  rw[wH λv hv=>(iC.mp nd).1 (iB hv).1,if_neg hk]
  simp
 | p :: P,w :: vs,i+1,m,nd,h1,h2,hk=>by
  show bindC kindOf ((p,w) :: P.zip vs) m x=_
  unfold bindC
  exact wI (i:=i) (iC.mp nd).2 (by simpa using h1) (by simpa using h2) hk
abbrev start (N:List Str)(vs:List V):St:=vs.map Ψ++jt (N.length-vs.length) Φ
abbrev zX (CX:Gu)(P:mX)(w:nC)(K:kP)(mg:Str->Option nE)(base:nM)(N:List Str)(qual:Str)(scope:nF)(f:nP)(cd:nE)(A:nB)(outer:List Env)(s:nh)(H:Hp)(E:XK):Cx where
 prog:=P
 w:=w
 K:=K
 mg:=mg
 base:=base
 A:=A.deeper (envOfC qual scope s.heap.objs.size f cd)
 N:=N
 s₀:=s
 H₀:=H
 env:=envOfC qual scope s.heap.objs.size f cd
 outer:=outer
 stack:=envOfC qual scope s.heap.objs.size f cd :: outer
 ex:=[]
 calm:=Ω
 fn:=λ_=>Ω
 pn:=[]
 xe:=λe s'=>wpAny (model P w) (A.deeper (envOfC qual scope s.heap.objs.size f cd)) (leaving (envOfC qual scope s.heap.objs.size f cd) e) (λ_ s''=>CX outer H s E e s'') (λe' s''=>CX outer H s E e' s'') s'
def yT {sc:nF}{n:Nat}{x:Str}(h:sc.names.lookup x=Ψ .cell):∃ c,(cellsFrom n sc.names []).lookup x=Ψ c:=by
 let q:=bI sc.names n [] (.inl h)
 exact bm.mp q
def BY {CX:Gu}{P:mX}{w:nC}{K:kP}{mg:Str->Option nE}{base:nM}{N ps:List Str}{qual:Str}{scope:nF}{f:nP}{cd:nE}{A:nB}{outer:List Env}{s s1:nh}{H:Hp}{E:XK}{us:List nE}{vs:List V}
  (S:FnScope N ps scope)(hd:A.handled=Φ)(e0:Env0 P w K mg base A outer s H)(hl:vs.length=ps.length)(r:Vals vs us)
  (x:InCallC s s.heap.objs.size (bindL (envOfC qual scope s.heap.objs.size f cd).kindOf (ps.zip us) λ_=>Φ) (cellsFrom (s.heap.objs.size+1) scope.names []) (bindC (envOfC qual scope s.heap.objs.size f cd).kindOf (ps.zip us) λ_=>Φ) s1) :
  Inv (zX CX P w K mg base N qual scope f cd A outer s H E) [] (start N vs) H s1:=by
 let hpl:ps.length<=N.length:=by have:=congrArg lK S.pre;rw[gz] at this;lia
 let(h1,tk,rfl,hk):=x.done
 let noA:∀ b:nP,b ∉ (zX CX P w K mg base N qual scope f cd A outer s H E).ex:=λb z=>absurd (show b∈([]:List nP) from z) ∅
 exact⟨⟨e0.mod,S.kind,rfl,rfl,lJ _,λy z c h1 h2=>?_,λy hy=>?_,λy c _ h=>?_,λ_=>hd,Around.frames_deeper e0.frames,.inr ⟨rfl,rfl⟩,λb z=>absurd z (noA b),e0.bs,e0.bsz,λb _ _=>noA b,λb z=>absurd z (noA b),e0.funs,e0.frf⟩,
  rfl,e0.bare,Un.kept hk,⟨_,x.toInCall.ns,λi y v h1 h2 h3=>?_⟩,λy c h=>⟨_,x.cell y c h⟩,e0.hok.fresh (lJ _),λy c h=>?_,λp hp=>absurd (show p∈([]:List (nP×Obj)) from hp) ∅,e0.hok.kept hk,?_⟩
 ·exact name_of_addr x.apart (cV h1) (cV h2)
 ·let hy:scope.names.lookup y=Ψ .cell ∨ scope.names.lookup y=Ψ .free:=hy
  rcases hy with hy|hy
  ·exact yT hy
  ·exact absurd rfl (S.nofree _ (cV hy))
 ·exact kY (x.above y c (cV h))
 ·let hi:i<vs.length:=by
   unfold start at h2
   by_cases hi:i<vs.length
   ·exact hi
   ·rw[aE (by simpa using hi)] at h2
    rw[bA] at h2
    split at h2<;>cases h2
  let ha:vs[i]?=Ψ v:=by
   unfold start at h2
   rw[aT (by simpa using hi),fw] at h2
   cases e:vs[i]? with
   | none=>rw[e] at h2;cases h2
   | some a=>rw[e] at h2;cases h2;rfl
  let(u,hu,rv):=r.get ha
  let hp:ps[i]?=Ψ y:=by
   rw[<- S.pre,bn ⋯];exact h1
  let ndP:ps.Nodup:=by rw[<- S.pre];exact S.nd.sublist (fj _ _)
  exact⟨u,rv,?_⟩
  rcases S.par y (cH hp) with k|k
  ·exact .inl ⟨k,wG ndP hp hu k⟩
  ·let(c,e):=yT (n:=s.heap.objs.size+1) k
   exact .inr ⟨.inl k,c,e,?_⟩
   let q:=x.cell y c e
   rw[wI ndP hp hu (by show scope.names.lookup y≠_;rw[k];decide)] at q
   exact q
 ·exact e0.hok.fresh (kY (x.above y c (cV h)))
 ·unfold start
  show _=N.length
  rw[dP,iK,cp]
  lia
def Ma {CX:Gu}{P:mX}{w:nC}{K:kP}{mg:Str->Option nE}{base:nM}{k:Nat}{f:nP}{name qual:Str}{params:Arguments}{body:List nL}{scope:nF}{dV kV doc pm cdv ct oc:nE}{an od:Option nP}
  {osl:Array (Option nE)}{N ps:List Str}{sp:Sp}(lk:K.lookup f=Ψ ⟨oc,od,.func (kO name qual params body scope dV kV doc pm an cdv ct),osl⟩)(hcd:jp K cdv qual=Ω)(S:FnScope N ps scope)
  (len:∀ vs H Q E,sp vs H Q E->vs.length=ps.length)
  (ZU:∀ (A:nB)(outer:List Env)(s:nh)(H:Hp)(vs:List V)(Q:VK)(E:XK),RoomS k (A.deeper (envOfC qual scope s.heap.objs.size f cdv))->sp vs H Q E ->
   ∃ t,PSs (zX CX P w K mg base N qual scope f cdv A outer s H E) body t/\t { nx:=λ_ H'=>Q .non H',rt:=Q } (start N vs) H) :
  FnOk P w K mg base CX (k+1) f (kO name qual params body scope dV kV doc pm an cdv ct) ps sp:=by
 exact⟨len,λA outer s H args us vs Q E hr e0 hb r hsp=>?_⟩
 let hl:=len _ _ _ _ hsp
 let KX:K.In s.heap:=e0.mod.kin.keeps λb o e=>(e0.bs b o e).1
 let lim:s.heap.NoLimit:=e0.mod.nolimit.keeps λb o e=>(e0.bs b o e).1
 let hkind:∀ y∈ps.zip us,scope.names.lookup y.1=Ψ .local ∨ (scope.names.lookup y.1=Ψ .cell/\((cellsFrom (s.heap.objs.size+1) scope.names []).lookup y.1).isSome=Ω):=λq1 hy=>by
  let(n,v):=q1
  rcases S.par n (iB hy).1 with q|q
  ·exact .inl q
  ·exact .inr ⟨q,bI _ _ _ (.inl q)⟩
 exact codeAny_call_function hr.depth (KX _ _ lk) rfl S.co S.gen rfl (PySem.W.codeRec_of KX hcd) (hb _ _ _ _ ?_)
 exact wpAny_newFunctionEnv_cells S.kind hkind λenv he s1 x=>?_
 subst he
 exact⟨lim.keeps x.toInCall.keep,codeAny_func ?_⟩
 let(t,ht,hq):=ZU A outer s H vs Q E (hr.deeperS _) hsp
 let I:Inv (zX CX P w K mg base N qual scope f cdv A outer s H E) [] (start N vs) H s1:=BY S hr.hd e0 hl r x
 exact lQ (ht [] s1 (start N vs) H _ I hq) (λfl s' hs=>?_) λe s' hs=>hs
 let fin:∀ {σ':St}{H':Hp}{v:V}{u:nE},Inv (zX CX P w K mg base N qual scope f cdv A outer s H E) [] σ' H' s'->RelV v u->Q v H'->CE outer P w H s Q u s' :=
  λ{σ' H' v u} J rv q=>⟨v,H',J.os,J.bare,J.base,J.hok,rv,q⟩
 cases fl with
 | ret u =>
  let(v,σ',H',J,rv,q):=hs
  exact fin J rv q
 | next =>
  let(σ',H',J,q):=hs
  exact fin (v:=V.non) (u:=Value.none) J rfl q
 | brk =>
  let(_,_,_,q):=hs
  exact mw q
 | cont =>
  let(_,_,_,q):=hs
  exact mw q
section
variable {X:Cx}{x:Str}{p pos:Pos}{e:Expr}{es:List Expr}{t:TA}{id T:String}{r:List V->Hp->VK->Prop}
abbrev OM (r:List V->Hp->VK->Prop)(t:TA):TE:=λσ H Q=>t σ H λvs H1=>r vs H1 Q
def qZ (hc:oR X (.builtin id) r)(hg:Gl X x)(hm:X.mg x=Φ)(hv:bootBuiltins x=Ψ (.builtin id))(ha:PA X (e :: es) t)(hn:x≠"__name__":=by decide)(hdb:(x == ("__debug__":Str))=Ξ:=by decide)
  (he:starEach (e :: es) X.env=(Ξ,eval e X.env) :: starEach es X.env:=by rfl)(hpl:(backTo pos (starEach es X.env)).any (·.1)=Ξ:=by rfl):PE X (.Call (.Name x p) (e :: es) [] pos) (OM r t):=by
 intro Z9 s σ H Q I h
 exact dv (sS I hg hm hv ?_ hn hdb)
 exact PyProof.Rows.callWith_builtin1 (oX (ha pos Z9 s σ H _ I h) λus s1 q1=>by let(vs,H1,I1,r1,q1):=q1;exact hc Z9 s1 σ H1 vs us Q I1 r1 q1) he hpl
def tY (hc:oR X (.type T) r)(hg:Gl X x)(hm:X.mg x=Φ)(hv:bootBuiltins x=Ψ (.type T))(ha:PA X (e :: es) t)(hn:x≠"__name__":=by decide)(hdb:(x == ("__debug__":Str))=Ξ:=by decide)
  (he:starEach (e :: es) X.env=(Ξ,eval e X.env) :: starEach es X.env:=by rfl)(hpl:(backTo pos (starEach es X.env)).any (·.1)=Ξ:=by rfl):PE X (.Call (.Name x p) (e :: es) [] pos) (OM r t):=by
 intro Z9 s σ H Q I h
 exact dv (sS I hg hm hv ?_ hn hdb)
 exact aw (oX (ha pos Z9 s σ H _ I h) λus s1 q1=>by let(vs,H1,I1,r1,q1):=q1;exact hc Z9 s1 σ H1 vs us Q I1 r1 q1) he hpl
end
end L2
namespace HT
open PySem PyProof.Rows
abbrev lexLt:List Int->List Int->Bool
 | [],[]=>Ξ
 | [],_ :: _=>Ω
 | _ :: _,[]=>Ξ
 | x :: xs,y :: ys=>if x=y then lexLt xs ys else Δ (x<y)
section
variable {prog:mX}{w:nC}{A:nB}{E:nE->nh->Prop}{s:nh}
def cat_tup {t b:nP}{vs ws:List nE}{Q:nE->nh->Prop}(ht:nJ s.heap t vs.toArray)(hb:nJ s.heap b ws.toArray)(hv:vs≠[])
  (h1:ws=[]->Q (.ref t) s)(h2:ws≠[]->Q (.ref s.heap.objs.size) { s with heap:=s.heap.push { cls:=.type "tuple",data:=.seq (vs++ws).toArray } })
  (hsz:vs.length+ws.length<=sizeLine):wpAny (model prog w) A (binaryOp .Add (.ref t) (.ref b)) Q E s:=by
 let((cls,dd,data,sl),ho,hc,n,hd):=id ht
 let((cls2,dd2,data2,sl2),ho2,hc2,n2,hd2):=id hb
 simp only at hc hd hc2 hd2
 subst hc hd hc2 hd2
 let e:vs.toArray++ws.toArray=(vs++ws).toArray:=∅
 by_cases hw:ws=[]
 ·exact kJ ⟨_,ho,rfl⟩ ⟨_,ho2,rfl⟩ fX jM bJ bx (bj _ _)
   (tuple_addW1 t b vs.toArray ws.toArray n n2 dd dd2 sl sl2 (by simpa using hv) (by simp[hw])) ⟨ho,ho2,h1 hw⟩
 ·refine kJ ⟨_,ho,rfl⟩ ⟨_,ho2,rfl⟩ fX jM bJ bx (bj _ _)
   (tuple_addW2 t b vs.toArray ws.toArray n n2 dd dd2 sl sl2 (by simpa using hv) (by simpa using hw) (by rw[fk,fk];exact hsz)) ⟨ho,ho2,?_⟩
  rw[e]
  exact h2 hw
abbrev sIx (n d:Nat):Option Int->Nat
 | none=>d
 | some v=>if v<0 then (v+(n:Int)).toNat else min v.toNat n
def Hg (n d:Nat)(hd:d<=n)(o:Option Int):sIx n d o<=n:=by
 cases o with
 | none=>exact hd
 | some v =>
  show (if v<0 then (v+(n:Int)).toNat else min v.toNat n)<=n
  by_cases hv:v<0
  ·rw[if_pos hv];lia
  ·rw[if_neg hv];exact Nat.min_le_right _ _
def Bh (v:Int) (n d:Nat):(if v<0 then max (v+(n:Int)) 0 else min v (n:Int))=((sIx n d (Ψ v):Nat):Int):=by
 show (if v<0 then max (v+(n:Int)) 0 else min v (n:Int))=(((if v<0 then (v+(n:Int)).toNat else min v.toNat n):Nat):Int)
 by_cases hv:v<0
 ·simp -iota only[if_pos hv];lia
 ·simp -iota only[if_neg hv];lia
def Ae (lo hi:Option Int) (n:Nat):bc lo hi 1 (n:Int)=(((sIx n 0 lo:Nat):Int),((sIx n n hi:Nat):Int)):=by
 let h1:¬ ((1:Int)<0):=⋯
 unfold bc
 simp -iota only[h1,if_false]
 exact mQ ?_ ?_
 ·cases lo with
  | none=>rfl
  | some v=>exact Bh v n 0
 ·cases hi with
  | none=>rfl
  | some v=>exact Bh v n n
def zy (i j:Nat):aZ (i:Int) (j:Int) 1=j-i:=by
 unfold aZ
 let h1:(1:Int) > 0:=⋯
 simp -iota only[h1,if_true,Int.ediv_one]
 split<;>lia
def uM {v:nE}{o:Option Int}{Q:Option Int->nh->Prop}(p:nr v o)(h:Q o s):wpAny (model prog w) A (Builtin.Slice.slicePartIndex v) Q E s:=by
 cases p with
 | none=>exact jb h
 | int i t=>exact slicePart_int h
def sliceApplied_gen {sl:nP}{vl vu:nE}{lo hi:Option Int}{n:Nat}{Q:Int×Int×Nat->nh->Prop}(hs:s.heap.IsSliceOf sl vl vu .none)(pl:nr vl lo)(pu:nr vu hi)
  (h:Q (((sIx n 0 lo:Nat):Int),1,sIx n n hi-sIx n 0 lo) s):wpAny (model prog w) A (aK (.ref sl) (pure (n:Int))) Q E s:=by
 let(os,hos,hcs,hds):=id hs
 unfold aK Builtin.Slice.sliceFields
 exact lR (lR (lw hos hds (x:=vl) rfl (lR (lw hos hds (x:=vu) rfl (lR (lw hos hds (x:=.none) rfl (lP ?_)))))))
 exact lR (jb ?_)
 show wpAny _ _ (if ((1:Int) == 0)=Ω then _ else _) _ _ s
 rw[if_neg (·)]
 exact lR (uM pl (lR (uM pu (lR (lP ?_)))))
 show wpAny _ _ (match bc lo hi 1 (n:Int) with|(lo,hi)=>pure (lo,(1:Int),aZ lo hi 1)) _ _ s
 rw[Ae lo hi n]
 show wpAny _ _ (pure (((sIx n 0 lo:Nat):Int),(1:Int),aZ ((sIx n 0 lo:Nat):Int) ((sIx n n hi:Nat):Int) 1)) _ _ s
 rw[zy]
 exact lP h
def C6 (xs:Array nE) (i k:Nat):((mm k).filterMap λ(m:Nat)=>xs[((i:Int)+(m:Int)*1).toNat]?).toArray=((xs.toList.drop i).take k).toArray:=by
 let e:(λ(m:Nat)=>xs[((i:Int)+(m:Int)*1).toNat]?)=λm=>xs[i+m]?:=by
  funext m
  have:((i:Int)+(m:Int)*1).toNat=i+m:=⋯
  rw[this]
 rw[e]
 have:=pick_run xs i k
 rw[List.filterMap_map] at this
 let e2:((λx=>xs[x]?) ∘ λx=>i+x)=λm=>xs[i+m]?:=rfl
 rw[e2] at this
 rw[this]
def getItem_tuple_cut {t sl:nP}{items:Array nE}{vl vu:nE}{lo hi:Option Int}{Q:nE->nh->Prop}(ht:nJ s.heap t items)(hs:s.heap.IsSliceOf sl vl vu .none)(pl:nr vl lo)(pu:nr vu hi)
  (hw:¬ (sIx items.size 0 lo=0/\sIx items.size items.size hi=items.size))
  (h:Q (.ref s.heap.objs.size) { s with heap:=s.heap.push { cls:=.type "tuple",data:=.seq ((items.toList.drop (sIx items.size 0 lo)).take (sIx items.size items.size hi-sIx items.size 0 lo)).toArray } })
  (hsz:items.size<=sizeLine):wpAny (model prog w) A (getItem (.ref t) (.ref sl)) Q E s:=by
 let htake:sizeOk (.seq ((items.toList.drop (sIx items.size 0 lo)).take (sIx items.size items.size hi-sIx items.size 0 lo)).toArray):=by
  show ((items.toList.drop (sIx items.size 0 lo)).take (sIx items.size items.size hi-sIx items.size 0 lo)).toArray.size<=sizeLine
  rw[fk,gz,gB,dk]
  lia
 let hj:sIx items.size items.size hi<=items.size:=Hg _ _ (lJ _) hi
 let(os,hos,hcs,hds):=id hs
 let hTs:s.TypeIs (.ref sl) "slice":=⟨os,hos,hcs⟩
 unfold getItem
 try with_reducible exact jI ?_
 first|exact lR (lP ?_)|skip
 exact lR (eI ht.typeIs (·) ?_)
 refine lR (bv (name:=kL "__getitem__") ht.typeIs ag
  (fV ag ht.typeIs cU ?_ (dA _ _)))
 show wpAny _ _ (aI (.ref t) >>= _) _ _ s
 exact lR (jL ht ?_)
 exact lR (kH hTs ?_)
 rw[if_pos (·)]
 exact lR (sliceApplied_gen hs pl pu ?_)
 let hno:¬ ((((sIx items.size 0 lo:Nat):Int) == 0 && (1:Int) == 1 && (sIx items.size items.size hi-sIx items.size 0 lo) == items.size)=Ω):=by
  intro q
  rw[gR,gR] at q
  let q1:((sIx items.size 0 lo:Nat):Int)=0:=eq_of_beq q.1.1
  let q2:sIx items.size items.size hi-sIx items.size 0 lo=items.size:=eq_of_beq q.2
  exact hw ⟨⋯,⋯⟩
 show wpAny _ _ (if (((sIx items.size 0 lo:Nat):Int) == 0 && (1:Int) == 1 && (sIx items.size items.size hi-sIx items.size 0 lo) == items.size)=Ω then _ else _) _ _ s
 rw[if_neg hno,C6]
 first
  | exact lR (m:=bq _) (eM (lP ⟨_,rfl,lP h⟩) htake)
  | exact lR (m:=bq _) (eM (lR (lP (lP ⟨_,rfl,lP h⟩))) htake)
  | exact lR (lR (m:=bq _) (eM (lP (lP ⟨_,rfl,lP h⟩)) htake))
  | exact lR (lR (m:=bq _) (eM (lP ⟨_,rfl,lP h⟩) htake))
end
end HT
namespace L2
open PySem PySem.Spec PyProof.Rows
noncomputable abbrev TO:=St->Hp->(Option Int->Hp->Prop)->Prop
abbrev PO (X:Cx)(e:Option Expr)(t:TO):Prop :=
 ∀ (Z9:List (nP×Obj))(s:nh)(σ:St)(H:Hp)(Q:Option Int->Hp->Prop),Inv X Z9 σ H s->t σ H Q ->
  wpAny (model X.prog X.w) X.A (evalPart e X.env) (λu s'=>∃ o H',Inv X Z9 σ H' s'/\nr u o/\Q o H') X.xe s
abbrev EH:TO:=λ_ H Q=>Q Φ H
abbrev KO (t:TE):TO:=λσ H Q=>t σ H λx H1=>∃ i,x=.int i/\Q (Ψ i) H1
section
variable {X:Cx}{e:Expr}{te:TE}{lo hi:Option Expr}{tl th:TO}{pos p2:Pos}
def E4:PO X Φ EH:=by
 intro Z9 s σ H Q I h
 rw[jQ]
 exact lP ⟨Φ,H,I,.none,h⟩
def E3 (h:PE X e te):PO X (Ψ e) (KO te):=by
 intro Z9 s σ H Q I hw
 rw[evalPart_some]
 exact oX (h Z9 s σ H _ I hw) λu s1 q1=>?_;let(x,H1,I1,r1,q1):=q1
 let(i,rfl,q):=q1
 let(t,rfl):=r1
 exact⟨Ψ i,H1,I1,.int i t,q⟩
abbrev KF (X:Cx)(r:V->Option Int->Option Int->Hp->VK->Prop):Prop :=
 ∀ (Z9:List (nP×Obj))(s:nh)(σ:St)(H:Hp)(x:V)(v vl vu:nE)(lo hi:Option Int)(sl:nP)(Q:VK),Inv X Z9 σ H s->RelV x v->s.heap.IsSliceOf sl vl vu .none->nr vl lo->nr vu hi->r x lo hi H Q ->
  ∃ T id,typeLookup (.type T) "__getitem__" = pure (Ψ (.builtin id))/\s.TypeIs v T/\wpAny (model X.prog X.w) X.A (getItem v (.ref sl)) (EP X Z9 σ Q) X.xe s
abbrev tSl (r:V->Option Int->Option Int->Hp->VK->Prop)(te:TE)(tl th:TO):TE:=λσ H Q=>te σ H λx H1=>tl σ H1 λl H2=>th σ H2 λu H3=>r x l u H3 Q
def uW {r:V->Option Int->Option Int->Hp->VK->Prop}(hr:KF X r)(he:PE X e te)(hl:PO X lo tl)(hu:PO X hi th):PE X (.Subscript e (.Slice lo hi Φ p2) pos) (tSl r te tl th):=by
 intro Z9 s σ H Q I h
 exact lX (oX (he Z9 s σ H _ I h) λv s1 ⟨x,H1,I1,r1,q1⟩=>?_)
 exact wpAny_Slice (oX (hl Z9 s1 σ H1 _ I1 q1) λvl s2 ⟨l,H2,I2,pl,q2⟩=>oX (hu Z9 s2 σ H2 _ I2 q2) λvu s3 ⟨u,H3,I3,pu,q3⟩=>?_)
 rw[jQ]
 exact lP ?_
 let I4:Inv X Z9 σ H3 { s3 with heap:=s3.heap.push { cls:=.type "slice",data:=.fields #[vl,vu,.none] } }:=I3.kept (t':=s3.toks) λb ob q=>bS _ q
 let(T,id,hT,ht,hg):=hr Z9 { s3 with heap:=s3.heap.push { cls:=.type "slice",data:=.fields #[vl,vu,.none] } } σ H3 x v vl vu l u s3.heap.objs.size Q I4 r1 (Heap.IsSliceOf.new ..) pl pu q3
 show wpAny (model X.prog X.w) X.A (subscriptTail e (.Slice lo hi Φ p2) v (.ref s3.heap.objs.size)) (EP X Z9 σ Q) X.xe { s3 with heap:=s3.heap.push { cls:=.type "slice",data:=.fields #[vl,vu,.none] } }
 exact tail_any (ops:=[.ref s3.heap.objs.size,v]) ht hT hg (by with_unfolding_all rfl)
abbrev yR (xs:List V)(lo hi:Option Int):List V:=(xs.drop (HT.sIx xs.length 0 lo)).take (HT.sIx xs.length xs.length hi-HT.sIx xs.length 0 lo)
def ui (xs:List V)(lo hi:Option Int):(yR xs lo hi).length<=xs.length:=by
 unfold yR
 rw[gz,gB]
 lia
inductive rSlT (K:kP)(x:V)(lo:Option Int)(hi:Option Int)(H:Hp)(Q:VK):Prop
 | mk (a:_)(xs:_)(_:x=.ref a)(_:SqT K H a xs)(_:¬ (HT.sIx xs.length 0 lo=0/\HT.sIx xs.length xs.length hi=xs.length))(_:∀ p,H p=Φ->Q (.ref p) (oT H p (.tup (yR xs lo hi)))):rSlT K x lo hi H Q
def Hc:KF X (rSlT X.K):=by
 intro Z9 s σ H x v vl vu lo hi sl Q I rx hs pl pu h
 let(a,xs,rfl,hx,hw,q):=h
 cases rx
 let(Z7,r,ht,hz):=I.tuple hx
 let hlen:Z7.toArray.size=xs.length:=by rw[fk];exact r.length.symm
 exact⟨"tuple",_,ag.lookup,ht.typeIs,?_⟩
 exact HT.getItem_tuple_cut ht hs pl pu (by rw[hlen];exact hw) ?_ (by rw[hlen];exact hz)
 rw[hlen]
 exact⟨.ref s.heap.objs.size,_,I.laid (t':=s.toks) (o:=.tup (yR xs lo hi)) (λb ob q=>bS _ q) (lJ _) ?_,rfl,q _ (I.hok.fresh (lJ _))⟩
 exact⟨kX (ui xs lo hi) hz,_,(r.drop (HT.sIx xs.length 0 lo)).take (HT.sIx xs.length xs.length hi-HT.sIx xs.length 0 lo),mD _ _⟩
inductive rCatT (K:kP)(x:V)(y:V)(H:Hp)(Q:VK):Prop
 | mk (a:_)(b:_)(xs:_)(ys:_)(_:x=.ref a)(_:y=.ref b)(_:SqT K H a xs)(_:SqT K H b ys)(_:xs≠[])(_:xs.length+ys.length<=sizeLine)(_:(ys=[]->Q (.ref a) H))(_:(ys≠[]->∀ p,H p=Φ->Q (.ref p) (oT H p (.tup (xs++ys))))):rCatT K x y H Q
def Vals.nil_iff {xs:List V}{us:List nE}(r:Vals xs us):us=[]↔xs=[]:=by
 cases r with
 | nil=>simp
 | cons _ _=>simp
def Fh:qC X (binaryOp .Add) (rCatT X.K):=by
 intro Z9 s σ H x y v u Q I rx ry h
 let(a,b,xs,ys,rfl,rfl,ha,hb,hx,hz,q1,q2):=h
 cases rx
 cases ry
 let(Z7,r1,p1,_):=I.tuple ha
 let(its2,r2,p2,_):=I.tuple hb
 exact HT.cat_tup p1 p2 (λz=>hx (r1.nil_iff.mp z)) (λz=>⟨.ref a,H,I,rfl,q1 (r2.nil_iff.mp z)⟩) (λz=>?_) (by rw[<- r1.length,<- r2.length];exact hz)
 exact⟨.ref s.heap.objs.size,_,I.laid (t':=s.toks) (o:=.tup (xs++ys)) (λb ob q=>bS _ q) (lJ _) ?_,rfl,q2 (λw=>z (r2.nil_iff.mpr w)) _ (I.hok.fresh (lJ _))⟩
 exact⟨by rw[dP];exact hz,_,r1.append r2,mD _ _⟩
end
abbrev ixN (n:Nat) (i:Int):Option Nat:=if 0<=i then (if i<n then Ψ i.toNat else Φ) else if -(n:Int)<=i then Ψ (i+n).toNat else Φ
abbrev atI {α:Type}(xs:List α) (i:Int):Option α:=(ixN xs.length i).bind λj=>xs[j]?
def AQ {n:Nat}{i:Int}{j:Nat}(h:ixN n i=Ψ j):seqIndex? i n=Ψ j/\j<n/\-(n:Int)<=i/\i<n:=by
 unfold ixN at h
 by_cases h0:0<=i
 ·rw[if_pos h0] at h
  by_cases h1:i<n
  ·rw[if_pos h1] at h
   let e:i.toNat=j:=ip h
   exact⟨by rw[lC h0 h1,e],⋯,⋯,h1⟩
  ·rw[if_neg h1] at h;cases h
 ·rw[if_neg h0] at h
  by_cases h1:-(n:Int)<=i
  ·rw[if_pos h1] at h
   let e:(i+n).toNat=j:=ip h
   exact⟨by rw[kI ⋯ h1,e],⋯,h1,⋯⟩
  ·rw[if_neg h1] at h;cases h
def Bl {α:Type}{xs:List α}{i:Int}{v:α}(h:atI xs i=Ψ v):∃ j,seqIndex? i xs.length=Ψ j/\xs[j]?=Ψ v/\j<xs.length/\-(xs.length:Int)<=i/\i<xs.length:=by
 unfold atI at h
 cases e:ixN xs.length i with
 | none=>rw[e] at h;cases h
 | some j =>
  rw[e] at h
  let(h1,h2,h3,h4):=AQ e
  exact⟨j,h1,h,h2,h3,h4⟩
abbrev Bo (b:Expr):Prop:=∀ o i,subscripted b Ξ o i=operate [o,i] (getItem o i)
abbrev Oz (X:Cx)(r:R2):Prop :=
 ∀ (value slice:Expr)(Z9:List (nP×Obj))(s:nh)(σ:St)(H:Hp)(x y:V)(v u:nE)(Q:VK),Inv X Z9 σ H s->RelV x v->RelV y u->r x y H Q ->
  subscripted slice Ξ v u=operate [v,u] (getItem v u)->wpAny (model X.prog X.w) X.A (subscriptTail value slice v u) (EP X Z9 σ Q) X.xe s
abbrev MtR (X:Cx)(id:String)(r:V->List V->Hp->VK->Prop):Prop :=
 ∀ (Z9:List (nP×Obj))(s:nh)(σ:St)(H:Hp)(x:V)(xs:List V)(v:nE)(us:List nE)(Q:VK),Inv X Z9 σ H s->RelV x v->Vals xs us->r x xs H Q ->
  wpAny (model X.prog X.w) X.A (call (.builtin id) (v :: us)) (EP X Z9 σ Q) X.xe s
section
variable {X:Cx}{a b:Expr}{ta tb:TE}{pos:Pos}
def GF {r:R2}(hr:Oz X r)(ha:PE X a ta)(hb:PE X b tb)(hs:Bo b):PE X (.Subscript a b pos) (G5 r ta tb):=by
 intro Z9 s σ H Q I h
 exact lX (JJ ha hb I h λv u s2 x y H2 I2 rx ry q=>hr a b Z9 s2 σ H2 x y v u Q I2 rx ry q (hs _ _))
inductive rIxL (K:kP)(x:V)(y:V)(H:Hp)(Q:VK):Prop
 | mk (p:_)(xs:_)(i:_)(v:_)(_:x=.ref p)(_:y=.int i)(_:SqL K H p xs)(_:atI xs i=Ψ v)(_:Q v H):rIxL K x y H Q
inductive rIxT (K:kP)(x:V)(y:V)(H:Hp)(Q:VK):Prop
 | mk (p:_)(xs:_)(i:_)(v:_)(_:x=.ref p)(_:y=.int i)(_:SqT K H p xs)(_:atI xs i=Ψ v)(_:Q v H):rIxT K x y H Q
def FJ:Oz X (rIxL X.K):=by
 intro value slice Z9 s σ H x y v u Q I rx ry h hs
 let(p,xs,i,z,rfl,rfl,hq,he,q):=h
 cases rx
 let(t,rfl):=ry
 let(Z7,r,pl,hz):=I.list hq
 let(j,h1,h2,h3,h4,h5):=Bl he
 let(w,ew,rw'):=r.get h2
 let hl:=r.length
 let hn:=u9
 let fin:EP X Z9 σ Q w s:=⟨z,H,I,rw',q⟩
 by_cases h0:0<=i
 ·let hj:i.toNat=j:=by
   rw[lC h0 h5] at h1
   exact ip h1
  exact item_listR pl.isList h0 ⋯ (by rw[hj];simpa using ew) fin hs
 ·let hj:(i+(Z7.toArray.size:Int)).toNat=j:=by
   rw[kI ⋯ h4] at h1
   rw[fk,<- hl]
   exact ip h1
  exact bF (x:=w) pl.isList.typeIs eR.lookup
   (wpAny_getItem_list_neg (Q:=λr s'=>r=w/\EP X Z9 σ Q r s') pl.isList ⋯ (by rw[fk]<;>lia) ⋯ (by rw[hj];simpa using ew) ⟨rfl,fin⟩) hs
def Iz:Oz X (rIxT X.K):=by
 intro value slice Z9 s σ H x y v u Q I rx ry h hs
 let(p,xs,i,z,rfl,rfl,hq,he,q):=h
 cases rx
 let(t,rfl):=ry
 let(Z7,r,pl,hz):=I.tuple hq
 let(j,h1,h2,h3,h4,h5):=Bl he
 let(w,ew,rw'):=r.get h2
 let hl:=r.length
 let hn:=u9
 let fin:EP X Z9 σ Q w s:=⟨z,H,I,rw',q⟩
 exact bF (x:=w) pl.typeIs slot_tuple_getitem.lookup
  (getItem_tuple (j:=j) (Q:=λr s'=>r=w/\EP X Z9 σ Q r s') pl ⋯ ⋯ (by rw[fk,<- hl];exact h1) (by simpa using ew) ⟨rfl,fin⟩) hs
def zG (Z7:List nE) (n j:Nat)(u:nE):ma (·.setIfInBounds j u) { cls:=.type "list",data:=.seq Z7.toArray n } = { cls:=.type "list",data:=.seq (Z7.set j u).toArray n }:=by
 simp[ma]
def Inv.lst {Z9:List (nP×Obj)}{σ:St}{H:Hp}{s:nh}{p:nP}{xs:List V}(I:Inv X Z9 σ H s)(h:H p=Ψ (.lst xs)) :
  ∃ (Z7:List nE) (n:Nat),Vals xs Z7/\s.heap.get? p=Ψ { cls:=.type "list",data:=.seq Z7.toArray n }/\xs.length<=sizeLine:=by
 let(z,Z7,n,r,e):=I.hok p _ h
 exact⟨Z7,n,r,e,z⟩
def Inv.lstUpd {Z9:List (nP×Obj)}{σ:St}{H:Hp}{s:nh}{p:nP}{xs ys:List V}{Z7 its':List nE}{n n':Nat}{f:Obj->Obj}(I:Inv X Z9 σ H s)(h:H p=Ψ (.lst xs))
  (ho:s.heap.get? p=Ψ { cls:=.type "list",data:=.seq Z7.toArray n })(hf:f { cls:=.type "list",data:=.seq Z7.toArray n } = { cls:=.type "list",data:=.seq its'.toArray n' })(r:Vals ys its')(hz:ys.length<=sizeLine) (t:Nat) :
  Inv X Z9 σ (oT H p (.lst ys)) { s with heap:=s.heap.update p f,toks:=t }:=by
 let e:(s.heap.update p f).get? p=Ψ { cls:=.type "list",data:=.seq its'.toArray n' }:=by
  rw[cw f ho (by rw[hf]<;>rfl),hf]
 exact I.write (x:=p) (e:=p) (by rw[h];trivial) (.inl rfl) (λb u hb q=>(bR _ _ (mZ hb)).trans q) ⟨_,e⟩ ?_
 exact⟨hz,its',n',r,e⟩
inductive rSetL (o:V)(i:V)(v:V)(H:Hp)(Q:(Hp->Prop)):Prop
 | mk (p:_)(xs:_)(k:_)(j:_)(_:o=.ref p)(_:i=.int k)(_:H p=Ψ (.lst xs))(_:ixN xs.length k=Ψ j)(_:Q (oT H p (.lst (xs.set j v)))):rSetL o i v H Q
def CO:MU X rSetL:=by
 intro Z9 s σ H o i v ov iv u Q I ro ri rv h
 let(p,xs,k,j,rfl,rfl,hp,hj,q):=h
 cases ro
 let(t,rfl):=ri
 let(Z7,n,r,ho,hz):=I.lst hp
 let(h1,h2,h3,h4):=AQ hj
 let hl:=r.length
 let hn:=u9
 let I':Inv X Z9 σ (oT H p (.lst (xs.set j v))) { s with heap:=s.heap.update p (ma (·.setIfInBounds j u)) } :=
  I.lstUpd hp ho (zG Z7 n j u) (r.set rv j) (by rw[iI];exact hz) s.toks
 by_cases h0:0<=k
 ·let hk:k.toNat=j:=by
   rw[lC h0 h4] at h1
   exact ip h1
  exact PySem.W.ki_setAt ho h0 ⋯ (by rw[fk,<- hl];exact h4) (by rw[hk];exact⟨_,I',q⟩)
 ·let hk:(k+(Z7.toArray.size:Int)).toNat=j:=by
   rw[kI ⋯ h3] at h1
   rw[fk,<- hl]
   exact ip h1
  exact PySem.W.ki_setBack ho ⋯ (by rw[fk,<- hl];exact h3) ⋯ (by rw[hk];exact⟨_,I',q⟩)
def wP (lo hi:Option Int) (n:Nat):(sliceBounds lo hi Φ n).1=((HT.sIx n 0 lo:Nat):Int)/\(sliceBounds lo hi Φ n).2.1=((HT.sIx n n hi:Nat):Int)/\(sliceBounds lo hi Φ n).2.2=1:=by
 exact⟨?_,?_,rfl⟩
 ·cases lo with
  | none=>simp[sliceBounds,HT.sIx]
  | some i =>
   simp![sliceBounds,HT.sIx,gb,show (1:Int) > 0 by decide,if_true]
   by_cases h:i<0
   ·simp![h,if_true]<;>lia
   ·simp![h,if_false]<;>lia
 ·cases hi with
  | none=>simp[sliceBounds,HT.sIx]
  | some i =>
   simp![sliceBounds,HT.sIx,gb,show (1:Int) > 0 by decide,if_true]
   by_cases h:i<0
   ·simp![h,if_true]<;>lia
   ·simp![h,if_false]<;>lia
def vI (Z7:List nE)(lo hi:Option Int):slicePick Z7.toArray lo hi Φ=((Z7.drop (HT.sIx Z7.length 0 lo)).take (HT.sIx Z7.length Z7.length hi-HT.sIx Z7.length 0 lo)).toArray:=by
 let(h1,h2,h3):=wP lo hi Z7.toArray.size
 unfold slicePick
 rw[h1,h2,h3]
 simp -iota only[sliceRange_one,pick_run,fk]<;>rfl
inductive rSlL (K:kP)(x:V)(lo:Option Int)(hi:Option Int)(H:Hp)(Q:VK):Prop
 | mk (a:_)(xs:_)(_:x=.ref a)(_:SqL K H a xs)(_:∀ p,H p=Φ->Q (.ref p) (oT H p (.lst (yR xs lo hi)))):rSlL K x lo hi H Q
def Al:KF X (rSlL X.K):=by
 intro Z9 s σ H x v vl vu lo hi sl Q I rx hs pl pu h
 let(a,xs,rfl,hx,q):=h
 cases rx
 let(Z7,r,ht,hz):=I.list hx
 let hlen:=r.length
 exact⟨"list",_,eR.lookup,ht.isList.typeIs,?_⟩
 exact wpAny_getItem_list_slice ht.isList hs pl pu .none ∅ ?_ (by rw[fk]<;>lia)
 rw[vI,<- hlen]
 exact⟨.ref s.heap.objs.size,_,I.laid (t':=s.toks) (o:=.lst (yR xs lo hi)) (λb ob q=>bS _ q) (lJ _) ?_,rfl,q _ (I.hok.fresh (lJ _))⟩
 exact⟨kX (ui xs lo hi) hz,_,0,(r.drop (HT.sIx xs.length 0 lo)).take (HT.sIx xs.length xs.length hi-HT.sIx xs.length 0 lo),dc _ rfl⟩
def xG:oR X (.builtin "len") (λxs H Q=>∃ p ys,xs=[.ref p]/\(SqL X.K H p ys ∨ SqT X.K H p ys)/\Q (.int ys.length) H):=by
 intro Z9 s σ H xs us Q I r h
 let(p,ys,rfl,hq,q):=h
 let(u,rfl,rx):=vals1 r
 cases rx
 let hn:=u9
 rcases hq with hq|hq
 ·let(Z7,r',pl,hz):=I.list hq
  let hlen:=r'.length
  exact Calls.call_len_list pl.isList (by simp -iota only[fk]<;>lia) ⟨.int ys.length,H,I.tok _,⟨s.toks+1,by rw[fk,hlen]⟩,q⟩
 ·let(Z7,r',pl,hz):=I.tuple hq
  let hlen:=r'.length
  exact len_tuple pl (by simp -iota only[fk]<;>lia) ⟨.int ys.length,H,I.tok _,⟨s.toks+1,by rw[fk,hlen]⟩,q⟩
def xF:oR X (.type "list") (λxs H Q=>∃ p ys,xs=[.ref p]/\(SqL X.K H p ys ∨ SqT X.K H p ys)/\∀ l,H l=Φ->Q (.ref l) (oT H l (.lst ys))):=by
 intro Z9 s σ H xs us Q I r h
 let(p,ys,rfl,hq,q):=h
 let(u,rfl,rx):=vals1 r
 cases rx
 let fin:∀ (Z7:List nE),Vals ys Z7->ys.length<=sizeLine->∀ (h':nM) (c':Nat),(∀ b o',s.heap.get? b=Ψ o'->h'.get? b=Ψ o') ->
   h'.get? s.heap.objs.size=Ψ { cls:=.type "list",dict:=Φ,data:=.seq Z7.toArray c',slots:=#[] }->EP X Z9 σ Q (.ref s.heap.objs.size) { s with heap:=h' }:=λZ7 r' hz h' c' kp e =>
  ⟨.ref s.heap.objs.size,_,I.laid (t':=s.toks) kp (lJ _) (show ObjOk X.prog X.w _ h' _ (.lst ys) from ⟨hz,Z7,c',r',e⟩),rfl,q _ (I.hok.fresh (lJ _))⟩
 rcases hq with hq|hq
 ·let(Z7,r',pl,hz):=I.list hq
  let hlen:=r'.length
  let(o,ho,hc,n,hd):=pl.isList
  exact jS p (.inl rfl) ho hc hd (λh' c' kp e=>fin Z7 r' hz h' c' kp e) (by simp -iota only[fk]<;>lia)
 ·let(Z7,r',pl,hz):=I.tuple hq
  let hlen:=r'.length
  let(o,ho,hc,n,hd):=pl
  exact jS p (.inr rfl) ho hc hd (λh' c' kp e=>fin Z7 r' hz h' c' kp e) (by simp -iota only[fk]<;>lia)
def qS:oR X (.type "tuple") (λxs H Q=>∃ p ys,xs=[.ref p]/\((SqL X.K H p ys/\∀ l,H l=Φ->Q (.ref l) (oT H l (.tup ys))) ∨ (SqT X.K H p ys/\Q (.ref p) H))):=by
 intro Z9 s σ H xs us Q I r h
 let(p,ys,rfl,h):=h
 let(u,rfl,rx):=vals1 r
 cases rx
 rcases h with⟨hq,q⟩|⟨hq,q⟩
 ·let(Z7,r',pl,hz):=I.list hq
  let hlen:=r'.length
  exact call_tuple_list pl.isList (λh' kp=>?_) (by simp -iota only[fk]<;>lia)
  let I1:Inv X Z9 σ H { s with heap:=h' }:=I.kept (t':=s.toks) kp
  let I2:Inv X Z9 σ (oT H h'.objs.size (.tup ys)) { s with heap:=h'.push { cls:=.type "tuple",data:=.seq Z7.toArray } } :=
   I1.laid (t':=s.toks) (λb o e=>bS _ e) (lJ _) (show ObjOk X.prog X.w _ _ _ (.tup ys) from ⟨hz,Z7,r',mD _ _⟩)
  exact⟨.ref h'.objs.size,_,I2,rfl,q _ (I1.hok.fresh (lJ _))⟩
 ·let(Z7,r',pl,hz):=I.tuple hq
  exact call_tuple_same pl ⟨.ref p,H,I,rfl,q⟩
abbrev OC (K:kP)(T:String)(x:V)(H:Hp):Prop:=match x with
 | .str _=>T = "str"
 | .int _=>T = "int"
 | .ref p=>(T = "list"/\∃ xs,SqL K H p xs) ∨ (T = "tuple"/\∃ o,K.lookup p=Ψ o/\o.cls=.type "tuple"/\o.dict=Φ) ∨
   (T = "dict"/\((∃ Z6,H p=Ψ (.dK Z6)) ∨ ∃ Z6,H p=Ψ (.dT Z6))) ∨ (T = "set"/\∃ S n,H p=Ψ (.set S n))
 | _=>False
def Cu {Z9:List (nP×Obj)}{σ:St}{H:Hp}{s:nh}{T:String}{x:V}{v:nE}(I:Inv X Z9 σ H s)(r:RelV x v)(ty:OC X.K T x H) :
  s.TypeIs v T/\∀ a,v=.ref a->∃ ob,s.heap.get? a=Ψ ob/\ob.dict=Φ:=by
 cases x with
 | str z =>
  let(t,rfl):=r
  cases (show T = "str" from ty)
  exact⟨typeIs_str s z t,λ_ e=>nomatch e⟩
 | int i =>
  let(t,rfl):=r
  cases (show T = "int" from ty)
  exact⟨lU s i t,λ_ e=>nomatch e⟩
 | ref p =>
  cases r
  rcases ty with⟨rfl,xs,hq⟩|⟨rfl,o,hk,hc,hd⟩|⟨rfl,hk⟩|⟨rfl,S,n,hk⟩
  ·let(Z7,_,pl,_):=I.list hq
   exact⟨pl.isList.typeIs,λa e=>?_⟩
   cases e
   let(o,n,e,c,hd,_):=pl
   exact⟨o,e,hd⟩
  ·exact⟨⟨o,I.kIn p o hk,hc⟩,λa e=>?_⟩
   cases e
   exact⟨o,I.kIn _ o hk,hd⟩
  ·let z:∃ o,s.heap.get? p=Ψ o/\o.ExactDict:=by
    rcases hk with⟨Z6,hk⟩|⟨Z6,hk⟩
    ·let(_,_,_,_,o,_,_,e,ex,_):=I.hok p _ hk
     exact⟨o,e,ex⟩
    ·let(_,_,_,_,o,_,_,e,ex,_):=I.hok p _ hk
     exact⟨o,e,ex⟩
   let(o,e,ex):=z
   exact⟨⟨o,e,ex.1⟩,λa e2=>?_⟩
   cases e2
   exact⟨o,e,ex.2.1⟩
  ·let(o,_,_,_,e,ex,_):=I.hok p _ hk
   exact⟨⟨o,e,ex.1⟩,λa e2=>?_⟩
   cases e2
   exact⟨o,e,ex.2.1⟩
 | _=>exact mw ty
abbrev ON (K:kP)(T:String)(r:V->List V->Hp->VK->Prop)(to:TE):TE:=λσ H Q=>to σ H λx H1=>OC K T x H1/\r x [] H1 Q
abbrev tBM (K:kP)(T:String)(r:V->List V->Hp->VK->Prop)(to:TE)(t:TA):TE:=λσ H Q=>to σ H λx H1=>OC K T x H1/\t σ H1 λxs H2=>r x xs H2 Q
variable {o e:Expr}{es:List Expr}{to:TE}{t:TA}{name:Str}{ZZ Z0:Pos}{T id:String}{r:V->List V->Hp->VK->Prop}
def HJ (pa:PlainAttrs T)(slot:Slot T name id)(hty:typeOf (.builtin id)=pure (.type "method_descriptor"))(hm:MtR X id r)(ho:PE X o to)
  (hbase:attributeBase o name X.env (eval o X.env)=eval o X.env:=by rfl)(hline:(ZZ.endLine == Z0.line)=Ω:=by rfl):PE X (.Call (.Attribute o name ZZ) [] [] Z0) (ON X.K T r to):=by
 intro Z9 s σ H Q I h
 exact wpAny_Call_method0_late hbase hline (oX (ho Z9 s σ H _ I h) λv s1 ⟨x,H1,I1,r1,ty,q1⟩=>?_)
 let(h1,h2):=Cu I1 r1 ty
 exact⟨T,id,pa,slot,hty,h1,h2,bU rfl (PySem.evalArgs_none (hm Z9 s1 σ H1 x [] v [] Q I1 r1 .nil q1))⟩
def GG (pa:PlainAttrs T)(slot:Slot T name id)(hty:typeOf (.builtin id)=pure (.type "method_descriptor"))(hm:MtR X id r)(ho:PE X o to)(ha:PA X (e :: es) t)
  (hbase:attributeBase o name X.env (eval o X.env)=eval o X.env:=by rfl)
  (hfew:((backTo Z0 (starEach (e :: es) X.env)).all (λx=>!x.1) && (backToKw Z0 (keywordEach [] X.env)).all (λx=>x.1.isSome)
   && Δ ((e :: es).length+([]:List Keyword).length+(if ([]:List Keyword).isEmpty then 0 else 1)<30))=Ω:=by rfl)
  (hline:(ZZ.endLine == Z0.line)=Ω:=by rfl)(hs:starEach (e :: es) X.env=(Ξ,eval e X.env) :: starEach es X.env:=by rfl)(hplain:(backTo Z0 (starEach es X.env)).any (·.1)=Ξ:=by rfl) :
  PE X (.Call (.Attribute o name ZZ) (e :: es) [] Z0) (tBM X.K T r to t):=by
 intro Z9 s σ H Q I h
 exact wpAny_Call_method_late hbase hfew hline rfl (oX (ho Z9 s σ H _ I h) λv s1 ⟨x,H1,I1,r1,ty,q1⟩=>?_)
 let(h1,h2):=Cu I1 r1 ty
 exact⟨T,id,pa,slot,hty,h1,h2,?_⟩
 let hA:=ha Z0 Z9 s1 σ H1 _ I1 q1
 rw[hs] at hA ⊢
 exact bU (by show (Ξ || (backTo Z0 (starEach es X.env)).any (·.1))=Ξ;rw[hplain]<;>rfl) (Calls.evalArgs_plain ?_)
 exact oX hA λus s2 q2=>?_;let(vs,H2,I2,r2,q2):=q2;exact hm Z9 s2 σ H2 x vs v us Q I2 r1 r2 q2
end
abbrev Sn (X:Cx)(id:String)(r:V->List V->Hp->VK->Prop):Prop :=
 ∀ (Z9:List (nP×Obj))(s:nh)(σ:St)(H:Hp)(x:V)(xs:List V)(v:nE)(us:List nE)(Q:VK),Inv X Z9 σ H s->RelV x v->Vals xs us->r x xs H Q ->
  wpAny (model X.prog X.w) X.A (call (.builtin id) (v :: us)) (EP X Z9 σ Q) X.xe s
def Vals.one:∀ {x:V}{us:List nE},Vals [x] us->∃ u,us=[u]/\RelV x u:=λh=>by
 let(u,r,rfl,h1,h2):=h.unc
 exact⟨u,by rw[h2.unn],h1⟩
def Vals.two:∀ {x y:V}{us:List nE},Vals [x,y] us->∃ u v,us=[u,v]/\RelV x u/\RelV y v:=λh=>by
 let(u,r,rfl,h1,h2):=h.unc
 let(v,rfl,h3):=h2.one
 exact⟨u,v,rfl,h1,h3⟩
def Vals.zero:∀ {us:List nE},Vals [] us->us=[]:=λh=>h.unn
def Vals.dropLast {xs:List V}{us:List nE}(h:Vals xs us):Vals xs.dropLast us.dropLast:=by
 induction h with
 | nil=>exact .nil
 | cons r t ih =>
  cases t with
  | nil=>exact .nil
  | cons q t'=>exact .cons r ih
def Vals.rep {xs:List V}{us:List nE}(h:Vals xs us):∀ k:Nat,Vals (jt k xs).flatten (jt k us).flatten
 | 0=>.nil
 | k+1=>by
  rw[cZ,cZ,fx,fx]
  exact Vals.append h (Vals.rep h k)
def zO {α:Type}(l:List α):l.eraseIdx (l.length-1)=l.dropLast:=by
 induction l with
 | nil=>rfl
 | cons a r ih =>
  cases r with
  | nil=>rfl
  | cons b r =>
   let e:(a :: b :: r).length-1=((b :: r).length-1)+1:=by
    let h1:(a :: b :: r).length=r.length+2:=rfl
    let h2:(b :: r).length=r.length+1:=rfl
    lia
   rw[e,bB,ih]
   all_goals rfl
def foldl_rep (Z7:List nE):∀ (k:Nat)(Z8:List nE),
  mn (λx1 x2=>x1++x2) Z8.toArray (jt k Z7.toArray)=(Z8++(jt k Z7).flatten).toArray
 | 0,Z8=>by simp
 | k+1,Z8=>by
  let e:Z8.toArray++Z7.toArray=(Z8++Z7).toArray:=∅
  let e2:(Z8++Z7)++(jt k Z7).flatten=Z8++(jt (k+1) Z7).flatten:=by
   rw[cZ,fx,fE]
  rw[<- e2,<- foldl_rep Z7 k (Z8++Z7),<- e,cZ,iM]
section
variable {X:Cx}{Z9:List (nP×Obj)}{σ:St}{H:Hp}{s:nh}{l:nP}{xs ys:List V}
def Inv.lset {Z7 its':List nE}{n:Nat}{f:Array nE->Array nE}{t':Nat}(I:Inv X Z9 σ H s)(hH:H l=Ψ (.lst xs))
  (e:s.heap.get? l=Ψ { cls:=.type "list",data:=.seq Z7.toArray n })(hf:f Z7.toArray=its'.toArray)(hv:Vals ys its')(hz:ys.length<=sizeLine) :
  Inv X Z9 σ (oT H l (.lst ys)) { s with heap:=s.heap.update l (ma f),toks:=t' }:=by
 let q:=PySem.IsL.update e f
 rw[hf] at q
 exact I.write (x:=l) (e:=l) (by rw[hH];exact trivial) (.inl rfl) (λb' u hb hu=>(bR s.heap (ma f) (mZ hb)).trans hu) ⟨_,q⟩ ?_
 exact⟨hz,its',_,hv,q⟩
def Inv.lnew {Z7:List nE}{t':Nat}(I:Inv X Z9 σ H s)(hv:Vals ys Z7)(hz:ys.length<=sizeLine) :
  Inv X Z9 σ (oT H s.heap.objs.size (.lst ys)) { s with heap:=s.heap.push { cls:=.type "list",data:=.seq Z7.toArray },toks:=t' } :=
 I.laid (λ_ _ q=>bS _ q) (lJ _) ⟨hz,Z7,0,hv,dc _ rfl⟩
def Inv.fresh (I:Inv X Z9 σ H s):H s.heap.objs.size=Φ:=I.hok.fresh (lJ _)
def Inv.lstM (I:Inv X Z9 σ H s)(hH:H l=Ψ (.lst xs)):xs.length<=sizeLine/\∃ (Z7:List nE) (n:Nat),Vals xs Z7/\xs.length=Z7.length/\s.heap.get? l=Ψ { cls:=.type "list",data:=.seq Z7.toArray n }:=by
 let(z,Z7,n,r,e):=I.hok l _ hH
 exact⟨z,Z7,n,r,r.length,e⟩
def yi {n:Nat}(h:n<=sizeLine):br n=Ξ:=by
 unfold br
 exact decide_eq_false ⋯
end
section
variable {X:Cx}
inductive rAppend (x:V)(vs:List V)(H:Hp)(Q:VK):Prop
 | mk (l:_)(xs:_)(y:_)(_:x=.ref l)(_:vs=[y])(_:H l=Ψ (.lst xs))(_:xs.length<sizeLine)(_:Q .non (oT H l (.lst (xs++[y])))):rAppend x vs H Q
def vZ:Sn X "list.append" rAppend:=by
 intro Z9 s σ H x vs v us Q I rx rv h
 let(l,xs,y,rfl,rfl,hH,hz,q):=h
 cases rx
 let(u,rfl,ru):=rv.one
 let(z,Z7,n,r,hl,e):=I.lstM hH
 exact lV F.slot_list_append ⟨_,e,rfl⟩ F.entry_list_append (F.args_list_append_2 _ _) (PySem.list_append l Z7.toArray n u (by rw[fk];lia)) ⟨e,?_⟩
 exact⟨.non,_,I.lset (its':=Z7++[u]) hH e ∅ (r.append (.cons ru .nil)) ?_,rfl,q⟩
 rw[dP,cn]
 lia
inductive rPop (x:V)(vs:List V)(H:Hp)(Q:VK):Prop
 | mk (l:_)(xs:_)(y:_)(_:x=.ref l)(_:vs=[])(_:H l=Ψ (.lst xs))(_:xs[xs.length-1]?=Ψ y)(_:Q y (oT H l (.lst xs.dropLast))):rPop x vs H Q
def Ie:Sn X "list.pop" rPop:=by
 intro Z9 s σ H x vs v us Q I rx rv h
 let(l,xs,y,rfl,rfl,hH,hy,q):=h
 cases rx
 let hus:=rv.zero
 subst hus
 let(z,Z7,n,r,hl,e):=I.lstM hH
 let(u,hu,ru):=r.get hy
 let hy':Z7.toArray[Z7.toArray.size-1]?=Ψ u:=by
  show Z7.toArray[Z7.length-1]?=Ψ u
  rw[<- cA,<- hl]
  exact hu
 exact lV F.slot_list_pop ⟨_,e,rfl⟩ F.entry_list_pop (F.args_list_pop_1 _) (MeetsSeq.list_pop_last l Z7.toArray n u hy' (by rw[fk];lia)) ⟨e,?_⟩
 exact⟨y,_,I.lset (its':=Z7.dropLast) hH e ?_ r.dropLast ?_,ru,q⟩
 ·show Z7.toArray.eraseIdxIfInBounds (Z7.toArray.size-1)=Z7.dropLast.toArray
  rw[fk,List.eraseIdxIfInBounds_toArray,zO]
 ·rw[List.length_dropLast]
  lia
inductive rCat (x:V)(y:V)(H:Hp)(Q:VK):Prop
 | mk (l:_)(b:_)(xs:_)(zs:_)(_:x=.ref l)(_:y=.ref b)(_:H l=Ψ (.lst xs))(_:H b=Ψ (.lst zs))(_:xs.length+zs.length<=sizeLine)(_:∀ p,H p=Φ->Q (.ref p) (oT H p (.lst (xs++zs)))):rCat x y H Q
def HY:qC X (binaryOp .Add) rCat:=by
 intro Z9 s σ H x y v u Q I rx ry h
 let(l,b,xs,zs,rfl,rfl,hH,hB,hz,q):=h
 cases rx
 cases ry
 let(z,Z7,n,r,hl,e):=I.lstM hH
 let(z2,its2,n2,r2,hl2,e2):=I.lstM hB
 exact PySem.P.add_list e e2 ?_ (by rw[fk,fk];lia)
 let ea:Z7.toArray++its2.toArray=(Z7++its2).toArray:=∅
 rw[ea]
 exact⟨.ref _,_,I.lnew (t':=s.toks) (r.append r2) (by rw[dP];lia),rfl,q _ I.fresh⟩
inductive rRep (x:V)(y:V)(H:Hp)(Q:VK):Prop
 | mk (l:_)(k:_)(xs:_)(_:x=.ref l)(_:y=.int k)(_:H l=Ψ (.lst xs))(_:-(2 ^ 63)<=k)(_:k<2 ^ 63)(_:xs.length*k.toNat<=sizeLine)(_:∀ p,H p=Φ->Q (.ref p) (oT H p (.lst (jt k.toNat xs).flatten))):rRep x y H Q
def Fw {α:Type}(xs:List α) (k:Nat):(jt k xs).flatten.length=k*xs.length:=by
 induction k with
 | zero=>simp
 | succ k ih=>rw[cZ,fx,dP,ih,kT,Nat.add_comm]
def HS:qC X (binaryOp .Mult) rRep:=by
 intro Z9 s σ H x y v u Q I rx ry h
 let(l,k,xs,rfl,rfl,hH,h1,h2,hz,q):=h
 cases rx
 let(t,rfl):=ry
 let(z,Z7,n,r,hl,e):=I.lstM hH
 let hlen:Z7.toArray.size*k.toNat<=sizeLine:=by rw[fk,<- hl];exact hz
 let hcap:¬ Z7.toArray.size*k.toNat > (2 ^ 63-1) / 8:=by
  have:(sizeLine:Nat)<=(2 ^ 63-1) / 8:=(·)
  lia
 let hfit:¬ (!aL k)=Ω:=by
  rw[fitsIndex_both h1 h2]
  exact dY
 let hlong:¬ br (Z7.toArray.size*k.toNat)=Ω:=by
  rw[yi hlen]
  exact dY
 let hnew:mn (λx1 x2=>x1++x2) #[] (jt (if Z7.toArray.isEmpty=Ω then 0 else k.toNat) Z7.toArray)=(jt k.toNat Z7).flatten.toArray:=by
  let f0:∀ m:Nat,mn (λx1 x2=>x1++x2) #[] (jt m Z7.toArray)=(jt m Z7).flatten.toArray:=λm=>by
   have:=foldl_rep Z7 m []
   rw[iD] at this
   exact this
  rw[f0]
  cases Z7 with
  | nil=>simp
  | cons a r'=>rw[if_neg ∅]
 refine wpAny_binaryOp_repeat_ref (T:="list") (U:="int") (·) ⟨_,e,rfl⟩ (λs'=>lU s' k t) noFill_list_mul F.fills_int_mul iU repeat_list F.slot_int_index.lookup
  (lV iU (lU s k t) F.entry_int_rmul (F.args_int_rmul_2 _ _) (int___rmul___int_list k t l Z7.toArray n)
   ⟨e,rfl,⟨_,e,rfl⟩,lV F.slot_list_mul ⟨_,e,rfl⟩ F.entry_list_mul (F.args_list_mul_2 _ _) (AutoListH.list___mul___list_int_3 l Z7.toArray n k t hfit hcap hlong) ⟨e,?_⟩⟩)
 rw[hnew]
 exact⟨.ref _,_,I.lnew (t':=s.toks) (r.rep k.toNat) (by rw[Fw,Nat.mul_comm];exact hz),rfl,q _ I.fresh⟩
end
end L2
namespace Att
open PySem PySem.W PySem.Calls PyProof.Rows
def uk {P:Params}{h:nM}:∀ (ns:List Int)(vs:List nE),WellAll P h vs (ns.map WData.int)->m5 vs ns:=by
 intro ns
 induction ns with
 | nil =>
  intro vs w
  rw[k8] at w
  cases w
  exact .nil
 | cons n ns ih =>
  intro vs w
  rw[kn] at w
  cases w with
  | cons a b =>
   cases a
   exact .cons _ _ (ih _ b)
def Bz {l:mY}{n:Nat}(hn:l.most=Ψ n){P:Params}{h:nM}{args:List WData}{vals:List nE}
  (ZW:l.row.toRowW.claim.pre args=Ω)(hwl:WellAll P h vals args) :
  ∃ a vs ns,vals=[Value.ref a]/\args=[WData.list (ns.map WData.int)]/\h.get? a=Ψ { cls:=.type "list",data:=.seq vs.toArray }/\m5 vs ns/\ns.length<=n:=by
 let hsh:WShape.hasAll [] args [.list .int]=Ω:=(pre_splitW ZW).1
 let hc:l.pre.holds [] { args:=args } = Ω:=(pre_splitW ZW).2
 let(d,r,rfl,h1,h2):=hasAllW_cons hsh
 obtain rfl:=hasAllW_nil h2
 let(xs,rfl,h3):=hasW_list h1
 let(ns,rfl):=items_int h3
 let hlen:ns.length<=n:=by
  unfold OpenLaw.pre at hc
  let h4:(WTm.not (.lt (.lit (.int (n:Int))) (.len (.arg 0)))).holds [] { args:=[.list (ns.map .int)] } = Ω:=by
   let h4:=(holds_andW hc).1
   rw[hn] at h4
   exact h4
  let h5:=condW_of h4 (w_not (w_lt w_lit (w_len_list (w_arg rfl))))
  rw[iK] at h5
  exact Nat.le_of_not_lt λq=>?_
  let q':(n:Int)<((ns.length:Nat):Int):=⋯
  first
   | (rw[decide_eq_true q'] at h5;exact absurd h5 (·))
   | (simp at h5;lia)
 cases hwl with
 | cons w1 w2 =>
  cases w2
  cases w1 with
  | list ho hall=>exact⟨_,_,ns,rfl,rfl,ho,uk ns _ hall,hlen⟩
def BE (l:mY)(args:List WData):l.row.toRowW.claim.post args (.bool Ω) args=Ω :=
 postW_of (r:=l.row.toRowW) (X:=(Ω == Ω))
  (show WShape.has [] (.bool Ω) .bool=Ω by first|rfl|decide|simp[WShape.has,WShape.arms,WShape.armsAll])
  (show (WTm.eq .res (.lit (.bool Ω))).value [] { args:=args,res:=Ψ (.bool Ω),after:=args } = Ψ (.bool (Ω == Ω)) from w_eq_bool (w_res rfl) w_lit) rfl
def attach_call {l:mY}{n:Nat}{q:mX}{loose:List Str}{XP:(Str->Option nE)->nM->Prop}{YP:nC->nM->Prop}{d:nA}
  (hn:l.most=Ψ n)(hdf:d.params.defaults=[])
  (call:∀ (w:nC)(s₀ s₁:nh)(mg mb:Str->Option nE)(fa:nP)(o:Obj)(pm cd doc:nE)(a:nP)(vs:List nE)(ns:List Int),
   Ground q loose [] XP w s₀ mg mb s₁.heap->YP w s₁.heap ->
   s₁.heap.get? fa=Ψ o->o.data=.func (docDef d.name d.params d.body d.scope pm cd doc)->s₁.heap.CodeRec cd d.name->mg d.name=Ψ (.ref fa) ->
   s₁.heap.get? a=Ψ { cls:=.type "list",data:=.seq vs.toArray }->m5 vs ns->ns.length<=n->s₁.gens = #[] ->
   codeAny (model l.prog w) callerA (.call (.ref fa) ⟨[.ref a],[]⟩) (λr s'=>r=.ok (.ret (.bool Ω))/\OldK s₁.heap s'.heap/\s'.os=s₁.os/\m9 s'.gens) s₁) :
  WalkO q loose XP YP l.row.toRowW d [] (λf vs=>lZ f vs):=by
 intro w s₀ s₁ mg mb G Y fa o pm cd doc dV kV ho hd hcd hD hmg hg args vals as ZW hlay hrd hwl hlo
 obtain rfl:dV=.none:=Dflts.none hD hdf
 obtain rfl:kV=.none:=Dflts.noKw hD
 let(a,vs,ns,rfl,rfl,hobj,hints,hlen):=Bz hn ZW hwl
 exact enter_call (kK (call w s₀ s₁ mg mb fa o pm cd doc a vs ns G Y ho (fd_plain hd) hcd hmg hobj hints hlen hg) λr s' hq=>?_)
 let(rfl,h2,h3,h4):=hq
 exact⟨.inl ⟨.bool Ω,.bool Ω,[],rfl,λ_=>rfl,.bool Ω,BE l _,λ_=>⟨List.Pairwise.nil,λ_ hm=>(nomatch hm)⟩⟩,h2,h3,h4⟩
end Att
namespace L2
open PySem PySem.Spec PyProof.Rows
def Bv:∀ {vs:List nE}{ns:List Int},m5 vs ns->Vals (ns.map V.int) vs:=λh=>by
 induction h with
 | nil=>exact .nil
 | cons n t _ ih=>exact .cons ⟨t,rfl⟩ ih
abbrev Gr (H:Hp):Prop:=∀ b,H b=Φ ∨ ∃ o xs,H b=Ψ (.frz o (.lst xs))
def Dz {P:mX}{w:nC}{K:kP}{mg mb:Str->Option nE}{CX:Gu}{k:Nat}{fa a:nP}{fd:mV}{x:Str}{sp:Sp}{s₁:nh}{vs:List nE}{ns:List Int}
  (KX:K.In s₁.heap)(hns:s₁.heap.Ns mainGlobals mg)(hb:s₁.heap.Ns builtinsNs mb)(hbb:∀ x:Str,x≠"__name__"->mb x=bootBuiltins x)(hlim:s₁.heap.NoLimit)(hg:s₁.gens = #[])
  (ha:s₁.heap.get? a=Ψ { cls:=.type "list",data:=.seq vs.toArray })(hi:m5 vs ns)(hl:ns.length<=sizeLine)(hr:Room k callerA)
  (F:∀ base:nM,K.In base->base.Ns mainGlobals mg->FnOk P w K mg base CX k fa fd [x] sp)(hbind:∀ (s:nh)(u:nE),m8 s fd ⟨[u],[]⟩ [(x,u)])
  (hsp:∀ H:Hp,Gr H->SqL K H a (ns.map V.int)->sp [.ref a] H (λv _=>v=.bl Ω) λ_ _ _=>False)
  (hCX:∀ H e s',CX [] H s₁ (λ_ _ _=>False) e s'->False) :
  codeAny (model P w) callerA (.call (.ref fa) ⟨[.ref a],[]⟩) (λr s'=>r=.ok (.ret (.bool Ω))/\OldK s₁.heap s'.heap/\s'.os=s₁.os/\m9 s'.gens) s₁:=by
 let rv:=Bv hi
 let lenV:=hi.length
 -- from an abstract heap in which nothing but the script may be tracked
 let core:∀ H:Hp,Gr H->SqL K H a (ns.map V.int)->HOk P w H s₁.heap->(∀ b,H b≠Φ->b=a)->(H a≠Φ->K.lookup a=Φ) ->
   codeAny (model P w) callerA (.call (.ref fa) ⟨[.ref a],[]⟩) (λr s'=>r=.ok (.ret (.bool Ω))/\OldK s₁.heap s'.heap/\s'.os=s₁.os/\m9 s'.gens) s₁:=by
  intro H hO hS hok hA hK
  let base_of:∀ {b:nP}{o:Obj},s₁.heap.get? b=Ψ o->H b=Φ->(xn s₁.heap H).get? b=Ψ o:=λe n=>DN e n
  let noA:∀ {b:nP}{o:Obj}{es:Array mF}{ep:Nat},s₁.heap.get? b=Ψ o->o.data=.dict es ep->H b=Φ:=λ{b o es ep} e d=>by
   cases q:H b with
   | none=>rfl
   | some u =>
    let e':b=a:=hA b (by rw[q];simp)
    subst e'
    rw[ha] at e;cases e
    let d':Data.seq vs.toArray _=Data.dict es ep:=d
    cases d'
  let nsK:∀ {b:nP}{m:Str->Option nE},s₁.heap.Ns b m->(xn s₁.heap H).Ns b m:=λ{b m} q1=>by let(o,es,ep,e,d,r):=q1;exact⟨o,es,ep,base_of e (noA e d),d,r⟩
  let hKb:K.In (xn s₁.heap H):=λb o e=>base_of (KX b o e) (by
   cases q:H b with
   | none=>rfl
   | some u =>
    let e':b=a:=hA b (by rw[q];simp)
    subst e'
    rw[hK (by rw[q];simp)] at e;cases e)
  let hM:Mod K mg (xn s₁.heap H):=⟨hKb,nsK hns,⟨mb,nsK hb,hbb⟩,let ⟨mc,h1,h2⟩:=hlim;⟨mc,nsK h1,h2⟩⟩
  let e0:Env0 P w K mg (xn s₁.heap H) callerA [] s₁ H:=⟨rfl,hM,λb o e=>Fj e,kZ (B0 _ _),trivial,λb hb=>absurd (show b∈([]:List nP) from hb) ∅,hok,.of_eq hg⟩
  exact kK ((F _ hKb (nsK hns)).run callerA [] s₁ H ⟨[.ref a],[]⟩ [.ref a] [.ref a] _ _ hr e0 (hbind s₁ (.ref a)) (.cons rfl .nil) (hsp H hO hS)) λr s' h=>?_
  cases r with
  | error e=>exact (hCX H e s' h).elim
  | ok fl =>
   cases fl with
   | next=>exact mw h
   | brk=>exact mw h
   | cont=>exact mw h
   | ret u =>
    let(v,H',os,bare,un,hok',r',q):=h
    let q':v=.bl Ω:=q
    subst q'
    obtain rfl:u=Value.bool Ω:=r'
    exact⟨rfl,OldK.of_keep λb o e=>?_,os,bare⟩
    cases q:H b with
    | none=>exact un.keep b o e q (by intro z;exact absurd (show b∈([]:List nP) from z) ∅) ∅
    | some u =>
     rcases hO b with z|⟨ob,xs,z⟩
     ·rw[q] at z;cases z
     ·let z2:=un.frzs b ob _ z
      let(e1,_):=hok b _ z
      let(e2,_):=hok' b _ z2
      rw[e] at e1;cases e1
      exact e2
 cases hk:K.lookup a with
 | some o =>
  -- the script is one of the module's own objects
  let e:=KX a o hk
  rw[ha] at e
  cases e
  refine core (λ_=>Φ) (λ_=>.inl rfl) (.inr ⟨_,vs.toArray,_,hk,rfl,rfl,rfl,by rw[fk,lenV];exact hl,by simpa using rv⟩) (λb u z=>by let z':(Φ:Option HO)=Ψ u:=z;cases z') (λb z=>absurd rfl z) λz=>absurd rfl z
 | none =>
  exact core (λb=>if b=a then Ψ (.frz { cls:=.type "list",data:=.seq vs.toArray } (.lst (ns.map V.int))) else Φ) (λb=>?_) (.inl (.inr ⟨{ cls:=.type "list",data:=.seq vs.toArray },if_pos rfl⟩)) (λb u z=>?_) (λb z=>?_) λ_=>hk
  ·by_cases hb:b=a
   ·exact .inr ⟨_,_,if_pos hb⟩
   ·exact .inl (if_neg hb)
  ·by_cases hb:b=a
   ·let z':=(if_pos hb).symm.trans z
    cases z'
    subst hb
    exact⟨ha,by rw[iK];exact hl,vs,_,rv,ha⟩
   ·let z':=(if_neg hb).symm.trans z
    cases z'
  ·by_cases hb:b=a
   ·exact hb
   ·exact absurd (if_neg hb) z
abbrev sA (s:nL):Arguments:=match s with
 | .FunctionDef _ a _ _ _ _ _ _ _ _=>a
 | _=>{ posonlyargs:=[],args:=[],vararg:=Φ,kwonlyargs:=[],kw_defaults:=[],kwarg:=Φ,defaults:=[] }
abbrev pV (s:nL):List nL:=match s with
 | .FunctionDef _ _ b _ _ _ _ _ _ _=>b
 | _=>[]
abbrev oN (s:nL):nF:=match s with
 | .FunctionDef _ _ _ _ _ _ sc _ _ _=>sc
 | _=>{ kind:=.function,names:=[],isGenerator:=Ξ,isCoroutine:=Ξ }
noncomputable abbrev Et:Gu:=λ_ _ _ _ _ _=>False
noncomputable abbrev E0:XK:=λ_ _ _=>False
def Ly {X:Cx}:Af Et X E0:=λ_ _ _ _ _ _ _ h=>h.elim
structure Fun (K:kP)(x qual:Str)(st:nL)(f:nP)(fd:mV):Prop where
 ex:∃ (oc:nE)(od:Option nP)(kV doc pm:nE)(an:Option nP)(cdv ct:nE)(osl:Array (Option nE)),
  fd=kO x qual (sA st) (pV st) (oN st) .none kV doc pm an cdv ct/\K.lookup f=Ψ ⟨oc,od,.func fd,osl⟩/\jp K cdv qual=Ω
 kp:jm K (.ref f)=Ω
section
variable {P:mX}{w:nC}{K:kP}{mg:Str->Option nE}{base:nM}
def Fun.ok {x qual:Str}{st:nL}{f:nP}{fd:mV}{N ps:List Str}{k:Nat}{sp:Sp}(F:Fun K x qual st f fd)(S:FnScope N ps (oN st))(len:∀ vs H Q E,sp vs H Q E->vs.length=ps.length)
  (ZU:∀ (cdv:nE)(A:nB)(outer:List Env)(s:nh)(H:Hp)(vs:List V)(Q:VK)(E:XK),RoomS k (A.deeper (envOfC qual (oN st) s.heap.objs.size f cdv))->sp vs H Q E ->
   ∃ t,PSs (zX Et P w K mg base N qual (oN st) f cdv A outer s H E).nox (pV st) t/\t { nx:=λ_ H'=>Q .non H',rt:=Q } (start N vs) H):FnOk P w K mg base Et (k+1) f fd ps sp:=by
 let(oc,od,kV,doc,pm,an,cdv,ct,osl,rfl,lk,hcd):=F.ex
 exact Ma lk hcd S len λA outer s H vs Q E hr hsp=>?_
 let(t,h,q):=ZU cdv A outer s H vs Q E hr hsp
 exact⟨t,h.nox,q⟩
def Fun.binds {x qual:Str}{st:nL}{f:nP}{fd:mV}{ps:List Str}(F:Fun K x qual st f fd)
  (h:∀ (kV doc pm:nE)(an:Option nP)(cdv ct:nE)(us:List nE),us.length=ps.length->bindArgs (kO x qual (sA st) (pV st) (oN st) .none kV doc pm an cdv ct) ⟨us,[]⟩=pure (ps.zip us)):Binds K fd ps []:=by
 let(oc,od,kV,doc,pm,an,cdv,ct,osl,rfl,lk,hcd):=F.ex
 exact .all (h kV doc pm an cdv ct)
def IL {x qual:Str}{st:nL}{f:nP}{oc:nE}{od an:Option nP}{osl:Array (Option nE)}{kV doc pm cdv ct:nE}(l:K.lookup f=Ψ ⟨oc,od,.func (kO x qual (sA st) (pV st) (oN st) .none kV doc pm an cdv ct),osl⟩)
  (c:jp K cdv qual=Ω)(k:jm K (.ref f)=Ω):Fun K x qual st f (kO x qual (sA st) (pV st) (oN st) .none kV doc pm an cdv ct):=⟨⟨oc,od,kV,doc,pm,an,cdv,ct,osl,rfl,l,c⟩,k⟩
end
abbrev Same (H H':Hp):Prop:=∀ b o,H b=Ψ o->H' b=Ψ o
def Same.refl (H:Hp):Same H H:=λ_ _ h=>h
def Same.trans {H H1 H2:Hp}(a:Same H H1)(b:Same H1 H2):Same H H2:=λc o h=>b c o (a c o h)
section
variable {κ:Type}[DecidableEq κ]
abbrev rO (Z6:List (κ×V))(k:κ):Option V:=(Z6.find? λkv=>Δ (kv.1=k)).map (·.2)
abbrev qm (Z6:List (κ×V))(k:κ)(v:V):List (κ×V) :=
 if (Z6.any λkv=>Δ (kv.1=k))=Ω then Z6.map (λkv=>if kv.1=k then (kv.1,v) else kv) else Z6++[(k,v)]
def qU {p:κ×V}{r:List (κ×V)}{k:κ}(e:p.1=k):rO (p :: r) k=Ψ p.2:=by simp[rO,iO,e]
def qV {p:κ×V}{r:List (κ×V)}{k:κ}(e:¬ p.1=k):rO (p :: r) k=rO r k:=by simp[rO,iO,e]
def rR (k:κ):∀ Z6:List (κ×V),(Z6.any λkv=>Δ (kv.1=k))=(rO Z6 k).isSome
 | []=>rfl
 | p :: r=>by
  rw[kr]
  by_cases e:p.1=k
  ·simp![qU e,decide_eq_true e,Bool.true_or,dD]
  ·rw[qV e,decide_eq_false e,Bool.false_or];exact rR k r
def qw (Z6:List (κ×V))(k:κ)(v:V):(qm Z6 k v).length<=Z6.length+1:=by
 unfold qm
 split
 ·rw[iK];lia
 ·rw[dP,gC,iJ];lia
def RelO.isSome_eq {o:Option V}{u:Option nE}(r:RelO o u):o.isSome=u.isSome:=by
 cases o with
 | none=>cases u with
  | none=>rfl
  | some _=>exact (show False from r).elim
 | some _=>cases u with
  | none=>exact (show False from r).elim
  | some _=>rfl
def KV.val {Z6:List (κ×V)}{vs:List (κ×nE)}(r:KV Z6 vs)(k:κ):RelO (rO Z6 k) (valueAt vs k):=by
 unfold KV at r
 induction r with
 | nil=>exact True.intro
 | @cons p q ps qs h t ih =>
  let(h1,h2):=h
  by_cases e:p.1=k
  ·let e':q.1=k:=h1.symm.trans e
   let b:valueAt (q :: qs) k=Ψ q.2:=by simp[valueAt,iO,e']
   rw[qU e,b];exact h2
  ·let e':¬ q.1=k:=λz=>e (h1.trans z)
   let b:valueAt (q :: qs) k=valueAt qs k:=by simp[valueAt,iO,e']
   rw[qV e,b];exact ih
def KV.any {Z6:List (κ×V)}{vs:List (κ×nE)}(r:KV Z6 vs)(k:κ):(Z6.any λkv=>Δ (kv.1=k))=vs.any λkv=>Δ (kv.1=k):=by
 unfold KV at r
 induction r with
 | nil=>rfl
 | cons h t ih=>rw[kr,kr,ih,h.1]
def KV.repl {Z6:List (κ×V)}{vs:List (κ×nE)}(r:KV Z6 vs)(k:κ){y:V}{u:nE}(ry:RelV y u) :
  KV (Z6.map λkv=>if kv.1=k then (kv.1,y) else kv) (vs.map λkv=>if kv.1=k then (kv.1,u) else kv):=by
 unfold KV at r ⊢
 induction r with
 | nil=>exact .nil
 | @cons p q ps qs h t ih =>
  rw[kn,kn]
  exact .cons ?_ ih
  let(h1,h2):=h
  by_cases e:p.1=k
  ·rw[if_pos e,if_pos (h1.symm.trans e)];exact⟨h1,ry⟩
  ·rw[if_neg e,if_neg (λz=>e (h1.trans z))];exact⟨h1,h2⟩
def KV.put {Z6:List (κ×V)}{vs:List (κ×nE)}(r:KV Z6 vs)(k:κ){y:V}{u:nE}(ry:RelV y u):KV (qm Z6 k y) (stored vs k u):=by
 unfold qm stored
 rw[r.any k]
 by_cases e:(vs.any λkv=>Δ (kv.1=k))=Ω
 ·rw[if_pos e,if_pos e];exact r.repl k ry
 ·rw[if_neg e,if_neg e];exact Paired.snoc r ⟨rfl,ry⟩
def KV.length {Z6:List (κ×V)}{vs:List (κ×nE)}(r:KV Z6 vs):Z6.length=vs.length:=j7 r
end
def yx {P:mX}{w:nC}{k:pW}{u:nE}(r:RelV (kV k) u):(oI P w).is k u=Ω:=by
 rcases k with i|x|x
 ·let(t,e):=(show ∃ t,u=Value.int i t from r);subst e;exact yn P w i t
 ·cases (show u=Value.none from r);exact w9 P w
 ·let(t,e):=(show ∃ t,u=Value.str x t from r);subst e;exact ym P w x t
def wf {P:mX}{w:nC}:∀ {ks:List pW}{us:List nE},Vals (ks.map kV) us->ItemsAre (oI P w) ks us
 | [],_,r=>by rw[k8] at r;cases r;exact .nil
 | k :: ks,_,r=>by
  rw[kn] at r
  cases r with
  | cons h t=>exact .cons (yx h) (wf t)
noncomputable abbrev KT (H:Hp):List (List pW×V)->List (List pW×nP×nE)->Prop:=nq λp q=>p.1=q.1/\H q.2.1=Ψ (.tup (p.1.map kV))/\RelV p.2 q.2.2
def KT.val {H:Hp}{Z6:List (List pW×V)}{xs:List (List pW×nP×nE)}(r:KT H Z6 xs)(k:List pW):RelO (rO Z6 k) ((atKey xs k).map (·.2)):=by
 induction r with
 | nil=>exact True.intro
 | @cons p q ps qs h t ih =>
  let(h1,_,h2):=h
  by_cases e:p.1=k
  ·let e':q.1=k:=h1.symm.trans e
   let b:atKey (q :: qs) k=Ψ q.2:=by simp[atKey,iO,e']
   rw[qU e,b];exact h2
  ·let e':¬ q.1=k:=λz=>e (h1.trans z)
   let b:atKey (q :: qs) k=atKey qs k:=by simp[atKey,iO,e']
   rw[qV e,b];exact ih
def KT.repl {H:Hp}{Z6:List (List pW×V)}{xs:List (List pW×nP×nE)}(r:KT H Z6 xs)(k:List pW){y:V}{u:nE}(ry:RelV y u) :
  KT H (Z6.map λkv=>if kv.1=k then (kv.1,y) else kv) (xs.map (putAt k u)):=by
 induction r with
 | nil=>exact .nil
 | @cons p q ps qs h t ih =>
  rw[kn,kn]
  exact .cons ?_ ih
  let(h1,h2,h3):=h
  unfold putAt
  by_cases e:p.1=k
  ·rw[if_pos e,if_pos (h1.symm.trans e)];exact⟨h1,h2,ry⟩
  ·rw[if_neg e,if_neg (λz=>e (h1.trans z))];exact⟨h1,h2,h3⟩
def KT.put {H:Hp}{Z6:List (List pW×V)}{xs:List (List pW×nP×nE)}(r:KT H Z6 xs)(k:List pW){b:nP}{y:V}{u:nE}(hb:H b=Ψ (.tup (k.map kV)))(ry:RelV y u) :
  KT H (qm Z6 k y) (storedH xs k b u):=by
 let e:(Z6.any λkv=>Δ (kv.1=k))=(atKey xs k).isSome:=by
  rw[rR,(r.val k).isSome_eq,fe]
 unfold qm storedH
 rw[e]
 by_cases q:(atKey xs k).isSome=Ω
 ·rw[if_pos q,if_pos q];exact r.repl k ry
 ·rw[if_neg q,if_neg q];exact Paired.snoc r ⟨rfl,hb,ry⟩
def KT.keeps {H H':Hp}{Z6:List (List pW×V)}{xs:List (List pW×nP×nE)}(r:KT H Z6 xs)(ht:∀ b ys,H b=Ψ (.tup ys)->H' b=Ψ (.tup ys)):KT H' Z6 xs :=
 Paired.mapP r λ_ _ z=>⟨z.1,ht _ _ z.2.1,z.2.2⟩
section
variable {P:mX}{w:nC}{H:Hp}{h:nM}{a:nP}
def Gy {u:HO}(ok:HOk P w H h)(e:Rd H a u):ObjOk P w H h a u:=e.ok ok
def wq {Z6:List (pW×V)}(ok:HOk P w H h)(e:Rd H a (.dK Z6)):Z6.length<=sizeLine/\(a == sysModules)=Ξ/\∃ vs,KV Z6 vs/\h.DictOf (oI P w) a vs :=
 show ObjOk P w H h a (.dK Z6) from Gy ok e
def MB {Z6:List (pW×V)}(ok:HOk P w H h)(e:H a=Ψ (.dK Z6)):Z6.length<=sizeLine/\(a == sysModules)=Ξ/\∃ vs,KV Z6 vs/\h.DictOf (oI P w) a vs:=wq ok (.inl e)
def sT {ks:List pW}(ok:HOk P w H h)(e:H a=Ψ (.tup (ks.map kV))):(tupleKind (oI P w)).is h ks a:=by
 let(_,Z7,r,o,h1,h2,n,h3):=(show ObjOk P w H h a (.tup (ks.map kV)) from ok a _ e)
 exact⟨o,Z7.toArray,n,h1,h2,h3,by simpa using wf r⟩
def yK {Z6:List (List pW×V)}(ok:HOk P w H h)(e:Rd H a (.dT Z6)):Z6.length<=sizeLine/\(a == sysModules)=Ξ /\
  ∃ xs,KT H Z6 xs/\h.DictOfH (tupleKind (oI P w)) a xs:=by
 let(z,y,xs,r,o,es,ep,h1,h2,h3,h4,h5):=(show ObjOk P w H h a (.dT Z6) from Gy ok e)
 exact⟨z,y,xs,r,o,es,ep,h1,h2,h3,h4,λx hx=>?_,h5⟩
 let all:∀ {l:List (List pW×V)}{m:List (List pW×nP×nE)},KT H l m->∀ x∈m,(tupleKind (oI P w)).is h x.1 x.2.1:=by
  intro l m q
  induction q with
  | nil=>intro x hx;exact nomatch hx
  | @cons p q ps qs hq t ih =>
   intro x hx
   rcases kj.mp hx with e|hx
   ·subst e
    exact sT ok (by rw[<- hq.1];exact hq.2.1)
   ·exact ih x hx
 exact all r x hx
def GR {Z6:List (List pW×V)}(ok:HOk P w H h)(e:H a=Ψ (.dT Z6)):Z6.length<=sizeLine/\(a == sysModules)=Ξ /\
  ∃ xs,KT H Z6 xs/\h.DictOfH (tupleKind (oI P w)) a xs:=yK ok (.inl e)
end
abbrev DGet (H:Hp)(a:nP)(y:V)(r:Option V):Prop :=
 (∃ Z6 k,Rd H a (.dK Z6)/\y=kV k/\r=rO Z6 k) ∨ ∃ Z6 k b,Rd H a (.dT Z6)/\y=.ref b/\H b=Ψ (.tup (k.map kV))/\r=rO Z6 k
abbrev DPut (H:Hp)(a:nP)(y v:V)(H':Hp):Prop :=
 (∃ Z6 k,H a=Ψ (.dK Z6)/\y=kV k/\Z6.length<sizeLine/\H'=oT H a (.dK (qm Z6 k v))) ∨
 ∃ Z6 k b,H a=Ψ (.dT Z6)/\y=.ref b/\H b=Ψ (.tup (k.map kV))/\Z6.length<sizeLine/\H'=oT H a (.dT (qm Z6 k v))
def DGet.k {H:Hp}{a:nP}{Z6:List (pW×V)}{k:pW}(e:H a=Ψ (.dK Z6)):DGet H a (kV k) (rO Z6 k):=.inl ⟨Z6,k,.inl e,rfl,rfl⟩
def DGet.t {H:Hp}{a b:nP}{Z6:List (List pW×V)}{k:List pW}(e:H a=Ψ (.dT Z6))(eb:H b=Ψ (.tup (k.map kV))):DGet H a (.ref b) (rO Z6 k):=.inr ⟨Z6,k,b,.inl e,rfl,eb,rfl⟩
def DPut.k {H:Hp}{a:nP}{Z6:List (pW×V)}{k:pW}{v:V}(e:H a=Ψ (.dK Z6))(hl:Z6.length<sizeLine):DPut H a (kV k) v (oT H a (.dK (qm Z6 k v))):=.inl ⟨Z6,k,e,rfl,hl,rfl⟩
def DPut.t {H:Hp}{a b:nP}{Z6:List (List pW×V)}{k:List pW}{v:V}(e:H a=Ψ (.dT Z6))(eb:H b=Ψ (.tup (k.map kV)))(hl:Z6.length<sizeLine) :
  DPut H a (.ref b) v (oT H a (.dT (qm Z6 k v))):=.inr ⟨Z6,k,b,e,rfl,eb,hl,rfl⟩
section
variable {X:Cx}{Z9:List (nP×Obj)}{σ:St}{H:Hp}{s:nh}{a:nP}{y v:V}{u r:nE}{o:Option V}{A:nB}{E:nE->nh->Prop}
def Inv.big (I:Inv X Z9 σ H s):sysModules<s.heap.objs.size:=by
 let h:mainGlobals<s.heap.objs.size:=(I.mod.glob.keeps I.bk).lt
 exact Nat.lt_trans (·) h
def wx {Q:nE->nh->Prop}(hu:A.units+1<cLine)(I:Inv X Z9 σ H s)(g:DGet H a y (Ψ v))(ry:RelV y u)(h:∀ w' s',Inv X Z9 σ H s'->RelV v w'->Q w' s') :
  wpAny (model X.prog X.w) A (getItem (.ref a) u) Q E s:=by
 rcases g with⟨Z6,k,e,ey,l⟩|⟨Z6,k,b,e,ey,eb,l⟩
 ·subst ey
  let(z,hd,vs,rel,dd):=wq I.hok e
  let(w',hw,rw'):=RelO.some_of (v:=v) (o:=valueAt vs k) (by rw[l];exact rel.val k)
  exact wpAny_getItem_of (yx ry) dd.mapOf hw (h w' _ (I.tok _) rw')
 ·subst ey
  cases (show u=Value.ref b from ry)
  let(z,hd,xs,rel,dd):=yK I.hok e
  let(w',hw,rw'):=RelO.some_of (v:=v) (o:=(atKey xs k).map (·.2)) (by rw[l];exact rel.val k)
  let(p,hp,hp2):=bK.mp hw
  exact wpAny_getItem_heap (dw hu) (sT I.hok eb) dd hp ?_
  rw[hp2]
  exact h w' _ (I.tok _) rw'
def MG {Q:nE->nh->Prop}(hu:A.units+1<cLine)(I:Inv X Z9 σ H s)(g:DGet H a y o)(ry:RelV y u)(h:∀ s',Inv X Z9 σ H s'->Q (.bool o.isSome) s') :
  wpAny (model X.prog X.w) A (compareOp .In u (.ref a)) Q E s:=by
 rcases g with⟨Z6,k,e,ey,l⟩|⟨Z6,k,b,e,ey,eb,l⟩
 ·subst ey
  let(z,hd,vs,rel,dd):=wq I.hok e
  exact wpAny_in_of (yx ry) hd dd.mapOf ?_
  rw[<- (rel.val k).isSome_eq,<- l]
  exact h _ (I.tok _)
 ·subst ey
  cases (show u=Value.ref b from ry)
  let(z,hd,xs,rel,dd):=yK I.hok e
  exact wpAny_in_heap (dw hu) (sT I.hok eb) hd dd ?_
  let q:=(rel.val k).isSome_eq
  rw[fe] at q
  rw[<- q,<- l]
  exact h _ (I.tok _)
def Bf {Q:nE->nh->Prop}(hu:A.units+1<cLine)(I:Inv X Z9 σ H s)(g:DGet H a y o)(ry:RelV y u)(h:∀ s',Inv X Z9 σ H s'->Q (.bool (!o.isSome)) s') :
  wpAny (model X.prog X.w) A (compareOp .NotIn u (.ref a)) Q E s:=by
 rcases g with⟨Z6,k,e,ey,l⟩|⟨Z6,k,b,e,ey,eb,l⟩
 ·subst ey
  let(z,hd,vs,rel,dd):=wq I.hok e
  exact wpAny_notIn_of (yx ry) hd dd.mapOf ?_
  rw[<- (rel.val k).isSome_eq,<- l]
  exact h _ (I.tok _)
 ·subst ey
  cases (show u=Value.ref b from ry)
  let(z,hd,xs,rel,dd):=yK I.hok e
  exact wpAny_notIn_heap (dw hu) (sT I.hok eb) hd dd ?_
  let q:=(rel.val k).isSome_eq
  rw[fe] at q
  rw[<- q,<- l]
  exact h _ (I.tok _)
def xA {h':nM}{t':Nat}{ob:HO}(I:Inv X Z9 σ H s)(mu:MX (H a))(hs:lh a s.heap h')(he:∃ q,h'.get? a=Ψ q)(new:ObjOk X.prog X.w (oT H a ob) h' a ob) :
  Inv X Z9 σ (oT H a ob) { s with heap:=h',toks:=t' } :=
 I.write (x:=a) (e:=a) mu (.inl rfl) (λb q hb z=>(hs.2 b hb).trans z) he new
def Jx {P:mX}{w:nC}{H':Hp}{h':nM}{Z6:List (pW×V)}{vs:List (pW×nE)}(z:Z6.length<=sizeLine)(hd:(a == sysModules)=Ξ)(rel:KV Z6 vs)(dd:h'.DictOf (oI P w) a vs) :
  ObjOk P w H' h' a (.dK Z6):=⟨z,hd,vs,rel,dd⟩
def wv {H':Hp}{Q:Unit->nh->Prop}(hu:A.units+1<cLine)(I:Inv X Z9 σ H s)(g:DPut H a y v H')(ry:RelV y u)(rv:RelV v r)(h:∀ s',Inv X Z9 σ H' s'->Q () s') :
  wpAny (model X.prog X.w) A (setItem (.ref a) u r) Q E s:=by
 rcases g with⟨Z6,k,e,ey,l,eH⟩|⟨Z6,k,b,e,ey,eb,l,eH⟩
 ·subst ey eH
  let(z,hd,vs,rel,dd):=MB I.hok e
  let hz:vs.length<=sizeLine:=by rw[<- rel.length];exact z
  let hl:(qm Z6 k v).length<=sizeLine:=by have:=qw Z6 k v;lia
  exact wpAny_setItem_pairs (hsz:=hz) (yx ry) dd λh' dd' hs=>h _ ?_
  let he:∃ q,h'.get? a=Ψ q:=let ⟨q,_,_,hq,_⟩:=dd';⟨q,hq⟩
  exact xA I (by rw[e];exact True.intro) hs he (Jx hl hd (rel.put k rv) dd')
 ·subst ey eH
  cases (show u=Value.ref b from ry)
  let(z,hd,xs,rel,dd):=GR I.hok e
  let hz:xs.length<=sizeLine:=by rw[<- j7 rel];exact z
  let hl:(qm Z6 k v).length<=sizeLine:=by have:=qw Z6 k v;lia
  exact wpAny_setItem_heap (hsz:=hz) (dw hu) (sT I.hok eb) dd λh' dd' hs=>h _ ?_
  let(q,es,ep,hq,h2,h3,h4,_,h5):=dd'
  exact xA I (by rw[e];exact True.intro) hs ⟨q,hq⟩ ⟨hl,hd,_,(rel.put k eb rv).keeps λc ys ec=>?_,q,es,ep,hq,h2,h3,h4,h5⟩
  rw[nZ (GL ec e (λz=>nomatch z))]
  exact ec
end
section
variable {X:Cx}{Z9:List (nP×Obj)}{σ:St}{H:Hp}{s:nh}{a:nP}{Z6:List (pW×V)}{A:nB}{E:nE->nh->Prop}
def MF {Q:nE->nh->Prop}(I:Inv X Z9 σ H s)(e:Rd H a (.dK Z6))(h:∀ t s',Inv X Z9 σ H s'->Q (.int Z6.length t) s'):wpAny (model X.prog X.w) A (call (.builtin "len") [.ref a]) Q E s:=by
 let(z,hd,vs,rel,dd):=wq I.hok e
 exact call_len_dict hd dd (by rw[<- rel.length];rw[lA] at z;lia) ?_
 rw[<- rel.length]
 exact h _ _ (I.tok _)
end
abbrev MW (i:Expr):Prop:=∀ ov iv,subscripted i Ξ ov iv=operate [ov,iv] (getItem ov iv)
def EJ {prog:mX}{w:nC}{A:nB}{E:nE->nh->Prop}{s:nh}{env:Env}{value slice:Expr}{pos:Pos}{T id:String}{Q:nE->nh->Prop}
  (hl:typeLookup (.type T) "__getitem__" = pure (Ψ (.builtin id)))(hs:MW slice)
  (h:wpAny (model prog w) A (eval value env) (λo s₁=>wpAny (model prog w) A (eval slice env) (λi s₂=>s₂.TypeIs o T/\wpAny (model prog w) A (getItem o i) Q E s₂) E s₁) E s) :
  wpAny (model prog w) A (eval (.Subscript value slice pos) env) Q E s:=by
 exact lX (lQ h (λo s₁ h₁=>lQ h₁ (λi s₂ h₂=>?_) λ_ _ x=>x) λ_ _ x=>x)
 let(hT,h₂):=h₂
 unfold subscriptTail
 exact lR ?_
 rw[getitemInPython_of_ne hT.not_modules]
 exact lR (gV hT hl ?_)
 let fin:wpAny (model prog w) A (subscripted slice Ξ o i) (λr s₃=>wpAny (model prog w) A (letTemporaryGo value o r >>= λ_=>pure r) Q E s₃) E s₂:=by
  rw[hs o i]
  exact wpAny_operating (lQ h₂ (λr s₃ h₃=>lR (wpAny_letTemporaryGo (lP h₃))) λ_ _ x=>x)
 first
  | exact lP (lR fin)
  | exact lR (lP (lR fin))
  | exact lR fin
def yL {X:Cx}{Z9:List (nP×Obj)}{σ:St}{H:Hp}{s:nh}{a:nP}{y:V}{o:Option V}(I:Inv X Z9 σ H s)(g:DGet H a y o):s.TypeIs (.ref a) "dict":=by
 rcases g with⟨Z6,k,e,_,_⟩|⟨Z6,k,b,e,_,_,_⟩
 ·let(_,_,vs,_,dd):=wq I.hok e
  exact dd.typeIs
 ·let(_,_,xs,_,dd):=yK I.hok e
  exact dd.typeIs
abbrev KZ (td ty:TE):TE:=λσ H Q=>td σ H λx H1=>ty σ H1 λy H2=>∃ a v,x=.ref a/\DGet H2 a y (Ψ v)/\Q v H2
abbrev K9 (td ty tv:TE):TS:=λD σ H=>tv σ H λv H1=>td σ H1 λx H2=>ty σ H2 λy H3=>∃ a H4,x=.ref a/\DPut H3 a y v H4/\D.nx σ H4
abbrev La (td ty tv:TE)(rd:V->V->Hp->VK->Prop):TS:=λD σ H=>td σ H λx H1=>ty σ H1 λy H2=>∃ a v,x=.ref a/\DGet H2 a y (Ψ v) /\
 tv σ H2 λy2 H3=>rd v y2 H3 λz H4=>∃ H5,DPut H4 a y z H5/\D.nx σ H5
section
variable {X:Cx}{o i value:Expr}{pos pos' tpos:Pos}{td ty tv:TE}
def wX (hu:X.A.units+1<cLine)(ho:PE X o td)(hi:PE X i ty)(hs:MW i):PE X (.Subscript o i pos) (KZ td ty):=by
 intro Z9 s σ H Q I h
 exact EJ PySem.F.slot_dict_getitem.lookup hs (oX (ho Z9 s σ H _ I h) λu s1 ⟨x,H1,I1,rx,q1⟩=>oX (hi Z9 s1 σ H1 _ I1 q1) λiv s2 ⟨y,H2,I2,ry,a,v,ex,g,q2⟩=>?_)
 subst ex
 obtain rfl:u=Value.ref a:=rx
 exact⟨yL I2 g,wx hu I2 g ry λw' s3 I3 rw'=>⟨v,H2,I3,rw',q2⟩⟩
def As (hu:X.A.units+1<cLine)(ho:PE X o td)(hi:PE X i ty)(hv:PE X value tv)(hs:swapsWith value (Ψ (.Subscript o i pos')) pos.line X.env=pure Ξ) :
  PS X (.Assign [.Subscript o i pos'] value pos) (K9 td ty tv):=by
 intro Z9 s σ H D I h
 exact wpAny_Assign_Subscript (oX (hv Z9 s σ H _ I h) λr s1 ⟨v,H1,I1,rv,q1⟩=>oX (ho Z9 s1 σ H1 _ I1 q1) λu s2 ⟨x,H2,I2,rx,q2⟩=>oX (hi Z9 s2 σ H2 _ I2 q2) λiv s3 ⟨y,H3,I3,ry,a,H4,ex,g,q3⟩=>?_) hs
 subst ex
 obtain rfl:u=Value.ref a:=rx
 exact wv hu I3 g ry rv λs4 I4=>⟨σ,H4,I4,q3⟩
def EZ {op:mR}{rd:V->V->Hp->VK->Prop}(hu:X.A.units+1<cLine)(ho:PE X o td)(hi:PE X i ty)(hv:PE X value tv)(hop:M3 X op rd)
  (ha:∀ ov iv new,augStore i ov iv new=(do holding [new,ov,iv] (setItem ov iv new);release [new,ov,iv] [];pure .next)):PS X (.AugAssign (.Subscript o i tpos) op value pos) (La td ty tv rd):=by
 intro Z9 s σ H D I h
 exact wpAny_AugAssign_SubscriptAny (oX (ho Z9 s σ H _ I h) λu s1 ⟨x,H1,I1,rx,q1⟩=>oX (hi Z9 s1 σ H1 _ I1 q1) λiv s2 ⟨y,H2,I2,ry,a,v,ex,g,q2⟩=>?_) ha
 subst ex
 obtain rfl:u=Value.ref a:=rx
 exact wx hu I2 g ry λw' s3 I3 rw'=>oX (hv Z9 s3 σ H2 _ I3 q2) λw2 s4 ⟨y2,H3,I4,ry2,q3⟩=>oX (hop Z9 s4 σ H3 v y2 w' w2 _ I4 rw' ry2 q3) λw3 s5 ⟨z,H4,I5,rz,H5,g5,q4⟩=>?_
 exact wv hu I5 g5 ry rz λs6 I6=>⟨σ,H5,I6,q4⟩
end
def D2 {P:mX}{w:nC}{H:Hp}(h:nM)(hb:sysModules<h.objs.size):ObjOk P w H (h.push { cls:=.type "dict",data:=.dict #[] }) h.objs.size (.dK []) :=
 ⟨lH _,beq_eq_false_iff_ne.mpr (mZ (kU hb)),[],.nil,Heap.DictOf.new h⟩
def DZ {P:mX}{w:nC}{H:Hp}(h:nM)(hb:sysModules<h.objs.size):ObjOk P w H (h.push { cls:=.type "dict",data:=.dict #[] }) h.objs.size (.dT []) :=
 ⟨lH _,beq_eq_false_iff_ne.mpr (mZ (kU hb)),[],.nil,_,#[],0,dc _ rfl,⟨rfl,rfl,rfl⟩,rfl,rfl,ju⟩
abbrev G6:TE:=λ_ H Q=>∀ p,H p=Φ->Q (.ref p) (oT H p (.dK []))
section
variable {X:Cx}{pos:Pos}
def Dc:PE X (.Dict [] [] pos) G6:=λZ9 s σ H Q I h =>
 wpAny_Dict_empty ⟨.ref s.heap.objs.size,_,I.laid (a:=s.heap.objs.size) (o:=.dK []) (t':=s.toks) (λ_ _ q=>bS _ q) (lJ _) (D2 s.heap I.big),rfl,h _ (I.hok.fresh (lJ _))⟩
end
end L2
set_option maxHeartbeats 4000000
namespace L2
open PySem PySem.Spec PyProof.Rows
open AutoSeq1 (wpAny_loadPart')
section
variable {X:Cx}
def Dh:qC X (binaryOp .Add) (λx y H Q=>∃ a b ys,x=.ref a/\y=.ref b/\SqT X.K H a []/\SqT X.K H b ys/\Q (.ref b) H):=by
 intro Z9 s σ H x y v u Q I rx ry h
 let(a,b,ys,rfl,rfl,ha,hb,q):=h
 cases rx;cases ry
 let(Z7,r1,((oc,od,odt,os),e1,ec,n,ed),_):=I.tuple ha
 let(its2,r2,((oc2,od2,odt2,os2),e2,ec2,n2,ed2),_):=I.tuple hb
 simp only at ec ed ec2 ed2
 subst ec ed ec2 ed2
 cases r1
 exact kJ ⟨_,e1,rfl⟩ ⟨_,e2,rfl⟩ fX jM F.slot_tuple_add F.entry_tuple_add (F.args_tuple_add_2 _ _) (tuple_addW0 a b #[] its2.toArray n n2 od od2 os os2 rfl) ⟨e1,e2,.ref b,H,I,rfl,q⟩
def CL:KF X (λx lo hi H Q=>∃ a xs,x=.ref a/\SqT X.K H a xs/\HT.sIx xs.length 0 lo=0/\HT.sIx xs.length xs.length hi=xs.length/\Q (.ref a) H):=by
 intro Z9 s σ H x v vl vu lo hi sl Q I rx hs pl pu h
 let(t,xs,rfl,hx,h1,h2,q):=h
 cases rx
 let(Z7,r,ht,hz):=I.tuple hx
 let hlen:Z7.toArray.size=xs.length:=by rw[fk];exact r.length.symm
 exact⟨"tuple",_,ag.lookup,ht.typeIs,?_⟩
 let(os,eo,co,do'):=id hs
 let ty:s.TypeIs (.ref sl) "slice":=⟨os,eo,co⟩
 rw[<- hlen] at h1 h2
 unfold getItem
 try with_reducible exact jI ?_
 first|exact lR (lP ?_)|skip
 exact lR (eI ht.typeIs (·) (lR (bv (name:=kL "__getitem__") ht.typeIs ag (fV ag ht.typeIs cU ?_ (dA _ _)))))
 show wpAny _ _ (aI (.ref t) >>= _) _ _ s;exact lR (jL ht (lR (kH ty ?_)))
 rw[if_pos (·)];exact lR (HT.sliceApplied_gen hs pl pu ?_)
 show wpAny _ _ (if (((HT.sIx Z7.toArray.size 0 lo:Nat):Int) == 0 && (1:Int) == 1 && (HT.sIx Z7.toArray.size Z7.toArray.size hi-HT.sIx Z7.toArray.size 0 lo) == Z7.toArray.size)=Ω then _ else _) _ _ s
 rw[if_pos (by rw[h1,h2];simp)]
 exact lR (m:=aJ (.ref t)) ?_
 unfold aJ
 exact lR (kH ht.typeIs (lP ?_))
 rw[if_pos (·)]
 exact lR (lO (lP ⟨_,rfl,lP ⟨.ref t,H,I,rfl,q⟩⟩))
end
abbrev Kept (h0 h:nM) (N:Nat):Prop:=∀ b o,b<N->h0.get? b=Ψ o->h.get? b=Ψ o
abbrev Er (P:mX)(w:nC)(A:nB)(I:Nat->nE->Prop)(bt:Nat->Nat->Bool)(h0:nM) (N:Nat):Prop :=
 ∀ i j u v (s:nh)(Q:nE->nh->Prop)(E:nE->nh->Prop),Kept h0 s.heap N->I i u->I j v->Q (.bool (bt i j)) s->wpAny (model P w) A (richCompare .Lt u v) Q E s
section
variable {P:mX}{w:nC}{A:nB}{R:nj->nh->Prop}{it S N:nP}{fp wr:List nP}{n:Nat}{V:Nat->nE->Prop}{St:Nat->nM->Prop}{bt:Nat->Nat->Bool}{h0:nM}
def zH (W:Walks P w A.in1 it fp wr n V St)(C:Er P w A.in1 V bt h0 N)(sf:S ∉ fp)(nw:∀ b∈wr,N<=b)(nS:N<=S) :
  ∀ (k j:Nat)(s:nh)(best:nE) (c:Nat),n-(j+1)=k->j+1<=n->St (j+1) s.heap->V (argBest bt j) best->Kept h0 s.heap N->s.heap.get? S=Ψ { cls:=.type "list",dict:=Φ,data:=.seq #[best,best] c,slots:=#[] } ->
  (∀ v h' tk,V (argBest bt (n-1)) v->(∀ b o,b ∉ wr->b≠S->s.heap.get? b=Ψ o->h'.get? b=Ψ o)->R (.ok (.ret v)) { s with heap:=h',toks:=tk })->codeAny (model P w) A (.builtin "min.loop" ⟨[.ref it,.none,.ref S],[]⟩) R s:=by
 let sw:S ∉ wr:=λh=>sf (W.sub _ h)
 let nm:(toString "min"++toString ".loop":String) = "min.loop":=(·)
 let low:∀ {b:nP},b<N->b ∉ wr/\b≠S:=λ{b} hb=>⟨λz=>absurd (nw b z) (mh.mpr hb),λz=>absurd nS (by rw[<- z];exact mh.mpr hb)⟩
 intro k
 induction k with
 | zero =>
  intro j s best c hk hj hst hV kp hS hR
  let en:j+1=n:=⋯
  exact ic gP ?_;rw[cS gN _]
  show wpAny _ A.in1 (seqItems? (.ref S) >>= _) _ _ s;exact lR (i6 hS rfl ?_)
  show wpAny _ A.in1 (tryCatch (pyNext (.ref it)) _ >>= _) _ _ s;exact lR (iZ (W.done s _ _ (en ▸ hst) λg tk kk=>?_))
  let S1:=kk S _ sw hS
  show wpAny _ A.in1 (updateSeq S (λ_=>#[]) >>= _) _ _ _;exact lR (gU S1 rfl (lR (lu (lP ?_))))
  exact hR best _ tk (by rw[<- en];exact hV) λb o c1 c2 e=>(bR _ _ (mZ c2)).trans (kk b o c1 e)
 | succ k ih =>
  intro j s best c hk hj hst hV kp hS hR
  let lt:j+1<n:=⋯
  exact ic gP ?_;rw[cS gN _]
  show wpAny _ A.in1 (seqItems? (.ref S) >>= _) _ _ s;exact lR (i6 hS rfl ?_)
  show wpAny _ A.in1 (tryCatch (pyNext (.ref it)) _ >>= _) _ _ s;exact lR (iZ (W.item (j+1) s _ _ lt hst λv g tk vP st1 kk=>?_))
  let S1:=kk S _ sw hS
  let kp1:Kept h0 g N:=λb o hb e=>kk b o (low hb).1 (kp b o hb e)
  show wpAny _ A.in1 (tryCatch (holding [v,v] (richCompare .Lt v best >>= _)) _ >>= _) _ _ _
  exact lR (iZ (jI (lR (C (j+1) (argBest bt j) v best _ _ _ kp1 vP hV (lR (jI (eD (lR (lu (lP ?_))))))))))
  cases hb:bt (j+1) (argBest bt j) with
  | true =>
   simp![if_true];exact lR (gU S1 rfl (lR (lu ?_)));rw[nm]
   refine lP ⟨jN gN _,ih (j+1) _ v _ ⋯ lt (W.frame _ _ _ st1 λb bf o e=>(bR _ _ (λh:S=b=>sf (by rw[h];exact bf))).trans e) (by simp![argBest,hb,if_true];exact vP)
    (λb o l e=>(bR _ _ (mZ (low l).2)).trans (kp1 b o l e)) (cw _ S1 rfl) λv' g' tk' p' k'=>?_⟩
   exact hR v' g' tk' p' λb o c1 c2 e=>k' b o c1 c2 ((bR _ _ (mZ c2)).trans (kk b o c1 e))
  | false =>
   simp![dZ,if_false];exact lR (lu ?_);rw[nm]
   exact lP ⟨jN gN _,ih (j+1) _ best c ⋯ lt st1 (by simp![argBest,hb,dZ,if_false];exact hV) kp1 S1 λv' g' tk' p' k'=>?_⟩
   exact hR v' g' tk' p' λb o c1 c2 e=>k' b o c1 c2 (kk b o c1 e)
def yv (W:Walks P w A.in1 it fp wr n V St)(C:Er P w A.in1 V bt h0 N)(sf:S ∉ fp)(nw:∀ b∈wr,N<=b)(nS:N<=S)(hn:0<n){s:nh}{c:Nat}(hst:St 0 s.heap)(kp:Kept h0 s.heap N)
  (hS:s.heap.get? S=Ψ { cls:=.type "list",dict:=Φ,data:=.seq #[] c,slots:=#[] })
  (hR:∀ v h' tk,V (argBest bt (n-1)) v->(∀ b o,b ∉ wr->b≠S->s.heap.get? b=Ψ o->h'.get? b=Ψ o)->R (.ok (.ret v)) { s with heap:=h',toks:=tk }):codeAny (model P w) A (.builtin "min.loop" ⟨[.ref it,.none,.ref S],[]⟩) R s:=by
 let sw:S ∉ wr:=λh=>sf (W.sub _ h)
 let nm:(toString "min"++toString ".loop":String) = "min.loop":=(·)
 let low:∀ {b:nP},b<N->b ∉ wr/\b≠S:=λ{b} hb=>⟨λz=>absurd (nw b z) (mh.mpr hb),λz=>absurd nS (by rw[<- z];exact mh.mpr hb)⟩
 exact ic gP ?_;rw[cS gN _]
 show wpAny _ A.in1 (seqItems? (.ref S) >>= _) _ _ s;exact lR (i6 hS rfl ?_)
 show wpAny _ A.in1 (tryCatch (pyNext (.ref it)) _ >>= _) _ _ s;exact lR (iZ (W.item 0 s _ _ hn hst λv g tk vP st1 kk=>?_))
 let S1:=kk S _ sw hS
 show wpAny _ A.in1 (updateSeq S (λ_=>#[v,v]) >>= _) _ _ _;exact lR (gU S1 rfl ?_);rw[nm]
 refine lP ⟨jN gN _,zH W C sf nw nS _ 0 _ v _ rfl hn (W.frame _ _ _ st1 λb bf o e=>(bR _ _ (λh:S=b=>sf (by rw[h];exact bf))).trans e) vP
  (λb o l e=>(bR _ _ (mZ (low l).2)).trans (kk b o (low l).1 (kp b o l e))) (cw _ S1 rfl) λv' g' tk' p' k'=>?_⟩
 exact hR v' g' tk' p' λb o c1 c2 e=>k' b o c1 c2 ((bR _ _ (mZ c2)).trans (kk b o c1 e))
end
section
variable {P:mX}{w:nC}{A:nB}{E:nE->nh->Prop}{s:nh}
def z9 {l:nP}{xs:Array nE}{bt:Nat->Nat->Bool}{Q:nE->nh->Prop}(hh:A.in1.handled=Φ)(hl:s.heap.IsList l xs)(hn:0<xs.size)(C:Er P w A.in1 (λi v=>xs[i]?=Ψ v) bt s.heap s.heap.objs.size)
  (K:∀ v h' tk,xs[argBest bt (xs.size-1)]?=Ψ v->(∀ b o,s.heap.get? b=Ψ o->h'.get? b=Ψ o)->Q v { s with heap:=h',toks:=tk }):wpAny (model P w) A (call (.builtin "min") [.ref l]) Q E s:=by
 let nm:(toString "min"++toString ".loop":String) = "min.loop":=(·)
 let ll:l<s.heap.objs.size:=by let(_,e,_):=hl;exact lg e
 exact call_function_tree F.kind_min F.plain_min F.entry_min (F.args_min1 _) ?_
 show wpAny _ A.in1 (az "min" ["key","default"] 0 ⟨[],[]⟩ >>= _) _ _ s
 exact lR (lq (show az "min" ["key","default"] 0 ⟨[],[]⟩=pure [Φ,Φ] from rfl) (lR (lP (lR (eJ hl ?_)))))
 let W:=lW (prog:=P) (w:=w) hh s.heap.objs.size l (kU ll) xs
 exact lR (eM ?_)
 rw[nm]
 let z1:(s.heap.push { cls:=.type "list_iterator",data:=.fields #[.ref l,.int 0 0] }).objs.size=s.heap.objs.size+1:=jA ..
 exact lP ⟨jN gN _,yv (S:=(s.heap.push { cls:=.type "list_iterator",data:=.fields #[.ref l,.int 0 0] }).objs.size) W C ?_ ?_ ?_ hn ⟨⟨_,bS _ (dc _ rfl),rfl,rfl⟩,(hl.push _).push _⟩
  (λb o hb e=>bS _ (bS _ e)) (dc _ rfl) λv h' tk hv hk=>?_⟩
 ·rw[z1];intro z;simp![kj,gu,or_false] at z;rcases z with z|z
  ·exact absurd z (kW (gk _))
  ·exact absurd z (kW (fg ll))
 ·intro b hb;simp at hb;rw[hb];exact lJ _
 ·rw[z1];exact lI _
 ·exact K v h' tk hv λb o e=>hk b o (by simp;exact kU (lg e)) ?_ (bS _ (bS _ e))
  rw[z1];exact kU (fg (lg e))
end
end L2
namespace L2
open PySem PySem.Spec PyProof.Rows
abbrev sE (cells:List (Str×nP)):List (Str×mT)->List (Str×nP)->List (Str×nP)
 | [],Z8=>Z8
 | (n,k) :: r,Z8=>if (k == NameKind.free)=Ω then sE cells r ((n,(cells.lookup n).getD 0) :: Z8) else sE cells r Z8
def yS {env:Env}:∀ (names:List (Str×mT))(Z8:List (Str×nP)),(∀ p∈names,p.2=.free->∃ c,env.cells.lookup p.1=Ψ c) ->
  (forIn names Z8 λ(x:Str×mT)(cs:List (Str×nP))=>if (x.2 == NameKind.free)=Ω then cellOf env x.1 >>= λc=>pure (ForInStep.yield ((x.1,c) :: cs)) else pure (ForInStep.yield cs):Sem (List (Str×nP)))=pure (sE env.cells names Z8)
 | [],Z8,_=>rfl
 | (n,k) :: r,Z8,h=>by
  let ih:=yS (env:=env) r
  rw[iL]
  unfold sE
  by_cases hk:(k == NameKind.free)=Ω
  ·let(c,hc):=h (n,k) dO (by simpa using hk)
   let hcell:cellOf env n=pure c:=by
    let hc':env.cells.lookup n=Ψ c:=hc
    unfold cellOf;rw[hc']
   let hc':env.cells.lookup n=Ψ c:=hc
   simp![hk,if_true,hcell,hc',ga,pure_bind]
   exact ih _ λp hp=>h p (cJ _ hp)
  ·simp![hk,if_false,pure_bind,dZ]
   exact ih _ λp hp=>h p (cJ _ hp)
def vA {scope:nF}{env:Env}(h:∀ p∈scope.names,p.2=.free->∃ c,env.cells.lookup p.1=Ψ c):closureFor scope env=pure (sE env.cells scope.names []):=by
 let q:=yS (env:=env) scope.names [] h
 unfold closureFor
 first
  | exact (by rw[q];rfl)
  | (simp![bind_pure];exact q)
def sg {cells:List (Str×nP)}{x:Str}{c:nP}:∀ (names:List (Str×mT))(Z8:List (Str×nP)),(∀ p∈names,p.2=.free->∃ c,cells.lookup p.1=Ψ c)->(∀ y d,Z8.lookup y=Ψ d->cells.lookup y=Ψ d) ->
  (sE cells names Z8).lookup x=Ψ c->cells.lookup x=Ψ c
 | [],Z8,_,ha,h=>ha x c h
 | (n,k) :: r,Z8,hn,ha,h=>by
  unfold sE at h
  split at h
  ·rename_i hk
   exact sg r _ (λp hp=>hn p (cJ _ hp)) (λy d hy=>?_) h
   rw[gy] at hy
   let(c',hc'):=hn (n,k) dO (by simpa using hk)
   let hc'':cells.lookup n=Ψ c':=hc'
   split at hy
   ·rename_i hyn
    let e:y=n:=by simpa using hyn
    subst e
    rw[hc''] at hy ⊢
    exact hy
   ·exact ha y d hy
  ·exact sg r _ (λp hp=>hn p (cJ _ hp)) ha h
def vB {cells:List (Str×nP)}{x:Str}:∀ (names:List (Str×mT))(Z8:List (Str×nP)),((x,NameKind.free)∈names ∨ ∃ c,Z8.lookup x=Ψ c)->∃ c,(sE cells names Z8).lookup x=Ψ c
 | [],Z8,h=>by
  rcases h with h|h
  ·simp at h
  ·exact h
 | (n,k) :: r,Z8,h=>by
  unfold sE
  split
  ·exact vB r _ ?_
   by_cases hx:x=n
   ·subst hx
    exact .inr ⟨(cells.lookup x).getD 0,by rw[gy];simp⟩
   ·rcases h with h|⟨c,h⟩
    ·rcases kj.mp h with h|h
     ·cases h;exact absurd rfl hx
     ·exact .inl h
    ·exact .inr ⟨c,?_⟩
     rw[gy]
     have:(x == n)=Ξ:=by simpa using hx
     rw[this]
     exact h
  ·rename_i hk
   exact vB r _ ?_
   rcases h with h|h
   ·rcases kj.mp h with h|h
    ·cases h;simp at hk
    ·exact .inl h
   ·exact .inr h
def rE {env : Env} {x : Str} : ∀ {names : List (Str × mT)},
    ((names.map λ(n,k)=>if (k == NameKind.free && env.scope.kind == .function && env.kindOf n == Ψ .cell) then (n,NameKind.cell) else (n,k)).lookup x=Ψ .cell ∨
     (names.map λ(n,k)=>if (k == NameKind.free && env.scope.kind == .function && env.kindOf n == Ψ .cell) then (n,NameKind.cell) else (n,k)).lookup x=Ψ .free)->names.lookup x=Ψ .cell ∨ names.lookup x=Ψ .free
  | [],h=>by rcases h with h|h<;>simp at h
  | (n,k) :: r,h=>by
    let ih:=@rE env x r
    rw[kn] at h
    rw[gy]
    by_cases hk:(k == NameKind.free && env.scope.kind == .function && env.kindOf n == Ψ .cell)=Ω
    · simp![hk,if_true] at h
      cases hx:x == n with
      | true =>
        have : k = .free := by simp only [gR] at hk; simpa using hk.1.1
        exact .inr (by rw [this])
      | false =>
        simp only [gy, hx] at h
        exact ih h
    · simp![hk,if_false,dZ] at h
      cases hx:x == n with
      | true=>simpa only[gy,hx] using h
      | false =>
        simp only [gy, hx] at h
        exact ih h
def pj:∀ (names:List (Str×mT)) (b:Nat)(Z8:List (Str×nP)),cellsFrom b names Z8=cellsFrom b names []++Z8
 | [],_,_=>rfl
 | (n,k) :: r,b,Z8=>by
  unfold cellsFrom
  split
  ·rw[pj r _ ((n,b) :: Z8),pj r _ [(n,b)],fE];rfl
  ·exact pj r b Z8
def rL:∀ (names:List (Str×mT)) (b:Nat){x:Str}{c:nP},(x,c)∈cellsFrom b names []->(x,NameKind.cell)∈names
 | [],_,_,_,h=>by simp[cellsFrom] at h
 | (n,k) :: r,b,x,c,h=>by
  unfold cellsFrom at h
  split at h
  ·rename_i hk
   rw[pj] at h
   rcases iF.mp h with h|h
   ·exact cJ _ (rL r _ h)
   ·simp at h
    have:k=.cell:=by simpa using hk
    rw[h.1,this];exact dO
  ·exact cJ _ (rL r _ h)
def u7 {x:Str}{c:nP}:∀ {l l':List (Str×nP)},(l++l').lookup x=Ψ c->l.lookup x=Ψ c ∨ (l.lookup x=Φ/\l'.lookup x=Ψ c)
 | [],_,h=>.inr ⟨rfl,h⟩
 | (n,d) :: r,l',h=>by
  rw[gI,gy] at h
  rw[gy]
  cases hx:x == n with
  | true=>rw[hx] at h;exact .inl h
  | false=>rw[hx] at h;exact u7 h
def AD {x:Str}:∀ {l l':List (Str×nP)},((∃ c,l.lookup x=Ψ c) ∨ ∃ c,l'.lookup x=Ψ c)->∃ c,(l++l').lookup x=Ψ c
 | [],_,h=>by
  rcases h with⟨c,h⟩|h
  ·cases h
  ·exact h
 | (n,d) :: r,l',h=>by
  rw[gI,gy]
  cases hx:x == n with
  | true=>exact⟨d,rfl⟩
  | false =>
   exact AD ?_
   rcases h with⟨c,h⟩|h
   ·rw[gy,hx] at h;exact .inl ⟨c,h⟩
   ·exact .inr h
def w8 {M:nG}{A:nB}{E:nE->nh->Prop}{s:nh}{scope:nF}{globals:nP}{cl:List (Str×nP)}{qual:Str}{env:Env}{Q:Env->nh->Prop}
  (hQ:∀ h4:nM,h4.Ns s.heap.objs.size (λ_=>Φ)->(∀ b o,s.heap.get? b=Ψ o->h4.get? b=Ψ o)->CellsOk h4 (s.heap.objs.size+1) (cellsFrom (s.heap.objs.size+1) scope.names []) ->
   Q (newEnv scope s.heap.objs.size globals (cellsFrom (s.heap.objs.size+1) scope.names cl) qual Φ .none (Ψ env) builtinsNs) { s with heap:=h4,toks:=s.toks+([]:List (Str×nE)).length }) :
  wpAny M A (newFunctionEnv scope globals cl [] qual Φ .none (Ψ env)) Q E s:=by
 simp![newFunctionEnv,dD,if_true]
 exact lR (wpAny_alloc ?_)
 exact lR (wpAny_layCells _ (λname kind cells=>by cases hkc:kind == NameKind.cell<;>simp[hkc]) _ _ _ _ ?_)
 let ok:=cellsFrom_ok scope.names (s.heap.push { cls:=.type "dict",data:=.dict #[] }) (s.heap.objs.size+1) [] ⟨λ_ _ hm=>(nomatch hm),List.Pairwise.nil⟩ (by rw[jA];exact lJ _)
 rw[jA] at ok
 rw[show ({ s with heap:=s.heap.push { cls:=.type "dict",data:=.dict #[] } }:nh).heap.objs.size=s.heap.objs.size+1 from jA ..]
 simp![jw]
 exact lR (lP (lP (hQ _ ((Heap.Ns.new s.heap (.type "dict")).keeps (hZ _ _)) (λb o e=>hZ _ _ b o (bS _ e)) ok)))
abbrev FY (x:Str):Str:=kL "#"++x
abbrev tH (own:List Str)(x:Str):Str:=if own.contains x then FY x else x
abbrev rn (X:Cx)(scope:nF)(own:List Str)(fp:List nP)(C:nP)(s:nh)(H:Hp):Cx :=
 { X with N:=X.N.map (tH own)++own,s₀:=s,H₀:=H,env:=compEnvC scope (cellsFrom (C+1) scope.names (sE X.env.cells scope.names [])) C X.env,outer:=X.stack,stack:=X.stack,ex:=fp,fn:=λx=>scope.names.lookup x == Ψ .cell,pn:=[],xe:=λ_ _=>False }
structure CScope (X:Cx)(scope:nF)(own:List Str):Prop where
 kind:scope.kind=.function
 nocell:∀ p∈scope.names,p.2=.cell->scope.names.lookup p.1=Ψ .cell
 names:∀ p∈scope.names,p.2=.local->scope.names.lookup p.1=Ψ .local
 free:∀ p∈scope.names,p.2=.free->X.env.kindOf p.1=Ψ .cell ∨ X.env.kindOf p.1=Ψ .free
 apart:∀ x∈X.N,own.contains x=Ξ->scope.names.lookup x≠Ψ .local/\scope.names.lookup x≠Ψ .cell
 hid:∀ x∈X.N,own.contains x=Ω->scope.names.lookup (FY x)=Φ
section
variable {X:Cx}
def u5 {names:List (Str×mT)}{x:Str}{k:mT}(h:names.lookup x=Ψ k):(x,k)∈names:=cV h
def sF {env:Env}{x:Str}:∀ {names:List (Str×mT)},
  (names.map λ(n,k)=>if (k == NameKind.free && env.scope.kind == .function && env.kindOf n == Ψ .cell) then (n,NameKind.cell) else (n,k)).lookup x=Ψ .local->names.lookup x=Ψ .local
 | [],h=>by simp at h
 | (n,k) :: r,h=>by
  let ih:=@sF env x r
  rw[kn] at h
  rw[gy]
  by_cases hk:(k == NameKind.free && env.scope.kind == .function && env.kindOf n == Ψ .cell)=Ω
  ·simp![hk,if_true] at h
   cases hx:x == n with
   | true=>simp[gy,hx] at h
   | false =>
    simp![gy,hx] at h
    exact ih h
  ·simp![hk,if_false,dZ] at h
   cases hx:x == n with
   | true=>simpa[gy,hx] using h
   | false =>
    simp![gy,hx] at h
    exact ih h
def wS {env:Env}{scope:nF}{x:Str}(h:scope.names.lookup x=Φ):(relabel scope env).names.lookup x=Φ:=by
 unfold relabel
 simp only
 generalize scope.names=l at h
 induction l with
 | nil=>rfl
 | cons p r ih =>
  let(n,k):=p
  rw[gy] at h
  cases e:(x == n) with
  | true=>rw[e] at h;cases h
  | false =>
   rw[e] at h
   rw[kn]
   split
   ·rw[gy,e];exact ih h
   ·rw[gy,e];exact ih h
def DJ {scope:nF}{own:List Str}{fp:List nP}{Z9:List (nP×Obj)}{σ:St}{H:Hp}{s:nh}{h4:nM}{t4:Nat}(I:Inv X Z9 σ H s)(SC:CScope X scope own)(hc:X.calm=Ω)
  (hf:∀ b∈fp,uo X Z9 H b)(hfo:∀ b∈fp,∃ o,s.heap.get? b=Ψ o)
  (hns:h4.Ns s.heap.objs.size (λ_=>Φ))(hk:∀ b o,s.heap.get? b=Ψ o->h4.get? b=Ψ o)(ok:CellsOk h4 (s.heap.objs.size+1) (cellsFrom (s.heap.objs.size+1) scope.names [])) :
  Inv (rn X scope own fp s.heap.objs.size s H) [] (σ++jt own.length Φ) H { s with heap:=h4,toks:=t4 }:=by
 let fr:∀ p∈scope.names,p.2=.free->∃ c,X.env.cells.lookup p.1=Ψ c:=λp hp hq=>I.ok.has p.1 (SC.free p hp hq)
 let cl0:∀ {x:Str}{c:nP},(sE X.env.cells scope.names []).lookup x=Ψ c->X.env.cells.lookup x=Ψ c:=λh=>sg scope.names [] fr (λy d hy=>by simp at hy) h
 let cl:∀ {x:Str}{c:nP},(cellsFrom (s.heap.objs.size+1) scope.names (sE X.env.cells scope.names [])).lookup x=Ψ c->((x,c)∈cellsFrom (s.heap.objs.size+1) scope.names []/\s.heap.objs.size+1<=c) ∨ X.env.cells.lookup x=Ψ c:=λh=>by
  rw[pj] at h
  rcases u7 h with z|z
  ·exact .inl ⟨cV z,(ok.empty _ _ (cV z)).2⟩
  ·exact .inr (cl0 z.2)
 let hasC:∀ {x:Str},(scope.names.lookup x=Ψ .cell ∨ scope.names.lookup x=Ψ .free)->∃ c,(cellsFrom (s.heap.objs.size+1) scope.names (sE X.env.cells scope.names [])).lookup x=Ψ c:=λ{x} h=>by
  rw[pj]
  exact AD ?_
  rcases h with h|h
  ·exact .inl (bm.mp (bI _ _ _ (.inl h)))
  ·exact .inr (vB scope.names [] (.inl (u5 h)))
 let clt:∀ {x:Str}{c:nP},X.env.cells.lookup x=Ψ c->c<s.heap.objs.size:=λh=>by let(v,q):=I.cell _ _ h;exact q.lt
 exact⟨⟨I.ok.mod,SC.kind,I.ok.glob,I.ok.blt,lJ _,λx y c h1 h2=>?_,λx hx=>?_,λx c hf' h=>?_,λ_=>I.ok.hd hc,I.ok.frames,.inl rfl,λb hb=>?_,
   λb o e=>I.bs b o e,kX I.ok.bsz I.sz,λb o e hb=>?_,λb hb hz=>?_,I.stack,I.stkFree⟩,
  rfl,I.bare,Un.kept hk,⟨_,hns,λi x v e1 e2 e3=>?_⟩,λx c h=>?_,I.fresh,λx c h=>(cl h).elim (λz=>I.hok.fresh ⋯) (I.freeC x c),λp hp=>absurd (show p∈([]:List (nP×Obj)) from hp) ∅,I.hok.kept hk,?_⟩
 ·rcases cl h1 with z1|z1<;>rcases cl h2 with z2|z2
  ·exact name_of_addr ok.apart z1.1 z2.1
  ·exact absurd (clt z2) (mf.mpr (fh z1.2))
  ·exact absurd (clt z1) (mf.mpr (fh z2.2))
  ·exact I.ok.inj x y c z1 z2
 ·let hx:(relabel scope X.env).names.lookup x=Ψ .cell ∨ (relabel scope X.env).names.lookup x=Ψ .free:=hx
  exact hasC (rE hx)
 ·let hf':(scope.names.lookup x == Ψ .cell)=Ω:=hf'
  let h:(cellsFrom (s.heap.objs.size+1) scope.names (sE X.env.cells scope.names [])).lookup x=Ψ c:=h
  let(c',hc'):=bm.mp (bI scope.names (s.heap.objs.size+1) [] (.inl (by simpa using hf')))
  rw[pj] at h
  rcases u7 h with z|z
  ·have:=(ok.empty _ _ (cV z)).2
   show s.heap.objs.size<=c
   lia
  ·rw[hc'] at z;cases z.1
 ·let hb:b∈fp:=hb
  let(o,ho):=hfo b hb
  exact⟨kU (lg ho),λx c h=>(cl h).elim (λz e=>absurd (e ▸ lg ho:c<s.heap.objs.size) (mf.mpr (fh z.2))) ((hf b hb).2.2.2.2.1 x c)⟩
 ·let hb:b∈fp:=hb
  let e:X.base.get? b=Ψ o:=e
  rcases (hf b hb).2.2.2.1 with z|z
  ·exact I.ok.noex b o e z
  ·exact absurd (dH (lg e) (kX I.ok.bsz z)) (j9 _)
 ·let hb:b∈fp:=hb
  let hz:b∈zN X.stack:=hz
  rcases kj.mp (I.stkSub b hz) with z|z
  ·exact (hf b hb).2.1 z
  ·exact (hf b hb).2.2.1 z
 ·let e1:(X.N.map (tH own)++own)[i]?=Ψ x:=e1
  let e3:KE (relabel scope X.env) x:=e3
  let hi:i<σ.length:=by
   by_cases hi:i<σ.length
   ·exact hi
   ·rw[aE ⋯,bA] at e2
    split at e2<;>cases e2
  rw[aT hi] at e2
  rw[aT (by rw[iK,<- I.len];exact hi),fw] at e1
  let(y,e1,ey):=bK.mp e1
  let hny:own.contains y=Ξ:=by
   cases hy:own.contains y with
   | false=>rfl
   | true =>
    exfalso
    let hh:=SC.hid y (cH e1) hy
    let ex:x=FY y:=by rw[<- ey];unfold tH;rw[if_pos hy]
    rw[<- ex] at hh
    let e4:(relabel scope X.env).names.lookup x=Φ:=wS hh
    rcases e3 with z|z|z<;>(rw[e4] at z;cases z)
  let ex:x=y:=by rw[<- ey];unfold tH;rw[if_neg (by rw[hny];exact dY)]
  rw[<- ex] at e1 hny
  let hnl:(relabel scope X.env).names.lookup x≠Ψ .local:=λz=>(SC.apart x (cH e1) hny).1 (sF z)
  let hv:(relabel scope X.env).names.lookup x=Ψ .cell ∨ (relabel scope X.env).names.lookup x=Ψ .free:=by
   rcases e3 with z|z|z
   ·exact absurd z hnl
   ·exact .inl z
   ·exact .inr z
  let hfr:scope.names.lookup x=Ψ .free:=(rE hv).resolve_left (SC.apart x (cH e1) hny).2
  let hm:=u5 hfr
  let hkx:=SC.free (x,.free) hm rfl
  let(m,hn,hl):=I.loc
  let hkx':X.env.scope.names.lookup x=Ψ .cell ∨ X.env.scope.names.lookup x=Ψ .free:=hkx
  let(u,r,l):=hl i x v e1 e2 (hkx'.elim (λz=>.inr (.inl z)) λz=>.inr (.inr z))
  exact⟨u,r,.inr ⟨hv,?_⟩⟩
  let(c,hcl):=hasC (.inr hfr)
  exact⟨c,hcl,?_⟩
  rcases l with⟨z,_⟩|⟨z,c',hc',q⟩
  ·rcases hkx with y|y<;>(rw[z] at y;cases y)
  ·rcases cl hcl with y|y
   ·have:=SC.nocell _ (rL _ _ y.1) rfl
    rw[hfr] at this;cases this
   ·rw[hc'] at y;cases y
    let(o,ho,hd):=q
    exact⟨o,hk _ _ ho,hd⟩
 ·rcases cl h with z|z
  ·exact⟨_,(ok.empty _ _ z.1).1⟩
  let(v,o,ho,hd):=I.cell x c z
  exact⟨v,o,hk _ _ ho,hd⟩
 ·show (σ++jt own.length Φ).length=(X.N.map (tH own)++own).length
  rw[dP,dP,iK,cp,I.len]
end
abbrev wM (Z4:List Expr)(env:Env):Sem Bool :=
 forIn Z4 Ω λc r=>if r=Ω then do let ok <- isTrue c env (eval c env);pure (ForInStep.yield ok) else pure (ForInStep.yield r)
abbrev PTs (X:Cx)(Z4:List Expr)(t:TT):Prop :=
 ∀ (Z9:List (nP×Obj))(s:nh)(σ:St)(H:Hp)(Q:Bool->Hp->Prop),Inv X Z9 σ H s->t σ H Q->wpAny (model X.prog X.w) X.A (wM Z4 X.env) (TP X Z9 σ Q) X.xe s
def ua {M:nG}{A:nB}{E:nE->nh->Prop}{env:Env}{Q:Bool->nh->Prop}{s:nh}(h:Q Ξ s):∀ Z4:List Expr,
  wpAny M A (forIn Z4 Ξ λc r=>if r=Ω then do let ok <- isTrue c env (eval c env);pure (ForInStep.yield ok) else pure (ForInStep.yield r)) Q E s
 | []=>lP h
 | c :: r=>by
  rw[iL]
  simp![dZ,if_false]
  exact lR (lP (ua h r))
section
variable {X:Cx}
abbrev KM:TT:=λ_ H Q=>Q Ω H
def Aq:PTs X [] KM:=λ_ _ _ H _ I h=>lP ⟨H,I,h⟩
def CY {c:Expr}{r:List Expr}{t u:TT}(h1:PT X c t)(h2:PTs X r u):PTs X (c :: r) (λσ H Q=>t σ H λb H1=>if b=Ω then u σ H1 Q else Q Ξ H1):=by
 intro Z9 s σ H Q I h
 unfold wM
 rw[iL]
 simp![if_true]
 exact lR (lR (oX (h1 Z9 s σ H _ I h) λb s1 ⟨H1,I1,q1⟩=>lP ?_))
 cases b with
 | true =>
  rw[if_pos rfl] at q1
  exact h2 Z9 s1 σ H1 Q I1 q1
 | false =>
  rw[if_neg dY] at q1
  exact ua ⟨H1,I1,q1⟩ r
end
section
variable {prog:mX}{w:nC}{A:nB}{R:nj->nh->Prop}{s:nh}
abbrev zc (Z1 Z5:Expr)(Z4:List Expr)(it:nE)(env:Env)(fin:Sem Fin)(c:nO):Sem Fin:=do
 standAt Z5.pos
 match <- pyNext it with
 | none=>pure (.done .next)
 | some v =>
  letOwnedTupleGo Z1 it v
  assign Z1 env v
  let mut ok:=Ω
  for c in Z4 do
   if ok then ok <- isTrue c env (eval c env)
  if ok then fin else again c
abbrev zS (Z3:Expr)(Z8:nE)(env:Env)(c:nO):Sem Fin:=do
 (do let _ <- call (.builtin "list.append") [Z8,<- eval Z3 env])
 again c
def B4 {ce:Expr}{dp:Nat}{Z1 Z5:Expr}{Z4:List Expr}{it Z8:nE}{env:Env}{fin:Sem Fin}(ht:compTurn ce dp it Z8 env=zc Z1 Z5 Z4 it env fin (.compLoop ce dp it Z8 env))(I:Nat->nh->Prop)
  (turn:∀ n s,I n s->wpAny (model prog w) A (pyNext it) (λr s1=>match r with
   | none=>R (.ok .next) s1
   | some v=>wpAny (model prog w) A (letOwnedTupleGo Z1 it v) (λ_ s2=>wpAny (model prog w) A (assign Z1 env v) (λ_ s3=>wpAny (model prog w) A (wM Z4 env) (λok s4 =>
     if ok=Ω then wpAny (model prog w) A fin (λf s6=>f=.again (.compLoop ce dp it Z8 env)/\∃ m,m<n/\I m s6) (λ_ _=>False) s4
     else ∃ m,m<n/\I m s4) (λ_ _=>False) s3) (λ_ _=>False) s2) (λ_ _=>False) s1) (λ_ _=>False) s)
  (n:Nat)(h:I n s)(hA:A.under (.compLoop ce dp it Z8 env)=A:=by rfl)(hd:(model prog w).den (.compLoop ce dp it Z8 env)=(compTurn ce dp it Z8 env).onRaise (λx=>do noteFrame x env;theTreesLotGoes x):=by rfl):codeAny (model prog w) A (.compLoop ce dp it Z8 env) R s:=by
 exact codeAny_loop rfl I (λn s hI=>?_) n h
 rw[hA,hd]
 exact wpAny_noted ?_
 rw[ht]
 unfold zc
 let no:∀ (e:nE)(s':nh),(λ(_:nE)(_:nh)=>False) e s'->notedBy (model prog w) A env (λe s'=>R (.error e) s') e s':=λ_ _ z=>z.elim
 exact lR (jF (lR (lQ (turn n s hI) (λr s1 h1=>?_) no)))
 cases r with
 | none=>exact lP h1
 | some v =>
  exact lR (lQ h1 (λ_ s2 h2=>lR (lQ h2 (λ_ s3 h3=>lR (lQ h3 (λok s4 h4=>?_) no)) no)) no)
  cases ok with
  | true =>
   rw[if_pos rfl] at h4
   simp![if_true]
   exact lQ h4 (λf s6 q1=>by let(e6,h6):=q1;rw[e6];exact⟨rfl,h6⟩) no
  | false =>
   rw[if_neg dY] at h4
   simp![dZ,if_false]
   first
    | exact lP ⟨rfl,h4⟩
    | exact lR (lP (lP ⟨rfl,h4⟩))
end
abbrev Wk (σ σ2:St):Prop:=σ2.length=σ.length/\∀ (j:Nat)(v:V),σ[j]?=Ψ (Ψ v)->σ2[j]?=Ψ (Ψ v)
structure CKind (X:Cx)(ce tg Z5:Expr)(Z4:List Expr)(scope:nF)(mk:Sem nE)(ob:Obj)(o0:nP->HO)(fin:nE->Env->nO->Sem Fin):Prop where
 tn:∀ it Z8 env,compTurn ce 0 it (.ref Z8) env=zc tg Z5 Z4 it env (fin (.ref Z8) env (.compLoop ce 0 it (.ref Z8) env)) (.compLoop ce 0 it (.ref Z8) env)
 un:∀ (A:nB) it Z8 env,A.under (.compLoop ce 0 it (.ref Z8) env)=A
 dn:∀ it Z8 env,(model X.prog X.w).den (.compLoop ce 0 it (.ref Z8) env)=(compTurn ce 0 it (.ref Z8) env).onRaise (λx=>do noteFrame x env;theTreesLotGoes x)
 us:∀ env use,evalThenUse ce env use=(do let _ <- comprehension ce scope env Z5.pos mk Ξ (eval Z5 env) (Ψ use))
 st:∀ {A R s it Z8 env},codeAny (model X.prog X.w) A (.compLoop ce 0 it Z8 env) R s->wpAny (model X.prog X.w) A (pyIter it) (λit' s'=>codeAny (model X.prog X.w) A (.compLoop ce 0 it' Z8 env) R s') (notedBy (model X.prog X.w) A env λx s'=>R (.error x) s') s->codeAny (model X.prog X.w) A (.compStart ce 0 it Z8 env) R s
 nw:∀ {A s}{Q E:nE->nh->Prop},Q (.ref s.heap.objs.size) { s with heap:=s.heap.push ob }->wpAny (model X.prog X.w) A mk Q E s
 ok:∀ {Z9 σ H s},Inv X Z9 σ H s->Inv X Z9 σ (oT H s.heap.objs.size (o0 s.heap.objs.size)) { s with heap:=s.heap.push ob,toks:=s.toks }
 ev:∀ env,eval ce env=comprehension ce scope env Z5.pos mk Ξ (eval Z5 env)
 cl:clausesOf ce=[⟨tg,Z5,Z4,0⟩]
abbrev KG (Y:Cx)(fin:nE->Env->nO->Sem Fin)(em:nP->St->Hp->(Hp->Prop)->Prop):Prop:=∀ Z9 s σ H Z8 c K,Inv Y Z9 σ H s->em Z8 σ H K->wpAny (model Y.prog Y.w) Y.A (fin (.ref Z8) Y.env c) (λf s'=>f=.again c/\∃ H',Inv Y Z9 σ H' s'/\K H') Y.xe s
abbrev uJ (wi:TI)(g:TG)(tt:TT)(em:nP->St->Hp->(Hp->Prop)->Prop)(o0:nP->HO) (own:Nat):TE:=λσ H Q=>wi σ H λJ H1=>∀ Z8,H1 Z8=Φ->∃ W:Nat->Nat->Hp->Prop,(∃ m,W 0 m (oT H1 Z8 (o0 Z8)))/\∀ i m H,W i m H ->
 (J.stop i H/\Q (.ref Z8) H) ∨ (J.go i H/\∀ x H',J.yld i H x H'->g x (σ++jt own Φ) H' λσ2 H2=>Wk (σ++jt own Φ) σ2/\tt σ2 H2 λb H3 =>
  if b=Ω then em Z8 σ2 H3 λH4=>∃ m',m'<m/\W (i+1) m' H4 else ∃ m',m'<m/\W (i+1) m' H3)
section
variable {X:Cx}{ce Z3 tg Z5:Expr}{Z4:List Expr}{scope:nF}{own:List Str}{pos:Pos}{wi:TI}{g:TG}{tt:TT}{te:TE}{mk:Sem nE}{ob:Obj}{o0:nP->HO}{fin:nE->Env->nO->Sem Fin}{em:nP->St->Hp->(Hp->Prop)->Prop}
def wy {Z9:List (nP×Obj)}{σ:St}{H2:Hp}{s2:nh}{Q:VK}{it:nP}{fp:List nP}{tn:Nat->nM->Prop}{J:It}{RR:nE->nP->nj->nh->Prop}
  (hc:X.calm=Ω)(SC:CScope X scope own)(CK:CKind X ce tg Z5 Z4 scope mk ob o0 fin)
  (Z2:∀ C s H,PG (rn X scope own fp C s H) tg g/\PTs (rn X scope own fp C s H) Z4 tt/\KG (rn X scope own fp C s H) fin em)
  (I2:Inv X Z9 σ H2 s2)(T:Turn X.prog X.w X.K tg J fp it tn)(st2:tn 0 s2.heap)(f2:∀ b∈fp,uo X Z9 H2 b)
  (h:∀ Z8,H2 Z8=Φ->∃ W:Nat->Nat->Hp->Prop,(∃ m,W 0 m (oT H2 Z8 (o0 Z8)))/\∀ i m H,W i m H ->
   (J.stop i H/\Q (.ref Z8) H) ∨ (J.go i H/\∀ x H',J.yld i H x H'->g x (σ++jt own.length Φ) H' λσ2 H2=>Wk (σ++jt own.length Φ) σ2/\tt σ2 H2 λb H3 =>
    if b=Ω then em Z8 σ2 H3 λH4=>∃ m',m'<m/\W (i+1) m' H4 else ∃ m',m'<m/\W (i+1) m' H3))
  (hRR:∀ Z8 C H' m s',Inv X Z9 σ H' s'->s'.heap.Ns C m->C≠X.env.locals->(∀ x c,X.env.cells.lookup x=Ψ c->c≠C)->s2.heap.objs.size<=C->H' C=Φ->Q (.ref Z8) H'->RR (.ref Z8) C (.ok .next) s'){E:nE->nh->Prop} :
  wpAny (model X.prog X.w) X.A mk (λZ8 s3=>wpAny (model X.prog X.w) X.A (newFunctionEnv scope X.env.globals (sE X.env.cells scope.names []) [] X.env.qual Φ .none (Ψ X.env)) (λcenv s4 =>
   codeAny (model X.prog X.w) X.A (.compStart ce 0 (.ref it) Z8 { cenv with scope:=relabel scope X.env }) (RR Z8 cenv.locals) s4) E s3) E s2:=by
 let hacc:=I2.fresh
 let I3:Inv X Z9 σ (oT H2 s2.heap.objs.size (o0 s2.heap.objs.size)) { s2 with heap:=s2.heap.push ob,toks:=s2.toks }:=CK.ok I2
 exact CK.nw ?_
 let(W,(m0,w0),turn):=h _ hacc
 generalize hs3:({ s2 with heap:=s2.heap.push ob,toks:=s2.toks }:nh)=s3 at I3
 let keep23:∀ b o,s2.heap.get? b=Ψ o->s3.heap.get? b=Ψ o:=λb o e=>by rw[<- hs3];exact bS _ e
 let hf3:∀ b∈fp,uo X Z9 (oT H2 s2.heap.objs.size (o0 s2.heap.objs.size)) b:=λb hb=>by
  let(o,ho,_):=T.obj _ _ st2 b hb
  exact⟨by rw[nZ (kU (lg ho))];exact (f2 b hb).1,(f2 b hb).2⟩
 let st3:tn 0 s3.heap:=T.keep _ _ _ st2 λb hb o e=>keep23 b o e
 exact w8 λh4 hns' keep34 ok34=>?_
 let I4:=DJ (t4:=s3.toks+([]:List (Str×nE)).length) I3 SC hc hf3 (λb hb=>by let(o,ho,_):=T.obj _ _ st3 b hb;exact⟨o,ho⟩) hns' keep34 ok34
 let st4:tn 0 h4:=T.keep _ _ _ st3 λb hb o e=>keep34 b o e
 let(hg,ht,he):=Z2 s3.heap.objs.size s3 (oT H2 s2.heap.objs.size (o0 s2.heap.objs.size))
 let e5:(rn X scope own fp s3.heap.objs.size s3 (oT H2 s2.heap.objs.size (o0 s2.heap.objs.size))).env=compEnvC scope (cellsFrom (s3.heap.objs.size+1) scope.names (sE X.env.cells scope.names [])) s3.heap.objs.size X.env:=rfl
 generalize hY:rn X scope own fp s3.heap.objs.size s3 (oT H2 s2.heap.objs.size (o0 s2.heap.objs.size))=Y at hg ht he I4 e5
 let fpY:∀ {H':Hp},(∀ b∈fp,H' b=Φ)->∀ b∈fp,uo Y [] H' b:=λhn b hb=>by
  let(o,ho,_):=T.obj _ _ st3 b hb
  exact⟨hn b hb,?_,?_,?_,?_,?_⟩
  ·rw[<- hY];exact kU (lg ho)
  ·have:=I4.ok.exfs b (by rw[<- hY];exact hb)
   exact this
  ·exact .inl (by rw[<- hY];exact hb)
  ·exact λx c h=>(I4.ok.exf b (by rw[<- hY];exact hb)).2 x c h
  ·intro p hp;rw[<- hY] at hp;exact absurd (show p∈([]:List (nP×Obj)) from hp) ∅
 let hYp:Y.prog=X.prog/\Y.w=X.w/\Y.K=X.K/\Y.calm=Ω/\Y.A=X.A/\Y.xe=(λ_ _=>False)/\Y.s₀=s3/\Y.H₀=oT H2 s2.heap.objs.size (o0 s2.heap.objs.size)/\Y.outer=X.stack/\Y.ex=fp:=by rw[<- hY];exact⟨rfl,rfl,rfl,hc,rfl,rfl,rfl,rfl,rfl,rfl⟩
 let(y1,y2,y3,y4,y5,y6,y7,y8,y9,y10):=hYp
 let loop:∀ s5:nh,s5 = { s3 with heap:=h4,toks:=s3.toks+([]:List (Str×nE)).length } ->
   codeAny (model X.prog X.w) X.A (.compLoop ce 0 (.ref it) (.ref s2.heap.objs.size) Y.env) (RR (.ref s2.heap.objs.size) s3.heap.objs.size) s5:=by
  rintro s5 rfl
  exact B4 (hA:=CK.un ..) (hd:=CK.dn ..) (CK.tn _ _ _) (λn s'=>∃ i H',Inv Y [] (σ++jt own.length Φ) H' s'/\tn i s'.heap/\(∀ b∈fp,H' b=Φ)/\W i n H') ?_ m0 ⟨0,_,I4,st4,λb hb=>(hf3 b hb).1,w0⟩
  rintro n s6 ⟨i,H6,I6,st6,fr6,w6⟩
  rcases turn i n H6 w6 with⟨stop,q⟩|⟨go,step⟩
  ·let d:=T.done Y y1 y2 y3 y4 i [] s6 _ H6 (λ_ _=>False) I6 (fpY fr6) st6 stop
   rw[y5] at d
   exact oX d λr s7 q1=>?_;let(hr,I7):=q1
   subst hr
   let(m,hn,_):=I7.loc
   let hL:Y.env.locals=s3.heap.objs.size:=by rw[e5];rfl
   rw[hL] at hn
   let b7:=I7.base
   rw[y7,y8,y10] at b7
   let b7':Un (zN X.stack) fp (oT H2 s2.heap.objs.size (o0 s2.heap.objs.size)) H6 s3.heap s7.heap:=by
    let z:Y.fs=zN X.stack:=by show zN Y.outer=_;rw[y9]
    rw[z] at b7
    exact b7
   let hok7:=I7.hok
   rw[y1,y2] at hok7
   let os7:=I7.os
   rw[y7] at os7
   let I8:Inv X Z9 σ H6 s7:=I3.call' os7 b7' hok7 I7.bare λb hb=>⟨(hf3 b hb).2.2.2.1,(hf3 b hb).2.1,(hf3 b hb).2.2.2.2.1,(hf3 b hb).2.2.2.2.2⟩
   let hfree:=I7.free
   rw[hL] at hfree
   exact hRR _ _ H6 m s7 I8 hn (kW I3.lt) (λx c h z=>?_) ?_ hfree q
   ·let(v,y):=I3.cell x c h
    exact absurd y.lt (by rw[z];exact j9 _)
   ·rw[<- hs3,jA];exact lI _
  ·let d:=T.item Y y1 y2 y3 y4 i [] s6 _ H6 (λ_ _=>False) I6 (fpY fr6) st6 go
   rw[y5] at d
   exact oX d λr s7 q2=>?_;let(u,hr,h7):=q2
   subst hr
   exact oX h7 λ_ s8 q3=>?_;let(x,H8,I8,r8,y8',st8,fr8):=q3
   let I8':=I8.pinned (fpY fr8) (T.obj _ _ st8)
   let pinK:∀ {σ':St}{H':Hp}{s':nh},Inv Y ([]++uV fp s8.heap) σ' H' s'->tn (i+1) s'.heap/\∀ b∈fp,H' b=Φ:=λ{σ' H' s'} I' =>
    ⟨T.keep _ _ _ st8 λb hb o e=>(I'.pin (b,o) (cm _ (cm _ (rF hb e)))).1,λb hb=>by
     let(o,e,_):=T.obj _ _ st8 b hb
     exact (I'.pin (b,o) (cm _ (cm _ (rF hb e)))).2.1⟩
   let dg:=hg _ s8 _ H8 x u _ I8' r8 (step x H8 y8')
   rw[y1,y2,y5,y6] at dg
   exact oX dg λ_ s9 q4=>?_;let(σ9,H9,I9,wk,q9):=q4
   let dt:=ht _ s9 σ9 H9 _ I9 q9
   rw[y1,y2,y5,y6] at dt
   exact oX dt λok s10 q5=>?_;let(H10,I10,q10):=q5
   cases ok with
   | true =>
    rw[if_pos rfl] at q10 ⊢
    let de:=he _ s10 σ9 H10 s2.heap.objs.size (.compLoop ce 0 (.ref it) (.ref s2.heap.objs.size) Y.env) _ I10 q10
    rw[y1,y2,y5,y6] at de
    exact oX de λf s12 ⟨e12,H12,I12,m',hm,w12⟩=>⟨e12,?_⟩
    let(t12,f12):=pinK I12
    exact⟨m',hm,i+1,_,(I12.unpinned).weak wk.1.symm wk.2,t12,f12,w12⟩
   | false =>
    rw[if_neg dY] at q10 ⊢
    let(m',hm,w10):=q10
    let(t10,f10):=pinK I10
    exact⟨m',hm,i+1,_,(I10.unpinned).weak wk.1.symm wk.2,t10,f10,w10⟩
 rw[e5] at loop
 exact CK.st (loop _ rfl) (T.self _ 0 _ _ _ st4 (loop _ rfl))
def uX (hc:X.calm=Ω)(SC:CScope X scope own)(CK:CKind X.nox ce tg Z5 Z4 scope mk ob o0 fin)(hi:PI X.nox tg Z5 wi)
  (Z2:∀ fp C s H,PG (rn X scope own fp C s H) tg g/\PTs (rn X scope own fp C s H) Z4 tt/\KG (rn X scope own fp C s H) fin em)
  (hs:∀ x,foldedSetIterable Z5 X.env x=pure x:=by intro _;rfl) :
  PE X.nox ce (uJ wi g tt em o0 own.length):=by
 intro Z9 s σ H Q I h
 let fr:∀ p∈scope.names,p.2=.free->∃ c,X.env.cells.lookup p.1=Ψ c:=λp hp hq=>I.ok.has p.1 (SC.free p hp hq)
 rw[CK.ev]
 exact bi (use:=Φ) CK.cl hs (vA fr) SC.kind SC.names (oX (hi Z9 s σ H _ I h) λv s1 h1=>oX h1 λitv s2 h2=>?_)
 let(it,fp,tn,J,H2,e,I2,T,st2,f2,h2):=h2
 subst e
 exact wy (X:=X.nox) (own:=own) (RR:=λZ8 C=>compPost (model X.prog X.w) X.A (λ_ _=>False) Φ (EP X.nox Z9 σ Q) Z8 C) hc ⟨SC.kind,SC.nocell,SC.names,SC.free,SC.apart,SC.hid⟩ CK (λC s H=>Z2 fp C s H) I2 T st2 f2 h2 ?_
 intro Z8 C H' m s' I' hn hL hcl hC hH q
 let(f0,f1,f2',f3,f4,f5):=I2.fpOk hC hH
 exact⟨m,hn,λh' hsb=>⟨.ref Z8,H',?_,rfl,q⟩⟩
 exact I'.turned (t':=s'.toks) (λb o hb e=>(hsb.2 b hb).trans e) f0 f1 f3 f4 f5
def ub {i:Nat}{x:Str}{px:Pos}{spos:Pos}(hc:X.calm=Ω)(SC:CScope X scope own)(CK:CKind X.nox ce tg Z5 Z4 scope mk ob o0 fin)(hN:X.N.Nodup)(hx:X.N[i]?=Ψ x)(hl:X.env.scope.names.lookup x=Ψ .local)(hi:PI X.nox tg Z5 wi)
  (Z2:∀ fp C s H,PG (rn X scope own fp C s H) tg g/\PTs (rn X scope own fp C s H) Z4 tt/\KG (rn X scope own fp C s H) fin em)
  (hsw:swapsWith ce (Ψ (.Name x px)) spos.line X.env=pure Ω)
  (hs:∀ x,foldedSetIterable Z5 X.env x=pure x:=by intro _;rfl) :
  PS X.nox (.Assign [.Name x px] ce spos) (vH (uJ wi g tt em o0 own.length) (rm i)):=by
 intro Z9 s σ H D I h
 let fr:∀ p∈scope.names,p.2=.free->∃ c,X.env.cells.lookup p.1=Ψ c:=λp hp hq=>I.ok.has p.1 (SC.free p hp hq)
 show wpAny (model X.prog X.w) X.A (exec _ X.env) _ _ s
 rw[exec_Assign_Name_used _ _ _ _ hsw]
 exact lR (jF (lR ?_))
 rw[CK.us]
 refine lR (lQ (bi (use:=Ψ (assign (.Name x px) X.env)) (Q:=λ_ s'=>SP X.nox Z9 D .next s') CK.cl hs (vA fr) SC.kind SC.names
  (oX (hi Z9 s σ H _ I h) λv s1 h1=>oX h1 λitv s2 h2=>?_)) (λ_ s' hq=>lP (lP hq)) λ_ _ e=>e)
 let(it,fp,tn,J,H2,e,I2,T,st2,f2,h2):=h2
 subst e
 exact wy (X:=X.nox) (own:=own) (Q:=λv H1=>rm i v σ H1 D.nx) (RR:=λZ8 C=>compPost (model X.prog X.w) X.A (λ_ _=>False) (Ψ (assign (.Name x px) X.env)) (λ_ s'=>SP X.nox Z9 D .next s') Z8 C) hc ⟨SC.kind,SC.nocell,SC.names,SC.free,SC.apart,SC.hid⟩ CK (λC s H=>Z2 fp C s H) I2 T st2 f2 h2 ?_
 intro Z8 C H' m s' I' hn hL hcl hC hH q
 let(f0,f1,f2',f3,f4,f5):=I2.fpOk hC hH
 show wpAny (model X.prog X.w) X.A (assign (.Name x px) X.env (.ref Z8)) _ _ s'
 exact eP (vR (X:=X.nox) I' hN hx (.inl hl) (v:=.ref Z8) rfl (λs'' I'' hch=>?_) (.inr hl))
 let(a,hsa,ha):=hch
 let hCa:C≠a:=by
  rcases ha with z|z
  ·rw[z];exact hL
  ·exact λy=>hcl x a z y.symm
 exact⟨m,hn.sameBut hsa hCa,λh' hsb=>?_⟩
 exact⟨_,H',I''.turned (t':=s''.toks) (λb o hb e=>(hsb.2 b hb).trans e) f0 f1 f3 f4 f5,q⟩
abbrev QQ (te:TE):nP->St->Hp->(Hp->Prop)->Prop:=λZ8 σ H K=>te σ H λv H4=>∃ ys,H4 Z8=Ψ (.lst ys)/\ys.length<sizeLine/\K (oT H4 Z8 (.lst (ys++[v])))
abbrev CB (wi:TI)(g:TG)(tt:TT)(te:TE) (own:Nat):TE:=uJ wi g tt (QQ te) (λ_=>.lst []) own
def Bi:CKind X (.ListComp Z3 [⟨tg,Z5,Z4,0⟩] scope pos) tg Z5 Z4 scope (newList []) { cls:=.type "list",data:=.seq ([]:List nE).toArray } (λ_=>.lst []) (zS Z3) :=
 ⟨λ_ _ _=>rfl,λ_ _ _ _=>rfl,λ_ _ _=>rfl,λ_ _=>rfl,codeAny_compStart_list,λq=>eM q,λI=>I.lnew .nil (lH _),λ_=>by rw[eval_ListComp];rfl,rfl⟩
def yd {Y:Cx}(he:PE Y Z3 te):KG Y (zS Z3) (QQ te):=by
 intro Z9 s σ H Z8 c K I q
 unfold zS
 exact lR (lR (oX (he _ s σ H _ I q) λy s11 ⟨v11,H11,I11,r11,ys,hys,hz,k⟩=>lR ?_))
 exact oX (vZ (X:=Y) _ s11 σ H11 (.ref Z8) [v11] (.ref Z8) [y] (λ_ H'=>H'=oT H11 Z8 (.lst (ys++[v11]))) I11 rfl (.cons r11 .nil) ⟨_,ys,v11,rfl,rfl,hys,hz,rfl⟩) λ_ s12 q2=>?_;let(v12,H12,I12,r12,e12):=q2
 subst e12
 exact lP (lP ⟨rfl,_,I12,k⟩)
def Au (hc:X.calm=Ω)(SC:CScope X scope own)(hi:PI X.nox tg Z5 wi)
  (Z2:∀ fp C s H,PG (rn X scope own fp C s H) tg g/\PTs (rn X scope own fp C s H) Z4 tt/\PE (rn X scope own fp C s H) Z3 te)
  (hs:∀ x,foldedSetIterable Z5 X.env x=pure x:=by intro _;rfl) :
  PE X.nox (.ListComp Z3 [⟨tg,Z5,Z4,0⟩] scope pos) (CB wi g tt te own.length) :=
 uX hc SC Bi hi (λfp C s H=>let ⟨a,b,c⟩:=Z2 fp C s H;⟨a,b,yd c⟩) hs
def zt {i:Nat}{x:Str}{px:Pos}{spos:Pos}(hc:X.calm=Ω)(SC:CScope X scope own)(hN:X.N.Nodup)(hx:X.N[i]?=Ψ x)(hl:X.env.scope.names.lookup x=Ψ .local)(hi:PI X.nox tg Z5 wi)
  (Z2:∀ fp C s H,PG (rn X scope own fp C s H) tg g/\PTs (rn X scope own fp C s H) Z4 tt/\PE (rn X scope own fp C s H) Z3 te)
  (hsw:swapsWith (.ListComp Z3 [⟨tg,Z5,Z4,0⟩] scope pos) (Ψ (.Name x px)) spos.line X.env=pure Ω)
  (hs:∀ x,foldedSetIterable Z5 X.env x=pure x:=by intro _;rfl) :
  PS X.nox (.Assign [.Name x px] (.ListComp Z3 [⟨tg,Z5,Z4,0⟩] scope pos) spos) (vH (CB wi g tt te own.length) (rm i)) :=
 ub hc SC Bi hN hx hl hi (λfp C s H=>let ⟨a,b,c⟩:=Z2 fp C s H;⟨a,b,yd c⟩) hsw hs
end
section
variable {X:Cx}{Z9:List (nP×Obj)}{σ:St}{H:Hp}{s:nh}{h':nM}
def Inv.turnedNew {t':Nat}{ch:List nP}{p:nP}{o:HO}(I:Inv X Z9 σ H s)(hp:s.heap.objs.size<=p)(k:∀ b ob,b ∉ ch->s.heap.get? b=Ψ ob->h'.get? b=Ψ ob)(hf:∀ b∈ch,uo X Z9 H b)
  (new:ObjOk X.prog X.w (oT H p o) h' p o):Inv X Z9 σ (oT H p o) { s with heap:=h',toks:=t' }:=by
 let hn:H p=Φ:=I.hok.fresh hp
 let nit:∀ b u,H b=Ψ u->b ∉ ch:=λb u e z=>by rw[(hf b z).1] at e;cases e
 let nep:∀ {b ob},s.heap.get? b=Ψ ob->b≠p:=λe=>kU (dH (lg e) hp)
 refine I.step (g':=s.gens) (d':=s.drawn) (ch:=ch) (λb hb=>⟨(hf b hb).2.2.2.1,(hf b hb).2.1,(hf b hb).2.2.2.2.1,(hf b hb).2.2.2.2.2⟩) (λb ob _ _ hc e _=>k b ob hc e) (λb ob _ _ hc e _=>⟨ob.slots,k b ob hc e⟩)
  (λb ob hc e n=>by rw[nZ (nep e)];exact n) (λb ob hc e=>⟨ob,k b ob hc e⟩) (λb xs e=>by rw[nZ (oY e hn)];exact e) (λb u xs e=>by rw[nZ (oY e hn)];exact e)
  (λb ps e=>⟨#[],by rw[nZ (oY e hn),e];simp⟩) (λm hm=>?_) (λb u e=>?_) I.bare
 ·let(ob,es,ep,ho,r):=hm
  exact⟨ob,es,ep,k _ ob (λz=>(hf _ z).2.1 rfl) ho,r⟩
 ·by_cases hb:b=p
  ·subst hb;rw[n5] at e;cases e;exact new
  ·rw[nZ hb] at e
   exact (I.hok b u e).stay (λc v hc q=>k c v ?_ q) (λc q=>by rw[nZ (oY q hn)];exact q) λc xs q=>by rw[nZ (oY q hn)];exact q
   rcases hc with z|z
   ·rw[z];exact nit b u e
   ·exact nit c _ z
def Inv.turnedL {t':Nat}{ch:List nP}(I:Inv X Z9 σ H s)(k:∀ b ob,b ∉ ch->s.heap.get? b=Ψ ob->h'.get? b=Ψ ob)(hf:∀ b∈ch,uo X Z9 H b):Inv X Z9 σ H { s with heap:=h',toks:=t' }:=by
 let nit:∀ b u,H b=Ψ u->b ∉ ch:=λb u e z=>by rw[(hf b z).1] at e;cases e
 refine I.step (g':=s.gens) (d':=s.drawn) (ch:=ch) (λb hb=>⟨(hf b hb).2.2.2.1,(hf b hb).2.1,(hf b hb).2.2.2.2.1,(hf b hb).2.2.2.2.2⟩) (λb ob _ _ hc e _=>k b ob hc e) (λb ob _ _ hc e _=>⟨ob.slots,k b ob hc e⟩)
  (λ_ _ _ _ n=>n) (λb ob hc e=>⟨ob,k b ob hc e⟩) (λ_ _ e=>e) (λ_ _ _ e=>e) (λb ps e=>⟨#[],by rw[e];simp⟩) (λm hm=>?_) (λb u e=>?_) I.bare
 ·let(ob,es,ep,ho,r):=hm
  exact⟨ob,es,ep,k _ ob (λz=>(hf _ z).2.1 rfl) ho,r⟩
 ·exact (I.hok b u e).stay (λc v hc q=>k c v ?_ q) (λ_ q=>q) λ_ _ q=>q
  rcases hc with z|z
  ·rw[z];exact nit b u e
  ·exact nit c _ z
end
abbrev SeqB (b:Bool)(h:nM)(l:nP)(xs:Array nE):Prop:=match b with|true=>h.IsList l xs|false=>h.IsTuple l xs
abbrev IterB (b:Bool)(h:nM)(it l:nP) (i:Nat):Prop:=match b with|true=>h.IsListIter it l i|false=>h.IsTupleIter it l i
abbrev uy (b:Bool):String:=match b with|true=>"list_iterator" | false=>"tuple_iterator"
section
variable {b:Bool}{h h':nM}{it l c:nP}{i:Nat}{xs:Array nE}
def SeqB.move (x:SeqB b h l xs)(e:lM c h h')(n:l≠c):SeqB b h' l xs:=by
 cases b
 ·exact Heap.IsTuple.extBut x e n
 ·exact Heap.IsList.extBut x e n
def SeqB.push {o:Obj}(x:SeqB b h l xs):SeqB b (h.push o) l xs:=by
 cases b
 ·exact Heap.IsTuple.push x o
 ·exact Heap.IsList.push x o
def SeqB.lt (x:SeqB b h l xs):l<h.objs.size:=by
 cases b<;>(let(_,e,_):=x;exact lg e)
def IterB.move (x:IterB b h it l i)(e:lM c h h')(n:it≠c):IterB b h' it l i:=by
 cases b
 ·exact Heap.IsTupleIter.extBut x e n
 ·exact Heap.IsListIter.extBut x e n
def IterB.to (x:IterB b h it l i)(k:∀ o,h.get? it=Ψ o->h'.get? it=Ψ o):IterB b h' it l i:=by
 cases b<;>(let(o,e,r):=x;exact⟨o,k o e,r⟩)
def IterB.obj (x:IterB b h it l i):∃ o,h.get? it=Ψ o/\∀ v,o.data≠.cell v:=by
 cases b<;>(let(o,e,_,d):=x;exact⟨o,e,λv z=>by rw[d] at z;cases z⟩)
def IterB.lt (x:IterB b h it l i):it<h.objs.size:=let ⟨_,e,_⟩:=x.obj;lg e
end
section
variable {P:mX}{w:nC}{A:nB}{E:nE->nh->Prop}{s:nh}{b:Bool}{it l:nP}{i:Nat}{xs:Array nE}{Q:nE->nh->Prop}
def AR (x:SeqB b s.heap l xs)(q:Q (.ref s.heap.objs.size) { s with heap:=s.heap.push { cls:=.type (uy b),data:=.fields #[.ref l,.int 0 0] } }):wpAny (model P w) A (pyIter (.ref l)) Q E s:=by
 cases b
 ·exact dr x q
 ·exact eJ x q
def nextT {x:nE}(hi:s.heap.IsTupleIter it l i)(hl:s.heap.IsTuple l xs)(hx:xs[i]?=Ψ x)(q:∀ h',h'.IsTupleIter it l (i+1)->lh it s.heap h'->Q x { s with heap:=h' }):wpAny (model P w) A (aY (.ref it)) Q E s:=by
 let(oi,ei,ci,di):=id hi
 let(os,es,_,ns,ds):=hl
 unfold aY
 exact lR (bv (name:=kL "__next__") hi.typeIs aG (fV aG hi.typeIs ay ?_ (aq _)))
 show wpAny _ _ (field (.ref it) 0 >>= _) _ _ s;exact lR (lw ei di (x:=.ref l) rfl ?_)
 show wpAny _ _ (if (Value.ref l == Value.none)=Ω then _ else _) _ _ s;rw[if_neg (show ¬ ((Value.ref l == Value.none)=Ω) from dY)]
 show wpAny _ _ (field (.ref it) 1 >>= _) _ _ s;exact lR (lw ei di (x:=.int i 0) rfl ?_)
 show wpAny _ _ (seqItems? (.ref l) >>= _) _ _ s;exact lR (i6 es ds ?_)
 simp![fG,hx]
 exact lR (i5 ei di ∅ (lP ⟨x,rfl,lP (q _ ⟨_,cw _ ei (b9 (dE di _)),(ff ..).trans ci,?_⟩ (dh ..))⟩))
 rw[dE di];simp[rawInt]
def K4 (hh:A.handled=Φ)(hi:s.heap.IsTupleIter it l i)(hl:s.heap.IsTuple l xs)(hx:xs[i]?=Φ)
  (q:∀ h' e,lM it s.heap h'->(∃ o,h'.get? e=Ψ o/\o.cls=.type "StopIteration")->E (.ref e) { s with heap:=h' }):wpAny (model P w) A (aY (.ref it)) Q E s:=by
 let(oi,ei,ci,di):=id hi
 let(os,es,_,ns,ds):=hl
 unfold aY
 exact lR (bv (name:=kL "__next__") hi.typeIs aG (fV aG hi.typeIs ay ?_ (aq _)))
 show wpAny _ _ (field (.ref it) 0 >>= _) _ _ s;exact lR (lw ei di (x:=.ref l) rfl ?_)
 show wpAny _ _ (if (Value.ref l == Value.none)=Ω then _ else _) _ _ s;rw[if_neg (show ¬ ((Value.ref l == Value.none)=Ω) from dY)]
 show wpAny _ _ (field (.ref it) 1 >>= _) _ _ s;exact lR (lw ei di (x:=.int i 0) rfl ?_)
 show wpAny _ _ (seqItems? (.ref l) >>= _) _ _ s;exact lR (i6 es ds ?_)
 simp![fG,hx]
 exact lR (lO (lR (i5 ei di ∅ ?_)));show wpAny _ _ (newExc (.type "StopIteration") [] >>= _) _ _ _
 exact lR ?_;simp![newExc,newTuple]
 exact lR (eM ?_ (by size_fits));exact lR (m:=firstArgMember _ _) (lq (a:=Value.none) (by first|rfl|(simp![firstArgMember];rfl)) ?_)
 exact eM ?_ (by size_fits);simp -iota only[raiseNew];exact lR (jJ ?_)
 first|rw[show A.in1.handled=Φ from hh]|rw[hh]
 exact lR (lP (wpAny_throw (q _ _ (((dh ..).extBut.push _).push _) ⟨_,dc _ rfl,rfl⟩)))
def Ay {x:nE}(hi:IterB b s.heap it l i)(hl:SeqB b s.heap l xs)(hx:xs[i]?=Ψ x)(q:∀ h',IterB b h' it l (i+1)->lh it s.heap h'->Q x { s with heap:=h' }):wpAny (model P w) A (aY (.ref it)) Q E s:=by
 cases b
 ·exact nextT hi hl hx q
 ·exact wpAny_nextOf_list_item hi hl hx q
def CJ (hh:A.handled=Φ)(hi:IterB b s.heap it l i)(hl:SeqB b s.heap l xs)(hx:xs[i]?=Φ)
  (q:∀ h' e,lM it s.heap h'->(∃ o,h'.get? e=Ψ o/\o.cls=.type "StopIteration")->E (.ref e) { s with heap:=h' }):wpAny (model P w) A (aY (.ref it)) Q E s:=by
 cases b
 ·exact K4 hh hi hl hx q
 ·exact wpAny_nextOf_list_end hh hi hl hx q
end
section
variable {P:mX}{w:nC}{A:nB}{E:nE->nh->Prop}{s:nh}{p q:Bool}{z TI TO i1 i2 l1 l2:nP}{k1 k2:Nat}{xs ys:Array nE}{x y a b:nE}
def Bs {Q:nE->nh->Prop}(D:mL z TI TO i1 i2 l1 l2)(zz:nI s.heap z TI TO .none)(zi:nu s.heap TI (.ref i1) (.ref i2))(zo:nu s.heap TO a b)
  (t1:IterB p s.heap i1 l1 k1)(t2:IterB q s.heap i2 l2 k2)(m1:SeqB p s.heap l1 xs)(m2:SeqB q s.heap l2 ys)(ex:xs[k1]?=Ψ x)(ey:ys[k2]?=Ψ y)
  (K:∀ h',nI h' z TI TO (rawInt s.heap.objs.size)->nu h' TO x y->IterB p h' i1 l1 (k1+1)->IterB q h' i2 l2 (k2+1)->nu h' s.heap.objs.size x y ->
   (∀ c o,c≠z->c≠TO->c≠i1->c≠i2->s.heap.get? c=Ψ o->h'.get? c=Ψ o)->Q (.ref s.heap.objs.size) { s with heap:=h' }) :
  wpAny (model P w) A (m7.«zip.__next__» ⟨[.ref z],[]⟩) (λfin s'=>∃ v,fin=.done (.ret v)/\Q v s') E s:=by
 show wpAny _ _ (field (.ref z) 2 >>= _) _ _ _;exact lR (lw zz rfl (x:=.bool Ξ) rfl ?_)
 show wpAny _ _ (field (.ref z) 3 >>= _) _ _ _;exact lR (lw zz rfl (x:=.ref TI) rfl (lR (i6 zi rfl ?_)))
 show wpAny _ _ (ae (.ref z) >>= _) _ _ _;exact lR ?_;unfold ae
 exact lR (lw zz rfl (x:=.none) rfl (lP ?_));simp -iota only[if_true]
 exact lR (lO (lR (lw zz rfl (x:=.ref TO) rfl (lR (dq zz ∅ λg1 z1 b1=>?_)))))
 replace z1:nI g1 z TI TO .ellipsis:=z1
 exact lR ?_;simp -iota only[gp,iy,iL,jw]
 exact lR (lR (jG ?_));show wpAny _ _ (aY (.ref i1) >>= _) _ _ _
 exact lR (Ay (t1.move b1.extBut D.i1z) (m1.move b1.extBut D.l1z) ex λg2 t12 b2=>lP ?_)
 let o2:nu g2 TO a b:=b2.extBut _ _ D.TOi1 (b1.extBut _ _ D.TOz zo)
 exact lR (i6 o2 rfl (lR (cB o2 λg3 o3 b3=>?_)))
 replace o3:nu g3 TO x b:=o3
 exact lR (lu (lP (lR (lR (jG ?_)))));show wpAny _ _ (aY (.ref i2) >>= _) _ _ _
 exact lR (Ay (((t2.move b1.extBut D.i2z).move b2.extBut D.i12.symm).move b3.extBut D.TOi2.symm) (((m2.move b1.extBut D.l2z).move b2.extBut D.l2i1).move b3.extBut D.l2TO) ey λg4 t24 b4=>lP ?_)
 let o4:nu g4 TO x b:=b4.extBut _ _ D.TOi2 o3
 exact lR (i6 o4 rfl (lR (cB o4 λg5 o5 b5=>?_)))
 replace o5:nu g5 TO x y:=o5
 exact lR (lu (lP (lP (lR (i6 o5 rfl (lR (i7 ?_)))))))
 let sz:g5.objs.size=s.heap.objs.size:=by rw[b5.1,b4.1,b3.1,b2.1,b1.1]
 let z5:nI g5 z TI TO .ellipsis:=b5.extBut _ _ D.TOz.symm (b4.extBut _ _ D.i2z.symm (b3.extBut _ _ D.TOz.symm (b2.extBut _ _ D.i1z.symm z1)))
 let kk:∀ c o,c≠z->c≠TO->c≠i1->c≠i2->s.heap.get? c=Ψ o->g5.get? c=Ψ o:=λc o c1 c2 c3 c4 e=>b5.extBut _ _ c2 (b4.extBut _ _ c4 (b3.extBut _ _ c2 (b2.extBut _ _ c3 (b1.extBut _ _ c1 e))))
 let t15:IterB p g5 i1 l1 (k1+1):=((t12.move b3.extBut D.TOi1.symm).move b4.extBut D.i12).move b5.extBut D.TOi1.symm
 let t25:IterB q g5 i2 l2 (k2+1):=t24.move b5.extBut D.TOi2.symm
 let zlt:z<g5.objs.size:=lg z5
 show wpAny _ _ (ac (.ref z) (.ref g5.objs.size) >>= _) _ _ _;exact lR ?_;unfold ac
 let z6:nI (g5.push { cls:=.type "tuple",data:=.seq #[x,y] }) z TI TO .ellipsis:=bS _ z5
 exact lR (dq z6 ∅ λg7 z7 b7=>?_);replace z7:nI g7 z TI TO (rawInt g5.objs.size):=z7
 exact dq z7 ∅ λg8 z8 b8=>?_;replace z8:nI g8 z TI TO (rawInt g5.objs.size):=z8
 let up:∀ c o,c≠z->g5.get? c=Ψ o->g8.get? c=Ψ o:=λc o c1 e=>b8.extBut _ _ c1 (b7.extBut _ _ c1 (bS _ e))
 let tt:nu g8 g5.objs.size x y:=b8.extBut _ _ (kW zlt) (b7.extBut _ _ (kW zlt) (dc _ rfl))
 rw[sz] at z8 tt
 exact lP ⟨_,rfl,?_⟩;show Q (.ref g5.objs.size) _;rw[sz]
 exact K g8 z8 (up _ _ D.TOz o5) (t15.to λo e=>up _ o D.i1z e) (t25.to λo e=>up _ o D.i2z e) tt λc o c1 c2 c3 c4 e=>up c o c1 (kk c o c1 c2 c3 c4 e)
def Cs {Q:Fin->nh->Prop}(hh:A.handled=Φ)(D:mL z TI TO i1 i2 l1 l2)(zz:nI s.heap z TI TO .none)(zi:nu s.heap TI (.ref i1) (.ref i2))(zo:nu s.heap TO a b)
  (t1:IterB p s.heap i1 l1 k1)(t2:IterB q s.heap i2 l2 k2)(m1:SeqB p s.heap l1 xs)(m2:SeqB q s.heap l2 ys)(en:xs[k1]?=Φ ∨ ys[k2]?=Φ)
  (K:∀ h' e,(∀ c o,c≠z->c≠TO->c≠i1->c≠i2->s.heap.get? c=Ψ o->h'.get? c=Ψ o)->(∃ o,h'.get? e=Ψ o/\o.cls=.type "StopIteration")->E (.ref e) { s with heap:=h' }) :
  wpAny (model P w) A (m7.«zip.__next__» ⟨[.ref z],[]⟩) Q E s:=by
 show wpAny _ _ (field (.ref z) 2 >>= _) _ _ _;exact lR (lw zz rfl (x:=.bool Ξ) rfl ?_)
 show wpAny _ _ (field (.ref z) 3 >>= _) _ _ _;exact lR (lw zz rfl (x:=.ref TI) rfl (lR (i6 zi rfl ?_)))
 show wpAny _ _ (ae (.ref z) >>= _) _ _ _;exact lR ?_;unfold ae
 exact lR (lw zz rfl (x:=.none) rfl (lP ?_));simp -iota only[if_true]
 exact lR (lO (lR (lw zz rfl (x:=.ref TO) rfl (lR (dq zz ∅ λg1 z1 b1=>?_)))))
 replace z1:nI g1 z TI TO .ellipsis:=z1
 exact lR ?_;simp -iota only[gp,iy,iL,jw]
 exact lR (lR (jG ?_));show wpAny _ _ (aY (.ref i1) >>= _) _ _ _
 let fin:∀ {g:nM}{e:nP}{o:Obj},nI g z TI TO .ellipsis->g.get? e=Ψ o->o.cls=.type "StopIteration"->e≠z:=λh1 h2 h3 x=>by subst x;rw[h1] at h2;cases h2;simp at h3
 cases hx:xs[k1]? with
 | none =>
  exact lR (CJ hh (t1.move b1.extBut D.i1z) (m1.move b1.extBut D.l1z) hx λg2 e b2 he=>?_)
  let(oe,e1,e2):=he
  let z2:nI g2 z TI TO .ellipsis:=b2 _ _ D.i1z.symm z1
  exact dq z2 ∅ λg3 _ b3=>K g3 e (λc o c1 _ c3 _ x=>b3.extBut _ _ c1 (b2 _ _ c3 (b1.extBut _ _ c1 x))) ⟨oe,b3.extBut _ _ (fin z2 e1 e2) e1,e2⟩
 | some x =>
  let hy:ys[k2]?=Φ:=by rcases en with h|h;rw[hx] at h;cases h;exact h
  exact lR (Ay (t1.move b1.extBut D.i1z) (m1.move b1.extBut D.l1z) hx λg2 t12 b2=>lP ?_)
  let o2:nu g2 TO a b:=b2.extBut _ _ D.TOi1 (b1.extBut _ _ D.TOz zo)
  exact lR (i6 o2 rfl (lR (cB o2 λg3 o3 b3=>lR (lu (lP (lR (lR (jG ?_))))))))
  show wpAny _ _ (aY (.ref i2) >>= _) _ _ _
  exact lR (CJ hh (((t2.move b1.extBut D.i2z).move b2.extBut D.i12.symm).move b3.extBut D.TOi2.symm) (((m2.move b1.extBut D.l2z).move b2.extBut D.l2i1).move b3.extBut D.l2TO) hy λg4 e b4 he=>?_)
  let(oe,e1,e2):=he
  let z4:nI g4 z TI TO .ellipsis:=b4 _ _ D.i2z.symm (b3.extBut _ _ D.TOz.symm (b2.extBut _ _ D.i1z.symm z1))
  exact dq z4 ∅ λg5 _ b5=>K g5 e (λc o c1 c2 c3 c4 x=>b5.extBut _ _ c1 (b4 _ _ c4 (b3.extBut _ _ c2 (b2.extBut _ _ c3 (b1.extBut _ _ c1 x))))) ⟨oe,b5.extBut _ _ (fin z4 e1 e2) e1,e2⟩
def Br {Q:Option nE->nh->Prop}(D:mL z TI TO i1 i2 l1 l2)(zz:nI s.heap z TI TO .none)(zi:nu s.heap TI (.ref i1) (.ref i2))(zo:nu s.heap TO a b)
  (t1:IterB p s.heap i1 l1 k1)(t2:IterB q s.heap i2 l2 k2)(m1:SeqB p s.heap l1 xs)(m2:SeqB q s.heap l2 ys)(ex:xs[k1]?=Ψ x)(ey:ys[k2]?=Ψ y)
  (K:∀ h',nI h' z TI TO (rawInt s.heap.objs.size)->nu h' TO x y->IterB p h' i1 l1 (k1+1)->IterB q h' i2 l2 (k2+1)->nu h' s.heap.objs.size x y ->
   (∀ c o,c≠z->c≠TO->c≠i1->c≠i2->s.heap.get? c=Ψ o->h'.get? c=Ψ o)->Q (Ψ (.ref s.heap.objs.size)) { s with heap:=h' }):wpAny (model P w) A (pyNext (.ref z)) Q E s:=by
 let ty:s.TypeIs (.ref z) "zip":=⟨_,zz,rfl⟩
 unfold pyNext
 exact lR (jK (bv (name:=kL "__next__") ty iT (fV iT ty gO (Bs D zz zi zo t1 t2 m1 m2 ex ey λh' a1 a2 a3 a4 a5 a6=>lP (K h' a1 a2 a3 a4 a5 a6)) (fL _))))
def Bq {Q:Option nE->nh->Prop}(hh:A.handled=Φ)(D:mL z TI TO i1 i2 l1 l2)(zz:nI s.heap z TI TO .none)(zi:nu s.heap TI (.ref i1) (.ref i2))(zo:nu s.heap TO a b)
  (t1:IterB p s.heap i1 l1 k1)(t2:IterB q s.heap i2 l2 k2)(m1:SeqB p s.heap l1 xs)(m2:SeqB q s.heap l2 ys)(en:xs[k1]?=Φ ∨ ys[k2]?=Φ)
  (K:∀ h',(∀ c o,c≠z->c≠TO->c≠i1->c≠i2->s.heap.get? c=Ψ o->h'.get? c=Ψ o)->Q Φ { s with heap:=h' }):wpAny (model P w) A (pyNext (.ref z)) Q E s:=by
 let ty:s.TypeIs (.ref z) "zip":=⟨_,zz,rfl⟩
 unfold pyNext
 exact lR (jK (bv (name:=kL "__next__") ty iT (fV iT ty gO (Cs hh D zz zi zo t1 t2 m1 m2 en λh' e hk he=>?_) (fL _))))
 let(o,e1,e2):=he
 exact lR (fR (T:="StopIteration") (b:=Ω) ⟨o,e1,e2⟩ jd (lP (K _ hk)))
end
noncomputable abbrev EA (p:Bool)(h:nM)(l1:nP):nM:=h.push { cls:=.type (uy p),data:=.fields #[.ref l1,.int 0 0] }
noncomputable abbrev M7 (p q:Bool)(h:nM)(l1 l2:nP):nM:=(EA p h l1).push { cls:=.type (uy q),data:=.fields #[.ref l2,.int 0 0] }
noncomputable abbrev M6 (p q:Bool)(h:nM)(l1 l2:nP):nM:=(M7 p q h l1 l2).push { cls:=.type "tuple",data:=.seq #[.ref h.objs.size,.ref (EA p h l1).objs.size] }
noncomputable abbrev M5 (p q:Bool)(h:nM)(l1 l2:nP):nM:=(M6 p q h l1 l2).push { cls:=.type "tuple",data:=.seq #[.none,.none] }
noncomputable abbrev Kk (p q:Bool)(h:nM)(l1 l2:nP):nM:=(M5 p q h l1 l2).push { cls:=.type "zip",data:=.fields #[.none,.bool Ξ,.bool Ξ,.ref (M7 p q h l1 l2).objs.size,.ref (M6 p q h l1 l2).objs.size] }
def zF (p q:Bool)(l1 l2:nP)(xs ys:Array nE) :
  Meets (m7.«zip.__new__» ⟨[.type "zip",.ref l1,.ref l2],[]⟩) (λ_ R s=>SeqB p s.heap l1 xs/\SeqB q s.heap l2 ys/\R (.ok (.ret (.ref (M5 p q s.heap l1 l2).objs.size))) { s with heap:=Kk p q s.heap l1 l2 }) :=
 .of_wp λprog w A R s h=>by
  let(hp,g,d,tk,os):=s;let(m1,m2,h):=h
  let hsub:=sub_zip
  let M1:SeqB p (lG ⟨hp,g,d,tk,os⟩) l1 xs:=m1
  let M2:SeqB q (lG ⟨hp.push { cls:=.type (uy p),data:=.fields #[.ref l1,.int 0 0] },g,d,tk,os⟩) l2 ys:=SeqB.push m2
  wp_walk using AR M1,AR M2
  exact⟨_,rfl,h⟩
section
variable {P:mX}{w:nC}{A:nB}{E:nE->nh->Prop}{s:nh}
def Cg {p q:Bool}{l1 l2:nP}{xs ys:Array nE}{Q:nE->nh->Prop}(m1:SeqB p s.heap l1 xs)(m2:SeqB q s.heap l2 ys)
  (K:∀ h',nI h' (s.heap.objs.size+4) (s.heap.objs.size+2) (s.heap.objs.size+3) .none->nu h' (s.heap.objs.size+2) (.ref s.heap.objs.size) (.ref (s.heap.objs.size+1)) ->
   nu h' (s.heap.objs.size+3) .none .none->IterB p h' s.heap.objs.size l1 0->IterB q h' (s.heap.objs.size+1) l2 0->(∀ c o,s.heap.get? c=Ψ o->h'.get? c=Ψ o)->Q (.ref (s.heap.objs.size+4)) { s with heap:=h' }) :
  wpAny (model P w) A (call (.type "zip") [.ref l1,.ref l2]) Q E s:=by
 exact callType_new F.called_zip (·) (F.typeCall_zip_2 _ _) (F.newCall_zip_2 _ _) (λobj=>F.args_object_init_3 obj _ _) F.entry_zip_new (zF p q l1 l2 xs ys) ⟨m1,m2,?_⟩
 let z1:(EA p s.heap l1).objs.size=s.heap.objs.size+1:=jA ..
 let z2:(M7 p q s.heap l1 l2).objs.size=s.heap.objs.size+2:=by rw[jA,z1]
 let z3:(M6 p q s.heap l1 l2).objs.size=s.heap.objs.size+3:=by rw[jA,z2]
 let z4:(M5 p q s.heap l1 l2).objs.size=s.heap.objs.size+4:=by rw[jA,z3]
 let f5:(Kk p q s.heap l1 l2).get? (M5 p q s.heap l1 l2).objs.size=Ψ _:=dc _ rfl
 let f4:(Kk p q s.heap l1 l2).get? (M6 p q s.heap l1 l2).objs.size=Ψ _:=bS _ (dc _ rfl)
 let f3:(Kk p q s.heap l1 l2).get? (M7 p q s.heap l1 l2).objs.size=Ψ _:=bS _ (bS _ (dc _ rfl))
 let f2:(Kk p q s.heap l1 l2).get? (EA p s.heap l1).objs.size=Ψ _:=bS _ (bS _ (bS _ (dc _ rfl)))
 let f1:(Kk p q s.heap l1 l2).get? s.heap.objs.size=Ψ _:=bS _ (bS _ (bS _ (bS _ (dc _ rfl))))
 show _/\_
 rw[z2,z3,z4] at f5;rw[z1,z2] at f3;rw[z3] at f4;rw[z1] at f2;rw[z4]
 exact⟨⟨_,f5,rfl⟩,K _ f5 f3 f4 ?_ ?_ λc o x=>bS _ (bS _ (bS _ (bS _ (bS _ x))))⟩
 ·cases p<;>exact⟨_,f1,rfl,rfl⟩
 ·cases q<;>exact⟨_,f2,rfl,rfl⟩
end
end L2
namespace L2
open PySem PySem.Spec PyProof.Rows
open AutoSeq1 (wpAny_loadPart')
section
variable {P:mX}{w:nC}{A:nB}{E:nE->nh->Prop}{s:nh}{p:Bool}{e it l:nP}{i:Nat}{xs:Array nE}{x old:nE}
def zR {Q:nE->nh->Prop}(ee:nv s.heap e it i old)(t1:IterB p s.heap it l i)(m1:SeqB p s.heap l xs)(ex:xs[i]?=Ψ x)(ne:e≠it)
  (K:∀ h',mE h' e it ((i:Int)+1) x s.heap.objs.size->IterB p h' it l (i+1)->h'.get? s.heap.objs.size=Ψ { cls:=.type "tuple",data:=.seq #[.int i s.toks,x] } ->
   (∀ b o,b≠e->b≠it->s.heap.get? b=Ψ o->h'.get? b=Ψ o)->Q (.ref s.heap.objs.size) { s with heap:=h',toks:=s.toks+1 }) :
  wpAny (model P w) A (m7.«enumerate.__next__» ⟨[.ref e],[]⟩) (λfin s'=>∃ v,fin=.done (.ret v)/\Q v s') E s:=by
 let(hp,g,d,tk,os):=s
 show wpAny _ _ (field (.ref e) 2 >>= _) _ _ _;exact lR (lw ee rfl (x:=.ref it) rfl (lR (Ay t1 m1 ex λg1 t11 b1=>?_)))
 replace b1:lh it hp g1:=b1
 let e1:nv g1 e it i old:=(b1.2 e ne).trans ee
 show wpAny _ _ (field (.ref e) 3 >>= _) _ _ ⟨g1,g,d,tk,os⟩;exact lR (lw e1 rfl (x:=rawInt i) rfl ?_)
 show wpAny _ _ (field (.ref e) 4 >>= _) _ _ ⟨g1,g,d,tk,os⟩;exact lR (lw e1 rfl (x:=.none) rfl ?_)
 show wpAny _ _ (mkInt i >>= _) _ _ ⟨g1,g,d,tk,os⟩;exact lR (wpAny_mkInt ?_)
 show wpAny _ _ (setField (.ref e) 3 (rawInt ((i:Int)+1)) >>= _) _ _ ⟨g1,g,d,tk+1,os⟩;exact lR (dq e1 ∅ λg2 e2 b2=>?_)
 replace b2:lh e g1 g2:=b2
 replace e2:nv g2 e it ((i:Int)+1) old:=e2
 show wpAny _ _ (setField (.ref e) 4 .none >>= _) _ _ ⟨g2,g,d,tk+1,os⟩;exact lR (dq e2 ∅ λg3 e3 b3=>?_)
 replace b3:lh e g2 g3:=b3
 replace e3:nv g3 e it ((i:Int)+1) old:=e3
 show wpAny _ _ (newTuple [.int i tk,x] >>= _) _ _ ⟨g3,g,d,tk+1,os⟩;exact lR (i7 ?_)
 let e4:nv (g3.push { cls:=.type "tuple",data:=.seq #[.int i tk,x] }) e it ((i:Int)+1) old:=bS _ e3
 generalize hg4:g3.push { cls:=.type "tuple",data:=.seq #[.int i tk,x] } = g4 at e4
 let sz:g3.objs.size=hp.objs.size:=by rw[b3.1,b2.1,b1.1]
 let el:e<hp.objs.size:=lg ee
 let t4:g4.get? hp.objs.size=Ψ { cls:=.type "tuple",data:=.seq #[.int i tk,x] }:=by rw[<- hg4,<- sz];exact dc _ rfl
 let k4:∀ b o,b≠e->b≠it->hp.get? b=Ψ o->g4.get? b=Ψ o:=λb o c1 c2 h=>by rw[<- hg4];exact bS _ (b3.extBut b o c1 (b2.extBut b o c1 (b1.extBut b o c2 h)))
 let i4:IterB p g4 it l (i+1):=by
  rw[<- hg4];exact ((t11.move b2.extBut (mZ ne)).move b3.extBut (mZ ne)).to λo h=>bS _ h
 show wpAny _ _ (ae (.ref e) >>= _) _ _ ⟨g4,g,d,tk+1,os⟩
 rw[sz]
 clear hg4 e3 b3 e2 b2 e1 b1 t11 sz g3 g2 g1
 exact lR ?_;unfold ae
 exact lR (lw e4 rfl (x:=.none) rfl (lP ?_));simp![if_true]
 exact lR (lO (lR (lw e4 rfl (x:=old) rfl (lR (dq e4 ∅ λg5 e5 b5=>?_)))))
 replace b5:lh e g4 g5:=b5
 replace e5:nv g5 e it ((i:Int)+1) x:=e5
 show wpAny _ _ (ac (.ref e) (.ref hp.objs.size) >>= _) _ _ ⟨g5,g,d,tk+1,os⟩;exact lR ?_;unfold ac
 exact lR (dq e5 ∅ λg6 e6 b6=>?_)
 replace b6:lh e g5 g6:=b6
 replace e6:mE g6 e it ((i:Int)+1) x hp.objs.size:=e6
 exact dq e6 ∅ λg7 e7 b7=>?_
 replace b7:lh e g6 g7:=b7
 replace e7:mE g7 e it ((i:Int)+1) x hp.objs.size:=e7
 exact lR (lu (lP ⟨_,rfl,K g7 e7 (((i4.move b5.extBut (mZ ne)).move b6.extBut (mZ ne)).move b7.extBut (mZ ne)) ?_ λb o c1 c2 h=>b7.extBut b o c1 (b6.extBut b o c1 (b5.extBut b o c1 (k4 b o c1 c2 h)))⟩))
 exact b7.extBut _ _ (kW el) (b6.extBut _ _ (kW el) (b5.extBut _ _ (kW el) t4))
def zQ {Q:Option nE->nh->Prop}(ee:nv s.heap e it i old)(t1:IterB p s.heap it l i)(m1:SeqB p s.heap l xs)(ex:xs[i]?=Ψ x)(ne:e≠it)
  (K:∀ h',mE h' e it ((i:Int)+1) x s.heap.objs.size->IterB p h' it l (i+1)->h'.get? s.heap.objs.size=Ψ { cls:=.type "tuple",data:=.seq #[.int i s.toks,x] } ->
   (∀ b o,b≠e->b≠it->s.heap.get? b=Ψ o->h'.get? b=Ψ o)->Q (Ψ (.ref s.heap.objs.size)) { s with heap:=h',toks:=s.toks+1 }):wpAny (model P w) A (pyNext (.ref e)) Q E s:=by
 let ty:s.TypeIs (.ref e) "enumerate":=⟨_,ee,rfl⟩
 unfold pyNext
 exact lR (jK (bv (name:=kL "__next__") ty cx (fV cx ty bT (zR ee t1 m1 ex ne λh' a b c d=>lP (K h' a b c d)) (bC _))))
def zP {Q:Option nE->nh->Prop}(hh:A.handled=Φ)(ee:nv s.heap e it i old)(t1:IterB p s.heap it l i)(m1:SeqB p s.heap l xs)(ex:xs[i]?=Φ)(K:∀ h',lM it s.heap h'->Q Φ { s with heap:=h' }):wpAny (model P w) A (pyNext (.ref e)) Q E s:=by
 let ty:s.TypeIs (.ref e) "enumerate":=⟨_,ee,rfl⟩
 unfold pyNext
 exact lR (jK (bv (name:=kL "__next__") ty cx (fV cx ty bT ?_ (bC _))))
 show wpAny _ _ (field (.ref e) 2 >>= _) _ _ _;exact lR (lw ee rfl (x:=.ref it) rfl (lR (CJ hh t1 m1 ex λh' v k hv=>?_)))
 let(o,e1,e2):=hv
 exact lR (fR (T:="StopIteration") (b:=Ω) ⟨o,e1,e2⟩ jd (lP (K _ k)))
end
def EB {P:mX}{w:nC}{A:nB}{E:nE->nh->Prop}{s:nh}{Q:Bool->nh->Prop}(h:∀ c,Q c s)(c:Bool):wpAny (model P w) A (pure c) Q E s:=lP (h c)
def yo (p:Bool)(l:nP)(xs:Array nE) :
  Meets (m7.«enumerate.__new__» ⟨[.type "enumerate",.ref l],[]⟩) (λ_ R s=>SeqB p s.heap l xs /\
   R (.ok (.ret (.ref (EA p s.heap l).objs.size))) { s with heap:=(EA p s.heap l).push { cls:=.type "enumerate",data:=.fields #[.none,.bool Ξ,.ref s.heap.objs.size,rawInt 0,.none,.none] } }) :=
 .of_wp λprog w A R s h=>by
  let(hp,g,d,tk,os):=s;let(m1,h):=h
  let hsub:=sub_enumerate
  let M1:SeqB p (lG ⟨hp,g,d,tk,os⟩) l xs:=m1
  let hob:∃ o,hp.get? l=Ψ o:=by cases p<;>(let(o,e,_):=m1;exact⟨o,e⟩)
  let(ob,hl):=hob
  wp_walk using gY hl
  exact wpAny_stack_any λst=>EB (λc=>?_) _
  cases c
  ·wp_walk using gY hl,AR M1
   exact⟨_,rfl,h⟩
  ·wp_walk using gY hl,AR M1
   exact⟨_,rfl,h⟩
section
variable {P:mX}{w:nC}{A:nB}{E:nE->nh->Prop}{s:nh}
def Aa {p:Bool}{l:nP}{xs:Array nE}{Q:nE->nh->Prop}(m1:SeqB p s.heap l xs)
  (K:∀ h',nv h' (s.heap.objs.size+1) s.heap.objs.size 0 .none->IterB p h' s.heap.objs.size l 0->(∀ b o,s.heap.get? b=Ψ o->h'.get? b=Ψ o)->Q (.ref (s.heap.objs.size+1)) { s with heap:=h' }) :
  wpAny (model P w) A (call (.type "enumerate") [.ref l]) Q E s:=by
 exact callType_new F.called_enumerate (·) (F.typeCall_enumerate_1 _) (F.newCall_enumerate_1 _) (λobj=>F.args_object_init_2 obj _) F.entry_enumerate_new (yo p l xs) ⟨m1,?_⟩
 let z1:(EA p s.heap l).objs.size=s.heap.objs.size+1:=jA ..
 show _/\_
 rw[z1]
 let f2:nv ((EA p s.heap l).push { cls:=.type "enumerate",data:=.fields #[.none,.bool Ξ,.ref s.heap.objs.size,rawInt 0,.none,.none] }) (s.heap.objs.size+1) s.heap.objs.size 0 .none:=by
  have:=dc (EA p s.heap l) (o:={ cls:=.type "enumerate",data:=.fields #[.none,.bool Ξ,.ref s.heap.objs.size,rawInt 0,.none,.none] }) rfl
  rw[z1] at this;exact this
 exact⟨⟨_,f2,rfl⟩,K _ f2 ?_ λb o x=>bS _ (bS _ x)⟩
 cases p<;>exact⟨_,bS _ (dc _ rfl),rfl,rfl⟩
end
abbrev vD (b:Bool)(K:kP)(H:Hp)(a:nP)(xs:List V):Prop:=match b with|true=>SqL K H a xs|false=>SqT K H a xs
section
variable {X:Cx}{Z9:List (nP×Obj)}{σ:St}{H:Hp}{s:nh}{a:nP}{xs ys:List V}{b:Bool}
def Inv.seqB (I:Inv X Z9 σ H s)(h:vD b X.K H a xs):∃ Z7:List nE,Vals xs Z7/\SeqB b s.heap a Z7.toArray/\xs.length=Z7.length:=by
 cases b
 ·let(Z7,r,q,_):=I.tuple h
  exact⟨Z7,r,q,r.length⟩
 ·let(Z7,r,q,_):=I.list h
  exact⟨Z7,r,q.isList,r.length⟩
def Inv.seqB_inj (I:Inv X Z9 σ H s)(h:vD b X.K H a xs)(h':vD b X.K H a ys):xs=ys:=by
 cases b
 ·exact I.tuple_inj h h'
 ·exact I.list_inj h h'
end
abbrev Oy (K:kP) (p q:Bool) (a b:nP):It :=
  ⟨λi H=>∃ xs ys x y,vD p K H a xs/\vD q K H b ys/\xs[i]?=Ψ x/\ys[i]?=Ψ y,
   λi H v H'=>∃ c,H c=Φ/\v=.ref c/\∀ xs ys x y,vD p K H a xs->vD q K H b ys->xs[i]?=Ψ x->ys[i]?=Ψ y->H'=oT H c (.tup [x,y]),
   λi H=>∃ xs ys,vD p K H a xs/\vD q K H b ys/\(xs.length<=i ∨ ys.length<=i)⟩
abbrev OA (K:kP) (p:Bool) (a:nP):It :=
  ⟨λi H=>∃ xs x,vD p K H a xs/\xs[i]?=Ψ x,
   λi H v H'=>∃ c,H c=Φ/\v=.ref c/\∀ xs x,vD p K H a xs->xs[i]?=Ψ x->H'=oT H c (.tup [.int i,x]),
   λi H=>∃ xs,vD p K H a xs/\xs.length<=i⟩
def ED {P:mX}{w:nC}{K:kP}{p q:Bool}{elts:List Expr}{k:Nat}{pos:Pos}{a b z TI TO i1 i2:nP}(D:mL z TI TO i1 i2 a b) :
  Turn P w K (.Tuple elts k pos) (Oy K p q a b) [z,TO,i1,i2,TI] z (λi h=>nI h z TI TO .none/\nu h TI (.ref i1) (.ref i2)/\(∃ c d,nu h TO c d)/\IterB p h i1 a i/\IterB q h i2 b i) where
 mem:=∅
 obj:=λi h st c hc=>by
  let(zz,zi,(x,y,zo),t1,t2):=st
  simp![kj,gu,or_false] at hc
  rcases hc with rfl|rfl|rfl|rfl|rfl
  ·exact⟨_,zz,λv z=>by cases z⟩
  ·exact⟨_,zo,λv z=>by cases z⟩
  ·exact t1.obj
  ·exact t2.obj
  ·exact⟨_,zi,λv z=>by cases z⟩
 keep:=λi h h' st kk=>by
  let(zz,zi,(x,y,zo),t1,t2):=st
  exact⟨kk z ∅ _ zz,kk TI ∅ _ zi,⟨x,y,kk TO ∅ _ zo⟩,t1.to λo e=>kk i1 ∅ o e,t2.to λo e=>kk i2 ∅ o e⟩
 item:=by
  intro X hP hw hK hc i Z9 s σ H E I hf st hg
  subst hP hw hK
  let(xs,ys,x,y,q1,q2,hx,hy):=hg
  let(zz,zi,(u0,v0,zo),t1,t2):=st
  let(Z7,rv,m1,_):=I.seqB q1
  let(jts,rw',m2,_):=I.seqB q2
  let(u,hu,ru):=rv.get hx
  let(u',hu',ru'):=rw'.get hy
  exact Br D zz zi zo t1 t2 m1 m2 (x:=u) (y:=u') (by simpa using hu) (by simpa using hu') λh' a1 a2 a3 a4 a5 hk=>?_
  exact⟨_,rfl,wpAny_letOwnedTupleGo_zip a1 λh'' z'' hs''=>?_⟩
  let szn:z≠s.heap.objs.size:=kU (lg zz)
  let T'':nu h'' s.heap.objs.size u u':=hs''.extBut _ _ (mZ szn) a5
  let I1:Inv X Z9 σ (oT H s.heap.objs.size (.tup [x,y])) { s with heap:=h'' }:=I.turnedNew (t':=s.toks) (ch:=[z,TO,i1,i2]) (lJ _)
   (λc ob hc e=>by simp![kj,gu,or_false,not_or] at hc;exact hs''.extBut _ _ hc.1 (hk c ob hc.1 hc.2.1 hc.2.2.1 hc.2.2.2 e))
   (λc hc=>hf c (by simp![kj,gu,or_false] at hc ⊢;rcases hc with z|z|z|z<;>simp[z])) ⟨by show 2<=sizeLine;decide,[u,u'],.cons ru (.cons ru' .nil),⟨_,T'',rfl,_,rfl⟩⟩
  exact⟨.ref s.heap.objs.size,_,I1,rfl,⟨_,I.fresh,rfl,λxs' ys' x' y' r1 r2 hx' hy'=>?_⟩,⟨z'',hs''.extBut _ _ D.TIz (hk _ _ D.TIz D.TITO D.TIi1 D.TIi2 zi),⟨_,_,hs''.extBut _ _ D.TOz a2⟩,a3.move hs''.extBut D.i1z,a4.move hs''.extBut D.i2z⟩,λc hc=>?_⟩
  ·let e1:=I.seqB_inj r1 q1
   let e2:=I.seqB_inj r2 q2
   subst e1 e2
   rw[hx] at hx';rw[hy] at hy';cases hx';cases hy';rfl
  ·have:c≠s.heap.objs.size:=by
    let hlt:c<s.heap.objs.size:=by
     simp![kj,gu,or_false] at hc
     rcases hc with rfl|rfl|rfl|rfl|rfl
     ·exact lg zz
     ·exact lg zo
     ·exact t1.lt
     ·exact t2.lt
     ·exact lg zi
    exact kU hlt
   rw[nZ this];exact (hf c hc).1
 done:=by
  intro X hP hw hK hc i Z9 s σ H E I hf st hg
  subst hP hw hK
  let(xs,ys,q1,q2,hx):=hg
  let(zz,zi,(u0,v0,zo),t1,t2):=st
  let(Z7,rv,m1,l1):=I.seqB q1
  let(jts,rw',m2,l2):=I.seqB q2
  exact Bq (I.ok.hd hc) D zz zi zo t1 t2 m1 m2 (hx.elim (λz=>.inl (by simp;lia)) λz=>.inr (by simp;lia)) λh' hk=>⟨rfl,?_⟩
  exact I.turnedL (t':=s.toks) (ch:=[z,TO,i1,i2]) (λc ob hc e=>by simp![kj,gu,or_false,not_or] at hc;exact hk c ob hc.1 hc.2.1 hc.2.2.1 hc.2.2.2 e)
   (λc hc=>hf c (by simp![kj,gu,or_false] at hc ⊢;rcases hc with z|z|z|z<;>simp[z]))
 self:=λ_ _ _ _ _ st h=>fQ st.1 h
def EE {P:mX}{w:nC}{K:kP}{p:Bool}{elts:List Expr}{k:Nat}{pos:Pos}{a e it:nP}(ne:e≠it) :
  Turn P w K (.Tuple elts k pos) (OA K p a) [e,it] e (λi h=>(∃ old,nv h e it i old)/\IterB p h it a i) where
 mem:=∅
 obj:=λi h st c hc=>by
  let((old,ee),t1):=st
  simp![kj,gu,or_false] at hc
  rcases hc with rfl|rfl
  ·exact⟨_,ee,λv z=>by cases z⟩
  ·exact t1.obj
 keep:=λi h h' st kk=>by
  let((old,ee),t1):=st
  exact⟨⟨old,kk e ∅ _ ee⟩,t1.to λo q=>kk it ∅ o q⟩
 item:=by
  intro X hP hw hK hc i Z9 s σ H E I hf st hg
  subst hP hw hK
  let(xs,x,q1,hx):=hg
  let((old,ee),t1):=st
  let(Z7,rv,m1,_):=I.seqB q1
  let(u,hu,ru):=rv.get hx
  exact zQ ee t1 m1 (x:=u) (by simpa using hu) ne λh' a1 a2 a3 hk=>?_
  exact⟨_,rfl,wpAny_letOwnedTupleGo_enum a1 λh'' z'' hs''=>?_⟩
  let szn:e≠s.heap.objs.size:=kU (lg ee)
  let T'':=hs''.extBut _ _ (mZ szn) a3
  let I1:Inv X Z9 σ (oT H s.heap.objs.size (.tup [.int i,x])) { s with heap:=h'',toks:=s.toks+1 }:=I.turnedNew (t':=s.toks+1) (ch:=[e,it]) (lJ _)
   (λc ob hc q=>by simp![kj,gu,or_false,not_or] at hc;exact hs''.extBut _ _ hc.1 (hk c ob hc.1 hc.2 q))
   (λc hc=>hf c hc) ⟨by show 2<=sizeLine;decide,[.int i s.toks,u],.cons ⟨_,rfl⟩ (.cons ru .nil),⟨_,T'',rfl,_,rfl⟩⟩
  exact⟨.ref s.heap.objs.size,_,I1,rfl,⟨_,I.fresh,rfl,λxs' x' r1 hx'=>?_⟩,⟨⟨_,z''⟩,a2.move hs''.extBut (mZ ne)⟩,λc hc=>?_⟩
  ·let e1:=I.seqB_inj r1 q1
   subst e1
   rw[hx] at hx';cases hx';rfl
  ·have:c≠s.heap.objs.size:=by
    let hlt:c<s.heap.objs.size:=by
     simp![kj,gu,or_false] at hc
     rcases hc with rfl|rfl
     ·exact lg ee
     ·exact t1.lt
    exact kU hlt
   rw[nZ this];exact (hf c hc).1
 done:=by
  intro X hP hw hK hc i Z9 s σ H E I hf st hg
  subst hP hw hK
  let(xs,q1,hx):=hg
  let((old,ee),t1):=st
  let(Z7,rv,m1,l1):=I.seqB q1
  exact zP (I.ok.hd hc) ee t1 m1 (by simp;lia) λh' hk=>⟨rfl,?_⟩
  exact I.turnedL (t':=s.toks) (ch:=[it]) (λc ob hc q=>hk c ob (by simpa using hc) q) (λc hc=>hf c (by simp at hc;simp[hc]))
 self:=λ_ _ _ _ _ st h=>eK st.1.choose_spec h
section
variable {X:Cx}
abbrev iZ2 (K:kP)(ta:TA):TI:=λσ H R=>ta σ H λvs H1=>∃ p q a b,vs=[.ref a,.ref b]/\(∃ xs,vD p K H1 a xs)/\(∃ ys,vD q K H1 b ys)/\R (Oy K p q a b) H1
def Lv {elts:List Expr}{k:Nat}{tp:Pos}{e1 e2:Expr}{ta:TA}{p pos:Pos}(hg:Gl X "zip")(hm:X.mg "zip" = Φ)(ha:PA X [e1,e2] ta)
  (hs:starEach [e1,e2] X.env=[(Ξ,eval e1 X.env),(Ξ,eval e2 X.env)])(hs2:starEach [e2] X.env=[(Ξ,eval e2 X.env)]):PI X (.Tuple elts k tp) (.Call (.Name "zip" p) [e1,e2] [] pos) (iZ2 X.K ta):=by
 intro Z9 s σ H R I h
 exact dv (sS I hg hm PyProof.Rows.boot_zip ?_ (·) (·))
 exact aw (oX (ha pos Z9 s σ H _ I h) λus s1 ⟨vs,H1,I1,r1,q1⟩=>?_) (by rw[hs,hs2]) (by rw[hs2];rfl)
 let(p,q,a,b,e,(xs,hq1),(ys,hq2),kk):=q1
 subst e
 let(u1,u2,rfl,ra,rb):=vals2 r1
 cases ra;cases rb
 let(Z7,rv,m1,_):=I1.seqB hq1
 let(jts,rw',m2,_):=I1.seqB hq2
 exact Cg m1 m2 λh' zz zi zo t1 t2 hk=>fQ (f0:=.none) zz ?_
 let I2:Inv X Z9 σ H1 { s1 with heap:=h' }:=I1.kept (t':=s1.toks) λc o e=>hk c o e
 exact⟨_,_,_,Oy X.K p q a b,H1,rfl,I2,ED (zipApart_new m1.lt m2.lt),⟨zz,zi,⟨_,_,zo⟩,t1,t2⟩,λc hc=>?_,kk⟩
 let hge:s1.heap.objs.size<=c:=by
  simp![kj,gu,or_false] at hc
  rcases hc with rfl|rfl|rfl|rfl|rfl<;>first|exact lJ _|exact gn _ _
 exact I1.fpOk hge (I1.hok.fresh hge)
abbrev iEn (K:kP)(ta:TA):TI:=λσ H R=>ta σ H λvs H1=>∃ p a,vs=[.ref a]/\(∃ xs,vD p K H1 a xs)/\R (OA K p a) H1
def GD {elts:List Expr}{k:Nat}{tp:Pos}{e1:Expr}{ta:TA}{p pos:Pos}(hg:Gl X "enumerate")(hm:X.mg "enumerate" = Φ)(ha:PA X [e1] ta)(hs:starEach [e1] X.env=[(Ξ,eval e1 X.env)]) :
  PI X (.Tuple elts k tp) (.Call (.Name "enumerate" p) [e1] [] pos) (iEn X.K ta):=by
 intro Z9 s σ H R I h
 exact dv (sS I hg hm PyProof.Rows.boot_enumerate ?_ (·) (·))
 exact aw (oX (ha pos Z9 s σ H _ I h) λus s1 ⟨vs,H1,I1,r1,q1⟩=>?_) (by rw[hs];rfl) rfl
 let(p,a,e,(xs,hq1),kk):=q1
 subst e
 let(u1,rfl,ra):=vals1 r1
 cases ra
 let(Z7,rv,m1,_):=I1.seqB hq1
 exact Aa m1 λh' ee t1 hk=>eK ee ?_
 let I2:Inv X Z9 σ H1 { s1 with heap:=h' }:=I1.kept (t':=s1.toks) λc o e=>hk c o e
 exact⟨_,_,_,OA X.K p a,H1,rfl,I2,EE (kW (gk _)),⟨⟨_,ee⟩,t1⟩,λc hc=>?_,kk⟩
 let hge:s1.heap.objs.size<=c:=by
  simp![kj,gu,or_false] at hc
  rcases hc with rfl|rfl<;>first|exact lJ _|exact gn _ _
 exact I1.fpOk hge (I1.hok.fresh hge)
end
end L2
namespace L2
open PySem PySem.Spec PyProof.Rows
abbrev xv (kx vx:Expr):nE->Env->nO->Sem Fin
 | .ref D,env,c=>do
  (do let kv <- eval kx env;let vv <- holding [kv] (eval vx env);standAt { kx.pos with endLine:=vx.pos.endLine,endCol:=vx.pos.endCol };holding [kv,vv] (dictSet D kv vv))
  again c
 | _,_,c=>again c
abbrev N8 (tk tv:TE):nP->St->Hp->(Hp->Prop)->Prop:=λZ8 σ H K=>tk σ H λy H4=>tv σ H4 λv H5=>∃ Z6 k b,H5 Z8=Ψ (.dT Z6)/\y=.ref b/\H5 b=Ψ (.tup (k.map kV))/\Z6.length<sizeLine/\K (oT H5 Z8 (.dT (qm Z6 k v)))
abbrev zf (wi:TI)(g:TG)(tt:TT)(tk tv:TE) (own:Nat):TE:=uJ wi g tt (N8 tk tv) (λ_=>.dT []) own
section
variable {X:Cx}{kx vx tg Z5:Expr}{Z4:List Expr}{scope:nF}{own:List Str}{pos:Pos}{wi:TI}{g:TG}{tt:TT}{tk tv:TE}
def Bj:CKind X (.DictComp kx vx [⟨tg,Z5,Z4,0⟩] scope pos) tg Z5 Z4 scope newDict { cls:=.type "dict",data:=.dict #[] } (λ_=>.dT []) (xv kx vx) :=
 ⟨λ_ _ _=>rfl,λ_ _ _ _=>rfl,λ_ _ _=>rfl,λ_ _=>rfl,codeAny_compStart_dict,λq=>eM q,λ{_ _ _ s} I=>I.laid (a:=s.heap.objs.size) (o:=.dT []) (t':=s.toks) (λ_ _ q=>bS _ q) (lJ _) (DZ s.heap I.big),λ_=>by rw[arm_eval_DictComp];rfl,rfl⟩
def ye {Y:Cx}(hu:Y.A.units+1<cLine)(hk:PE Y kx tk)(hv:PE Y vx tv):KG Y (xv kx vx) (N8 tk tv):=by
 intro Z9 s σ H Z8 c K I q
 unfold xv
 exact lR (lR (oX (hk _ s σ H _ I q) λky s11 ⟨v11,H11,I11,r11,q11⟩=>lR (jI (oX (hv _ s11 σ H11 _ I11 q11) λy s12 ⟨v12,H12,I12,r12,Z6,k,b,hys,hyb,hkb,hz,kk⟩=>lR (jF (jI ?_))))))
 subst hyb
 cases (show ky=Value.ref b from r11)
 let(z,hd,xs,rel,dd):=GR I12.hok hys
 let hz':xs.length<=sizeLine:=by rw[<- j7 rel];exact z
 let hl:(qm Z6 k v12).length<=sizeLine:=by have:=qw Z6 k v12;lia
 let ko:=sT I12.hok hkb
 exact du (knd:=tupleKind (oI Y.prog Y.w)) (hsz:=hz') (show Y.A.units<cLine by lia) ko dd λh' dd' hs=>?_
 let(q,es,ep,hq,h2',h3',h4',h5',h6'):=dd'
 exact lP ⟨rfl,_,?_,kk⟩
 exact xA I12 (by rw[hys];exact True.intro) hs ⟨q,hq⟩ ⟨hl,hd,_,(rel.put k hkb r12).keeps λc ys ec=>?_,q,es,ep,hq,h2',h3',h4',h6'⟩
 rw[nZ (GL ec hys (λz=>nomatch z))]
 exact ec
def yf (hu:X.A.units+1<cLine)(hc:X.calm=Ω)(SC:CScope X scope own)(hi:PI X.nox tg Z5 wi)
  (Z2:∀ fp C s H,PG (rn X scope own fp C s H) tg g/\PTs (rn X scope own fp C s H) Z4 tt/\PE (rn X scope own fp C s H) kx tk/\PE (rn X scope own fp C s H) vx tv)
  (hs:∀ x,foldedSetIterable Z5 X.env x=pure x:=by intro _;rfl) :
  PE X.nox (.DictComp kx vx [⟨tg,Z5,Z4,0⟩] scope pos) (zf wi g tt tk tv own.length) :=
 uX hc SC Bj hi (λfp C s H=>let ⟨a,b,c,d⟩:=Z2 fp C s H;⟨a,b,ye hu c d⟩) hs
def yc {i:Nat}{x:Str}{px:Pos}{spos:Pos}(hu:X.A.units+1<cLine)(hc:X.calm=Ω)(SC:CScope X scope own)(hN:X.N.Nodup)(hx:X.N[i]?=Ψ x)(hl:X.env.scope.names.lookup x=Ψ .local)(hi:PI X.nox tg Z5 wi)
  (Z2:∀ fp C s H,PG (rn X scope own fp C s H) tg g/\PTs (rn X scope own fp C s H) Z4 tt/\PE (rn X scope own fp C s H) kx tk/\PE (rn X scope own fp C s H) vx tv)
  (hsw:swapsWith (.DictComp kx vx [⟨tg,Z5,Z4,0⟩] scope pos) (Ψ (.Name x px)) spos.line X.env=pure Ω)
  (hs:∀ x,foldedSetIterable Z5 X.env x=pure x:=by intro _;rfl) :
  PS X.nox (.Assign [.Name x px] (.DictComp kx vx [⟨tg,Z5,Z4,0⟩] scope pos) spos) (vH (zf wi g tt tk tv own.length) (rm i)) :=
 ub hc SC Bj hN hx hl hi (λfp C s H=>let ⟨a,b,c,d⟩:=Z2 fp C s H;⟨a,b,ye hu c d⟩) hsw hs
end
end L2
namespace Kq
open PySem PySem.Spec PyProof.Rows L2
inductive D where
 | non|bl (b:Bool)|int (i:Int)|str (x:String)|tup (xs:List D)|lst (xs:List D)
mutual
noncomputable def D.eqv:D->D->Bool
 | .non,y=>match y with|.non=>Ω|_=>Ξ
 | .bl a,y=>match y with|.bl b=>a == b|.int j=>(if a then 1 else 0) == j|_=>Ξ
 | .int i,y=>match y with|.bl b=>i == (if b then 1 else 0)|.int b=>i == b|_=>Ξ
 | .str a,y=>match y with|.str b=>a == b|_=>Ξ
 | .tup a,y=>match y with|.tup b=>D.eqvs a b|_=>Ξ
 | .lst a,y=>match y with|.lst b=>D.eqvs a b|_=>Ξ
noncomputable def D.eqvs:List D->List D->Bool
 | [],y=>match y with|[]=>Ω|_ :: _=>Ξ
 | a :: r,y=>match y with|b :: q=>D.eqv a b && D.eqvs r q|[]=>Ξ
end
mutual
noncomputable def D.wt:D->Nat
 | .non=>0|.bl _=>0
 | .int i=>if -(2 ^ 40)<i/\i<2 ^ 40 then 41 else 151
 | .str x=>x.length
 | .tup xs=>D.wts xs
 | .lst xs=>D.wts xs
noncomputable def D.wts:List D->Nat
 | []=>0
 | a :: r=>D.wt a+1+D.wts r
end
mutual
noncomputable def D.fit:D->Bool
 | .int i=>Δ (-(2 ^ 150)<i/\i<2 ^ 150)
 | .tup xs=>D.fits xs
 | .lst xs=>D.fits xs
 | _=>Ω
noncomputable def D.fits:List D->Bool
 | []=>Ω
 | a :: r=>D.fit a && D.fits r
end
set_option genInjectivity true in
inductive FV where
 | non|bl (b:Bool)|int (i:Int)|str (x:String)|tup (xs:List FV)|lst (xs:List FV)
 | scr (ns:List Int)
 | shn (d:D)
 | dct (ks:List (List Int))(vs:List FV)
 | dci (ks:List Int)(vs:List FV)
 | dcz (o:Obj)(ks:List (List Int))(vs:List FV)
 | dcn (z:Option Obj)(ks:List (List (Option Int)))(vs:List FV)
 | obj (C dx:nP)(fs:List (Str×V))(gs:List (nP×List V))
abbrev big:Nat:=100000
inductive Mo where|imm|own|frz|ob|gst (i:Nat)(x:Str)
 deriving DecidableEq
abbrev Mo.w:Mo->Bool|.imm=>Ξ|.frz=>Ξ|_=>Ω
abbrev Mo.g:Mo->Bool|.gst _ _=>Ω|_=>Ξ
def Mo.w_imm {m:Mo}(h:m.w=Ω):m≠.imm:=λz=>by rw[z] at h;cases h
def Mo.w_frz {m:Mo}(h:m.w=Ω):m≠.frz:=λz=>by rw[z] at h;cases h
def Mo.w_own {m:Mo}(h:m=.own):m.w=Ω:=by rw[h];rfl
noncomputable abbrev Md:=List Mo
noncomputable abbrev nT:=List (Option FV)
abbrev nW:Md->Nat->Mo
 | [],_=>.imm
 | m :: _,0=>m
 | _ :: ms,n+1=>nW ms n
abbrev lk:nT->Nat->Option FV
 | [],_=>Φ
 | x :: _,0=>x
 | _ :: L,n+1=>lk L n
def Fk {α:Sort _}{a b:α}(h:a=b):a=b:=h
def oZ:∀ (L:nT) (i:Nat)(v:FV),lk L i=Ψ v↔L[i]?=Ψ (Ψ v)
 | [],i,v=>by show (Φ:Option FV)=Ψ v↔(Φ:Option (Option FV))=Ψ (Ψ v);simp
 | x :: L,0,v=>by show x=Ψ v↔Ψ x=Ψ (Ψ v);simp
 | x :: L,i+1,v=>by rw[List.getElem?_cons_succ];exact oZ L i v
abbrev wp {α:Type}(r:Option α)(Q:α->Prop):Prop:=match r with
 | some x=>Q x
 | none=>False
inductive Wpx {α:Type}(r:Option α)(Q:α->Prop):Prop
 | mk (x:α)(_:r=Ψ x)(_:Q x):Wpx r Q
def oS {α:Type}{r:Option α}{Q:α->Prop}(h:wp r Q):Wpx r Q:=by
 cases r with
 | none=>exact h.elim
 | some x=>exact⟨x,rfl,h⟩
mutual
noncomputable def sB:D->PyData
 | .non=>.none
 | .bl b=>.bool b
 | .int i=>.int i
 | .str x=>.str (kL x)
 | .tup xs=>.tuple (dPys xs)
 | .lst xs=>.list (dPys xs)
noncomputable def dPys:List D->List PyData
 | []=>[]
 | a :: r=>sB a :: dPys r
end
abbrev pk (ks:List (List Int)):List (List (Int ⊕ Option Str)):=ks.map λk=>k.map Sum.inl
abbrev ql (ks:List Int):List (Int ⊕ Option Str):=ks.map Sum.inl
abbrev oK:Option Int->Int ⊕ Option Str
 | some i=>.inl i
 | none=>.inr Φ
abbrev pI (ks:List (List (Option Int))):List (List (Int ⊕ Option Str)):=ks.map λk=>k.map oK
abbrev Ny (u:HO):Option Obj->HO
 | none=>u
 | some o=>.frz o u
abbrev ScrAt (K:kP)(S:Hp)(a:nP)(ns:List Int):Prop:=(∃ o,S a=Ψ (.frz o (.lst (ns.map V.int)))) ∨ SqL K (λ_=>Φ) a (ns.map V.int)
mutual
noncomputable def RV (K:kP)(S:Hp):FV->V->Prop
 | .non,v=>v=.non
 | .bl b,v=>v=.bl b
 | .int i,v=>v=.int i
 | .str x,v=>v=.str (kL x)
 | .tup ps,v=>∃ a xs,v=.ref a/\S a=Ψ (.tup xs)/\RVs K S ps xs
 | .lst ps,v=>∃ a xs,v=.ref a/\S a=Ψ (.lst xs)/\RVs K S ps xs
 | .scr ns,v=>∃ a,v=.ref a/\ScrAt K S a ns
 | .shn d,v=>v=.str (sB d).shown
 | .dct ks vs,v=>∃ a xs,v=.ref a/\ks.length=vs.length/\S a=Ψ (.dT ((pk ks).zip xs))/\RVs K S vs xs
 | .dci ks vs,v=>∃ a xs,v=.ref a/\ks.length=vs.length/\S a=Ψ (.dK ((ql ks).zip xs))/\RVs K S vs xs
 | .dcz o ks vs,v=>∃ a xs,v=.ref a/\ks.length=vs.length/\S a=Ψ (.frz o (.dT ((pk ks).zip xs)))/\RVs K S vs xs
 | .dcn z ks vs,v=>∃ a xs,v=.ref a/\ks.length=vs.length/\S a=Ψ (Ny (.dT ((pI ks).zip xs)) z)/\RVs K S vs xs
 | .obj C dx fs gs,v=>∃ a,v=.ref a/\S a=Ψ (.big C dx fs gs)
noncomputable def RVs (K:kP)(S:Hp):List FV->List V->Prop
 | [],vs=>vs=[]
 | p :: ps,vs=>∃ v r,vs=v :: r/\RV K S p v/\RVs K S ps r
end
mutual
theorem RV.mono {K:kP}{S S':Hp}(x:Same S S'):∀ {p:FV}{v:V},RV K S p v->RV K S' p v
 | .non,v,h=>h
 | .bl b,v,h=>h
 | .int i,v,h=>h
 | .str _,v,h=>h
 | .shn _,v,h=>h
 | .tup ps,v,q1=>by let(a,xs,e,h1,h2):=q1;exact⟨a,xs,e,x _ _ h1,RVs.mono x h2⟩
 | .lst ps,v,q2=>by let(a,xs,e,h1,h2):=q2;exact⟨a,xs,e,x _ _ h1,RVs.mono x h2⟩
 | .dct ks vs,v,q3=>by let(a,xs,e,h0,h1,h2):=q3;exact⟨a,xs,e,h0,x _ _ h1,RVs.mono x h2⟩
 | .dci ks vs,v,q4=>by let(a,xs,e,h0,h1,h2):=q4;exact⟨a,xs,e,h0,x _ _ h1,RVs.mono x h2⟩
 | .dcz o ks vs,v,q5=>by let(a,xs,e,h0,h1,h2):=q5;exact⟨a,xs,e,h0,x _ _ h1,RVs.mono x h2⟩
 | .dcn z ks vs,v,q6=>by let(a,xs,e,h0,h1,h2):=q6;exact⟨a,xs,e,h0,x _ _ h1,RVs.mono x h2⟩
 | .obj _ _ _ _,v,q7=>by let(a,e,h):=q7;exact⟨a,e,x _ _ h⟩
 | .scr ns,v,q8=>by let(a,e,h):=q8;exact⟨a,e,h.elim (λq9=>by let(o,h):=q9;exact .inl ⟨o,x _ _ h⟩) .inr⟩
theorem RVs.mono {K:kP}{S S':Hp}(x:Same S S'):∀ {ps:List FV}{vs:List V},RVs K S ps vs->RVs K S' ps vs
 | [],vs,h=>h
 | p :: ps,vs,q1=>by let(v,r,e,h1,h2):=q1;exact⟨v,r,e,RV.mono x h1,RVs.mono x h2⟩
end
section
variable {K:kP}{S H:Hp}
def RVs.length:∀ {ps:List FV}{vs:List V},RVs K S ps vs->ps.length=vs.length
 | [],vs,h=>by cases (show vs=[] from h);rfl
 | p :: ps,vs,h=>by
  let(v,r,e,_,h2):=h
  subst e
  rw[gC,gC,RVs.length h2]
def RVs.get:∀ {ps:List FV}{vs:List V}{i:Nat}{p:FV},RVs K S ps vs->ps[i]?=Ψ p->∃ v,vs[i]?=Ψ v/\RV K S p v
 | [],vs,i,p,_,e=>by simp at e
 | q :: ps,vs,0,p,q1,e=>by
  let(v,r,e',h1,_):=q1
  subst e'
  simp at e;subst e
  exact⟨v,rfl,h1⟩
 | q :: ps,vs,i+1,p,q2,e=>by
  let(v,r,e',_,h2):=q2
  subst e'
  simpa using RVs.get (i:=i) (p:=p) h2 (by simpa using e)
def RVs.append:∀ {ps qs:List FV}{vs us:List V},RVs K S ps vs->RVs K S qs us->RVs K S (ps++qs) (vs++us)
 | [],qs,vs,us,h,g=>by cases (show vs=[] from h);exact g
 | p :: ps,qs,vs,us,q1,g=>by
  let(v,r,e,h1,h2):=q1
  subst e
  exact⟨v,r++us,rfl,h1,RVs.append h2 g⟩
def RVs.one {p:FV}{v:V}(h:RV K S p v):RVs K S [p] [v]:=⟨v,[],rfl,h,rfl⟩
def RVs.take:∀ {ps:List FV}{vs:List V} (n:Nat),RVs K S ps vs->RVs K S (ps.take n) (vs.take n)
 | [],vs,n,h=>by cases (show vs=[] from h);rw[kc,kc];rfl
 | p :: ps,vs,0,h=>rfl
 | p :: ps,vs,n+1,q1=>by
  let(v,r,e,h1,h2):=q1
  subst e
  exact⟨v,r.take n,rfl,h1,RVs.take n h2⟩
def RVs.drop:∀ {ps:List FV}{vs:List V} (n:Nat),RVs K S ps vs->RVs K S (ps.drop n) (vs.drop n)
 | [],vs,n,h=>by cases (show vs=[] from h);rw[kq,kq];rfl
 | p :: ps,vs,0,h=>h
 | p :: ps,vs,n+1,q1=>by
  let(v,r,e,h1,h2):=q1
  subst e
  exact RVs.drop n h2
def RVs.set:∀ {ps:List FV}{vs:List V} (n:Nat){p:FV}{v:V},RVs K S ps vs->RV K S p v->RVs K S (ps.set n p) (vs.set n v)
 | [],vs,n,p,v,h,_=>by cases (show vs=[] from h);rfl
 | q :: ps,vs,0,p,v,q1,g=>by
  let(v',r,e,h1,h2):=q1
  subst e
  exact⟨v,r,rfl,g,h2⟩
 | q :: ps,vs,n+1,p,v,q2,g=>by
  let(v',r,e,h1,h2):=q2
  subst e
  exact⟨v',r.set n v,rfl,h1,RVs.set n h2 g⟩
def RVs.rep {ps:List FV}{vs:List V}(h:RVs K S ps vs):∀ k:Nat,RVs K S (jt k ps).flatten (jt k vs).flatten
 | 0=>rfl
 | k+1=>by
  rw[cZ,cZ,fx,fx]
  exact h.append (h.rep k)
def RVs.ns:∀ (ns:List Int),RVs K S (ns.map .int) (ns.map V.int)
 | []=>rfl
 | n :: ns=>⟨_,_,rfl,rfl,RVs.ns ns⟩
def RVs.one_of {p:FV}{us:List V}(h:RVs K S [p] us):∃ u,us=[u]/\RV K S p u:=by
 let(v,r,rfl,h1,h2):=h
 cases (show r=[] from h2)
 exact⟨v,rfl,h1⟩
def RVs.two_of {p q:FV}{us:List V}(h:RVs K S [p,q] us):∃ u v,us=[u,v]/\RV K S p u/\RV K S q v:=by
 let(v,r,rfl,h1,h2):=h
 let(u,rfl,h3):=h2.one_of
 exact⟨v,u,rfl,h1,h3⟩
abbrev Fe:FV->Option (List FV)
 | .lst ps=>Ψ ps
 | .dct ks vs=>if ks.length=vs.length then Ψ vs else Φ
 | .dci ks vs=>if ks.length=vs.length then Ψ vs else Φ
 | .dcz _ ks vs=>if ks.length=vs.length then Ψ vs else Φ
 | .dcn _ ks vs=>if ks.length=vs.length then Ψ vs else Φ
 | .obj _ _ _ _=>Ψ []
 | _=>Φ
abbrev vJ:FV->List V->HO
 | .dct ks _,xs=>.dT ((pk ks).zip xs)
 | .dci ks _,xs=>.dK ((ql ks).zip xs)
 | .dcz o ks _,xs=>.frz o (.dT ((pk ks).zip xs))
 | .dcn z ks _,xs=>Ny (.dT ((pI ks).zip xs)) z
 | .obj C dx fs gs,_=>.big C dx fs gs
 | _,xs=>.lst xs
inductive OwnAt (K:kP)(S H:Hp)(a:nP)(v:FV):Prop
 | mk (_:S a=Φ)(ps:_)(xs:_)(_:Fe v=Ψ ps)(_:H a=Ψ (vJ v xs))(_:RVs K S ps xs):OwnAt K S H a v
abbrev RH (K:kP)(S H:Hp)(v:FV)(x:V):Prop:=RV K S v x ∨ ∃ a,x=.ref a/\OwnAt K S H a v
def RH.lst {ps:List FV}{x:V}(s:Same S H)(h:RH K S H (.lst ps) x):∃ a xs,x=.ref a/\H a=Ψ (.lst xs)/\RVs K S ps xs:=by
 rcases h with⟨a,xs,e,h1,h2⟩|⟨a,e,_,qs,xs,e2,h1,h2⟩
 ·exact⟨a,xs,e,s _ _ h1,h2⟩
 ·cases e2;exact⟨a,xs,e,h1,h2⟩
def RH.val {v:FV}{x:V}(h:RH K S H v x)(n:Fe v=Φ):RV K S v x:=by
 rcases h with h|⟨a,_,_,ps,xs,e,_⟩
 ·exact h
 ·rw[n] at e;cases e
def RH.tup {ps:List FV}{x:V}(s:Same S H)(h:RH K S H (.tup ps) x):∃ a xs,x=.ref a/\H a=Ψ (.tup xs)/\RVs K S ps xs:=by
 let(a,xs,e,h1,h2):=h.val rfl
 exact⟨a,xs,e,s _ _ h1,h2⟩
def ScrAt.sq {a:nP}{ns:List Int}(s:Same S H)(h:ScrAt K S a ns):SqL K H a (ns.map V.int):=by
 rcases h with⟨o,h⟩|h
 ·exact .inl (.inr ⟨o,s _ _ h⟩)
 ·rcases h with (h|⟨o,h⟩)|h
  ·cases h
  ·cases h
  ·exact .inr h
abbrev pX:FV->Option (List FV)
 | .lst xs=>Ψ xs
 | .scr ns=>Ψ (ns.map .int)
 | _=>Φ
abbrev qa:FV->Option (List FV)
 | .tup xs=>Ψ xs
 | v=>pX v
def RH.list {v:FV}{ps:List FV}{x:V}(s:Same S H)(h:RH K S H v x)(e:pX v=Ψ ps):∃ a xs,x=.ref a/\SqL K H a xs/\RVs K S ps xs:=by
 cases v with
 | lst qs =>
  cases e
  let(a,xs,rfl,h1,h2):=h.lst s
  exact⟨a,xs,rfl,SqL.of h1,h2⟩
 | scr ns =>
  cases e
  let(a,rfl,g):=h.val rfl
  exact⟨a,_,rfl,ScrAt.sq s g,RVs.ns ns⟩
 | _=>cases e
abbrev LW:FV->Bool
 | .tup _=>Ξ
 | _=>Ω
def RH.seq {v:FV}{ps:List FV}{x:V}(s:Same S H)(h:RH K S H v x)(e:qa v=Ψ ps):∃ a xs,x=.ref a/\vD (LW v) K H a xs/\RVs K S ps xs:=by
 cases v with
 | tup qs =>
  cases e
  let(a,xs,rfl,h1,h2):=h.tup s
  exact⟨a,xs,rfl,SqT.of h1,h2⟩
 | lst qs=>exact h.list s e
 | scr qs=>exact h.list s e
 | _=>cases e
end
abbrev sI:HO->Bool
 | .tup _=>Ω
 | _=>Ξ
def sv (v:FV)(xs:List V):sI (vJ v xs)=Ξ:=by
 cases v with
 | dcn z ks vs=>cases z<;>rfl
 | _=>rfl
structure Cn where
 H0:Hp
 S0:Hp
 P0:Option nP
 fz:List (Nat×nP)
 pr:List (nP×HO)
 P1:List (Nat×nP)
structure Iv (K:kP)(c:Cn)(md:Md)(L:nT)(σ:L2.St)(S H:Hp):Prop where
 len:L.length=σ.length
 imm:∀ i v,nW md i=.imm->L[i]?=Ψ (Ψ v)->∃ x,σ[i]?=Ψ (Ψ x)/\RV K S v x
 own:∀ i v,nW md i≠.imm->L[i]?=Ψ (Ψ v)->∃ a,σ[i]?=Ψ (Ψ (.ref a))/\OwnAt K S H a v/\(c.P0=Ψ a ∨ c.H0 a=Φ ∨ ∃ j,(j,a)∈c.P1)
 dis:∀ i j v w a,nW md i≠.imm->nW md j≠.imm->L[i]?=Ψ (Ψ v)->L[j]?=Ψ (Ψ w)->σ[i]?=Ψ (Ψ (.ref a))->σ[j]?=Ψ (Ψ (.ref a))->i=j
 sub:Same S H
 frame:∀ a o,c.H0 a=Ψ o->c.P0≠Ψ a->(∀ j,(j,a) ∉ c.P1)->H a=Ψ o
 s0:Same c.S0 S
 grow:∀ a o,S a=Ψ o->c.S0 a=Ψ o ∨ c.H0 a=Φ ∨ sI o=Ω
 lent:∀ a,c.P0=Ψ a->nW md 0≠.imm/\σ[0]?=Ψ (Ψ (.ref a))/\∃ v,L[0]?=Ψ (Ψ v)
 fzs:∀ p∈c.fz,nW md p.1=.frz/\σ[p.1]?=Ψ (Ψ (.ref p.2))/\∃ v,L[p.1]?=Ψ (Ψ v)
 fzm:∀ i v,nW md i=.frz->L[i]?=Ψ (Ψ v)->∃ a,(i,a)∈c.fz
 fzp:∀ p∈c.fz,∃ o,(p.2,o)∈c.pr
 prs:∀ p∈c.pr,H p.1=Ψ p.2/\S p.1=Φ/\∀ i v,(nW md i).w=Ω->L[i]?=Ψ (Ψ v)->σ[i]?≠Ψ (Ψ (.ref p.1))
 ntp:∀ p∈c.pr,sI p.2=Ξ
 lnt1:∀ q∈c.P1,(nW md q.1).g=Ω/\σ[q.1]?=Ψ (Ψ (.ref q.2))/\∃ v,L[q.1]?=Ψ (Ψ v)
 tie:∀ j i x C dx fs v,nW md j=.gst i x->nW md i=.ob->L[i]?=Ψ (Ψ (.obj C dx fs []))->L[j]?=Ψ (Ψ v)->∃ u,fs.lookup x=Ψ u/\σ[j]?=Ψ (Ψ u)
section
variable {K:kP}{c:Cn}{md:Md}{L:nT}{σ:L2.St}{S H S' H':Hp}
def Iv.h0 (I:Iv K c md L σ S H){p:nP}(h:H p=Φ):c.H0 p=Φ:=by
 cases e:c.H0 p with
 | none=>rfl
 | some o =>
  by_cases z:c.P0=Ψ p
  ·let(m,e1,v,e2):=I.lent p z
   let(a,e3,(_,_,_,_,e4,_),_):=I.own 0 v m e2
   rw[e1] at e3;cases e3
   rw[h] at e4;cases e4
  ·by_cases z1:∃ j,(j,p)∈c.P1
   ·let(j,hj):=z1
    let(g,e1,v,e2):=I.lnt1 _ hj
    let(a,e3,(_,_,_,_,e4,_),_):=I.own j v (λz=>by rw[z] at g;cases g) e2
    rw[e1] at e3;cases e3
    rw[h] at e4;cases e4
   ·rw[I.frame p o e z λj hj=>z1 ⟨j,hj⟩] at h;cases h
def Iv.sn (I:Iv K c md L σ S H){p:nP}(h:H p=Φ):S p=Φ:=by
 cases e:S p with
 | none=>rfl
 | some o=>rw[I.sub p o e] at h;cases h
def Iv.go3 (I:Iv K c md L σ S H)(s:Same S S')(sub:Same S' H')(g:∀ a o,S' a=Ψ o->S a=Ψ o ∨ H a=Φ ∨ sI o=Ω)(k:∀ a o,H a=Ψ o->H' a=Ψ o):Iv K c md L σ S' H' where
 len:=I.len
 imm:=λi v h e=>let ⟨x,e1,r⟩:=I.imm i v h e;⟨x,e1,r.mono s⟩
 own:=λi v h e=>by
  let(a,e1,(h1,ps,xs,e2,h2,h3),h4):=I.own i v h e
  exact⟨a,e1,⟨?_,ps,xs,e2,k _ _ h2,h3.mono s⟩,h4⟩
  cases q:S' a with
  | none=>rfl
  | some o =>
   rcases g a o q with z|z|z
   ·rw[h1] at z;cases z
   ·rw[h2] at z;cases z
   ·have:=sub a o q
    rw[k _ _ h2] at this
    rw[<- ip this,sv] at z;cases z
 dis:=I.dis
 sub:=sub
 frame:=λa o h n n1=>k _ _ (I.frame a o h n n1)
 s0:=I.s0.trans s
 grow:=λa o h=>(g a o h).elim (I.grow a o) λz=>z.elim (λz=>.inr (.inl (I.h0 z))) λz=>.inr (.inr z)
 lent:=I.lent
 fzs:=I.fzs
 fzm:=I.fzm
 fzp:=I.fzp
 prs:=λp hp=>by
  let(h1,h2,h3):=I.prs p hp
  exact⟨k _ _ h1,?_,h3⟩
  cases q:S' p.1 with
  | none=>rfl
  | some o =>
   rcases g _ o q with z|z|z
   ·rw[h2] at z;cases z
   ·rw[h1] at z;cases z
   ·have:=sub _ o q
    rw[k _ _ h1] at this
    rw[<- ip this,I.ntp p hp] at z;cases z
 ntp:=I.ntp
 lnt1:=I.lnt1
 tie:=I.tie
def Iv.go (I:Iv K c md L σ S H)(s:Same S S')(sub:Same S' H')(g:∀ a o,S' a=Ψ o->S a=Ψ o ∨ H a=Φ)(k:∀ a o,H a=Ψ o->H' a=Ψ o):Iv K c md L σ S' H':=I.go3 s sub (λa o e=>(g a o e).imp_right .inl) k
def oA {p:nP}{o:HO}(h:H p=Φ):Same H (oT H p o):=λa u e=>by rw[nZ (oY e h)];exact e
def Iv.new (I:Iv K c md L σ S H){p:nP}(h:H p=Φ)(o:HO):Iv K c md L σ (oT S p o) (oT H p o) :=
 I.go (oA (I.sn h)) (λa u e=>by
  by_cases z:a=p
  ·subst z;rw[n5] at e ⊢;exact e
  ·rw[nZ z] at e ⊢;exact I.sub a u e) (λa u e=>by
  by_cases z:a=p
  ·subst z;exact .inr h
  ·rw[nZ z] at e;exact .inl e) (oA h)
def Iv.lay (I:Iv K c md L σ S H){p:nP}(h:H p=Φ)(o:HO):Iv K c md L σ S (oT H p o) :=
 I.go (Same.refl S) (I.sub.trans (oA h)) (λa u e=>.inl e) (oA h)
def Iv.back4 (I:Iv K c md L σ S H){i:Nat}{v w:FV}{a:nP}(m:(nW md i).w=Ω)(e:L[i]?=Ψ (Ψ v))(e1:σ[i]?=Ψ (Ψ (.ref a)))(s:Same S S')(sub:Same S' H')(g:∀ a o,S' a=Ψ o->S a=Ψ o ∨ H a=Φ ∨ sI o=Ω)
  (k:∀ b o,H b=Ψ o->b≠a->H' b=Ψ o)(new:OwnAt K S' H' a w)(ht:∀ j x C dx fs u,nW md j=.gst i x->nW md i=.ob->w=.obj C dx fs []->L[j]?=Ψ (Ψ u)->∃ u,fs.lookup x=Ψ u/\σ[j]?=Ψ (Ψ u)):Iv K c md (L.set i (Ψ w)) σ S' H':=by
 let mi:=Mo.w_imm m
 let hi:=(aR.mp e).1
 let(a',e1',(h1,qs,ys,_,h2,h3),h4):=I.own i v mi e
 rw[e1] at e1';cases e1'
 let look:∀ j u,(L.set i (Ψ w))[j]?=Ψ (Ψ u)->(j=i/\u=w) ∨ (j≠i/\L[j]?=Ψ (Ψ u)):=λj u z=>by
  by_cases q:j=i
  ·subst q;rw[bO hi] at z;cases z;exact .inl ⟨rfl,rfl⟩
  ·rw[cL (mZ q)] at z;exact .inr ⟨q,z⟩
 let lookx:∀ j,(∃ u,L[j]?=Ψ (Ψ u))->∃ u,(L.set i (Ψ w))[j]?=Ψ (Ψ u):=λj h=>by
  let(u,z):=h
  by_cases q:j=i
  ·subst q;exact⟨_,bO hi⟩
  ·exact⟨u,by rw[cL (mZ q)];exact z⟩
 let old:∀ j u,(L.set i (Ψ w))[j]?=Ψ (Ψ u)->∃ u,L[j]?=Ψ (Ψ u):=λj u z=>(look j u z).elim (λq=>⟨v,by rw[q.1];exact e⟩) λq=>⟨u,q.2⟩
 exact⟨by rw[iI];exact I.len,λj u hm z=>?_,λj u hm z=>?_,λj k u u2 b m1 m2 z1 z2=>?_,sub,λb o z n n1=>?_,I.s0.trans s,λb o z=>(g b o z).elim (I.grow b o) λz=>z.elim (λz=>.inr (.inl (I.h0 z))) λz=>.inr (.inr z),λb z=>?_,λp hp=>?_,λj u hm z=>?_,I.fzp,λp hp=>?_,I.ntp,λq hq=>?_,λj i' x C dx fs u h1 h2 h3 h4=>?_⟩
 ·rcases look j u z with⟨q,_⟩|⟨_,z⟩
  ·rw[q] at hm;exact absurd hm mi
  ·let(x,f1,f2):=I.imm j u hm z
   exact⟨x,f1,f2.mono s⟩
 ·rcases look j u z with⟨rfl,rfl⟩|⟨q,z⟩
  ·exact⟨a,e1,new,h4⟩
  ·let(b,f1,(g1,rs,zs,g2,g3,g4),g5):=I.own j u hm z
   let hb:b≠a:=λy=>by subst y;exact q (I.dis j i u v b hm mi z e f1 e1)
   exact⟨b,f1,⟨?_,rs,zs,g2,k b _ g3 hb,g4.mono s⟩,g5⟩
   cases q':S' b with
   | none=>rfl
   | some o =>
    rcases g b o q' with z|z|z
    ·rw[g1] at z;cases z
    ·rw[g3] at z;cases z
    ·have:=sub b o q'
     rw[k b _ g3 hb] at this
     rw[<- ip this,sv] at z;cases z
 ·let(w',z1):=old j u z1
  let(u',z2):=old k u2 z2
  exact I.dis j k w' u' b m1 m2 z1 z2
 ·exact k b o (I.frame b o z n n1) λy=>?_
  subst y
  rcases h4 with y|y|⟨j,y⟩
  ·exact n y
  ·rw[z] at y;cases y
  ·exact n1 j y
 ·let(g1,g2,g3):=I.lent b z
  exact⟨g1,g2,lookx 0 g3⟩
 ·let(g1,g2,g4):=I.fzs p hp
  exact⟨g1,g2,lookx _ g4⟩
 ·rcases look j u z with⟨q,_⟩|⟨_,z⟩
  ·rw[q] at hm;exact absurd hm (Mo.w_frz m)
  ·exact I.fzm j u hm z
 ·let(g1,g2,g3):=I.prs p hp
  let kp:=k _ _ g1 λy=>g3 i v m e (by rw[y];exact e1)
  exact⟨kp,?_,λj u hm z=>let ⟨u',z'⟩:=old j u z;g3 j u' hm z'⟩
  cases q':S' p.1 with
  | none=>rfl
  | some o =>
   rcases g _ o q' with z|z|z
   ·rw[g2] at z;cases z
   ·rw[g1] at z;cases z
   ·have:=sub _ o q'
    rw[kp] at this
    rw[<- ip this,I.ntp p hp] at z;cases z
 ·let(g1,g2,g3):=I.lnt1 q hq
  exact⟨g1,g2,lookx _ g3⟩
 ·let(u',h4'):=old j u h4
  rcases look i' _ h3 with⟨rfl,e9⟩|⟨_,h3⟩
  ·exact ht j x C dx fs u' h1 h2 e9.symm h4'
  ·exact I.tie j i' x C dx fs u' h1 h2 h3 h4'
def Iv.back3 (I:Iv K c md L σ S H){i:Nat}{v w:FV}{a:nP}(m:nW md i=.own)(e:L[i]?=Ψ (Ψ v))(e1:σ[i]?=Ψ (Ψ (.ref a)))(s:Same S S')(sub:Same S' H')(g:∀ a o,S' a=Ψ o->S a=Ψ o ∨ H a=Φ ∨ sI o=Ω)
  (k:∀ b o,H b=Ψ o->b≠a->H' b=Ψ o)(new:OwnAt K S' H' a w):Iv K c md (L.set i (Ψ w)) σ S' H':=I.back4 (Mo.w_own m) e e1 s sub g k new λ_ _ _ _ _ _ _ z=>by rw[m] at z;cases z
def Iv.back (I:Iv K c md L σ S H){i:Nat}{v w:FV}{a:nP}(m:nW md i=.own)(e:L[i]?=Ψ (Ψ v))(e1:σ[i]?=Ψ (Ψ (.ref a)))(s:Same S S')(sub:Same S' H')(g:∀ a o,S' a=Ψ o->S a=Ψ o ∨ H a=Φ)
  (k:∀ b o,H b=Ψ o->b≠a->H' b=Ψ o)(new:OwnAt K S' H' a w):Iv K c md (L.set i (Ψ w)) σ S' H':=I.back3 m e e1 s sub (λa o e=>(g a o e).imp_right .inl) k new
def Iv.write (I:Iv K c md L σ S H){i:Nat}{v:FV}{a:nP}{ps:List FV}{xs:List V}(m:nW md i=.own)(e:L[i]?=Ψ (Ψ v))(e1:σ[i]?=Ψ (Ψ (.ref a)))(r:RVs K S ps xs) :
  Iv K c md (L.set i (Ψ (.lst ps))) σ S (oT H a (.lst xs)):=by
 let(a',e1',(h1,_),_):=I.own i v (λz=>by rw[m] at z;cases z) e
 rw[e1] at e1';cases e1'
 exact I.back m e e1 (Same.refl S) (λb o z=>by rw[nZ λy=>by subst y;rw[h1] at z;cases z];exact I.sub b o z) (λb o z=>.inl z) (λb o z n=>by rw[nZ n];exact z) ⟨h1,ps,xs,rfl,n5,r⟩
def Iv.set (I:Iv K c md L σ S H){i:Nat}{v:FV}{x:V}(ni:∀ a,c.P0=Ψ a->i≠0)(nf:nW md i≠.frz)(h:(nW md i=.imm/\RV K S v x) ∨ (nW md i=.own/\∃ a,x=.ref a/\OwnAt K S H a v/\c.H0 a=Φ/\(∀ p∈c.pr,p.1≠a)/\∀ j w,j≠i->nW md j≠.imm->L[j]?=Ψ (Ψ w)->σ[j]?≠Ψ (Ψ (.ref a)))) :
  Iv K c md (L.set i (Ψ v)) (σ.set i (Ψ x)) S H:=by
 let look:∀ j w,(L.set i (Ψ v))[j]?=Ψ (Ψ w)->(j=i/\w=v/\(σ.set i (Ψ x))[j]?=Ψ (Ψ x)) ∨ (j≠i/\L[j]?=Ψ (Ψ w)/\(σ.set i (Ψ x))[j]?=σ[j]?):=λj w z=>by
  by_cases q:j=i
  ·subst q
   let hj:j<L.length:=by have:=(aR.mp z).1;rwa [iI] at this
   rw[bO hj] at z;cases z
   exact .inl ⟨rfl,rfl,by rw[bO (by rw[<- I.len];exact hj)]⟩
  ·rw[cL (mZ q)] at z
   exact .inr ⟨q,z,cL (mZ q)⟩
 let far:∀ j,j≠i->(L.set i (Ψ v))[j]?=L[j]?/\(σ.set i (Ψ x))[j]?=σ[j]?:=λj q=>⟨cL (mZ q),cL (mZ q)⟩
 exact⟨by rw[iI,iI];exact I.len,λj w hm z=>?_,λj w hm z=>?_,λj k w u b m1 m2 z1 z2 y1 y2=>?_,I.sub,I.frame,I.s0,I.grow,λb z=>?_,λp hp=>?_,λj w hm z=>?_,I.fzp,λp hp=>?_,I.ntp,λq hq=>?_,λj k y C dx fs u h1 h2 h3 h4=>?_⟩
 ·rcases look j w z with⟨rfl,rfl,y⟩|⟨q,z,y⟩
  ·rcases h with⟨_,r⟩|⟨hm',_⟩
   ·exact⟨x,y,r⟩
   ·rw[hm] at hm';cases hm'
  ·rw[y];exact I.imm j w hm z
 ·rcases look j w z with⟨rfl,rfl,y⟩|⟨q,z,y⟩
  ·rcases h with⟨hm',_⟩|⟨_,a,rfl,o,h0,_,_⟩
   ·exact absurd hm' hm
   ·exact⟨a,y,o,.inr (.inl h0)⟩
  ·rw[y];exact I.own j w hm z
 ·rcases look j w z1 with⟨p1,p2,p3⟩|⟨p1,p2,p3⟩
  ·rcases look k u z2 with⟨q1,q2,q3⟩|⟨q1,q2,q3⟩
   ·rw[p1,q1]
   ·rcases h with⟨hm',_⟩|⟨_,a,rfl,_,_,_,n⟩
    ·rw[p1] at m1;exact absurd hm' m1
    ·rw[p3] at y1;cases y1
     rw[q3] at y2
     exact absurd y2 (n k u q1 m2 q2)
  ·rw[p3] at y1
   rcases look k u z2 with⟨q1,q2,q3⟩|⟨q1,q2,q3⟩
   ·rcases h with⟨hm',_⟩|⟨_,a,rfl,_,_,_,n⟩
    ·rw[q1] at m2;exact absurd hm' m2
    ·rw[q3] at y2;cases y2
     exact absurd y1 (n j w p1 m1 p2)
   ·rw[q3] at y2
    exact I.dis j k w u b m1 m2 p2 q2 y1 y2
 ·let(g1,g2,g3):=I.lent b z
  let(f1,f2):=far 0 (mZ (ni b z))
  rw[f1,f2];exact⟨g1,g2,g3⟩
 ·let(g1,g2,g4):=I.fzs p hp
  let(f1,f2):=far p.1 λy=>nf (by rw[<- y];exact g1)
  rw[f1,f2];exact⟨g1,g2,g4⟩
 ·rcases look j w z with⟨rfl,_,_⟩|⟨_,z,_⟩
  ·exact absurd hm nf
  ·exact I.fzm j w hm z
 ·let(g1,g2,g3):=I.prs p hp
  exact⟨g1,g2,λj w hm z=>?_⟩
  rcases look j w z with⟨q1,q2,q3⟩|⟨q1,q2,q3⟩
  ·rcases h with⟨hm',_⟩|⟨_,a,rfl,_,_,n,_⟩
   ·rw[q1,hm'] at hm;cases hm
   ·rw[q3];exact λy=>n p hp (by cases y;rfl)
  ·rw[q3];exact g3 j w hm q2
 ·let(g1,g2,g3):=I.lnt1 q hq
  let(f1,f2):=far q.1 λy=>by
   rw[y] at g1
   rcases h with⟨hm',_⟩|⟨hm',_⟩<;>rw[hm'] at g1<;>cases g1
  rw[f1,f2];exact⟨g1,g2,g3⟩
 ·let n1:j≠i:=λy=>by
   rw[y] at h1
   rcases h with⟨hm',_⟩|⟨hm',_⟩<;>rw[hm'] at h1<;>cases h1
  let n2:k≠i:=λy=>by
   rw[y] at h2
   rcases h with⟨hm',_⟩|⟨hm',_⟩<;>rw[hm'] at h2<;>cases h2
  rw[(far j n1).1] at h4
  rw[(far k n2).1] at h3
  rw[(far j n1).2]
  exact I.tie j k y C dx fs u h1 h2 h3 h4
def Iv.tup (I:Iv K c md L σ S H){b:nP}{xs:List V}(h:H b=Ψ (.tup xs)):Iv K c md L σ (oT S b (.tup xs)) H/\Same S (oT S b (.tup xs)):=by
 let s:Same S (oT S b (.tup xs)):=λa o e=>by
  by_cases z:a=b
  ·subst z;rw[I.sub _ _ e] at h;rw[h,n5]
  ·rw[nZ z];exact e
 exact⟨I.go3 s (λa o e=>?_) (λa o e=>?_) λa o e=>e,s⟩
 ·by_cases z:a=b
  ·subst z;rw[n5] at e;rw[<- e];exact h
  ·rw[nZ z] at e;exact I.sub a o e
 ·by_cases z:a=b
  ·subst z;rw[n5] at e;cases e;exact .inr (.inr rfl)
  ·rw[nZ z] at e;exact .inl e
end
end Kq
namespace Kq
abbrev rP {α β:Type}(f:α->Option β):List α->Option (List β)
 | []=>Ψ []
 | x :: xs=>(f x).bind λy=>(rP f xs).map (y :: ·)
abbrev fD:Nat->FV->Option D
 | 0,_=>Φ
 | n+1,v=>match v with
  | .non=>Ψ .non
  | .bl b=>Ψ (.bl b)
  | .int i=>Ψ (.int i)
  | .str x=>Ψ (.str x)
  | .tup xs=>(rP (fD n) xs).map .tup
  | .lst xs=>(rP (fD n) xs).map .lst
  | .scr _=>Φ
  | .shn _=>Φ
  | .dct _ _=>Φ
  | .dci _ _=>Φ
  | .dcz _ _ _=>Φ
  | .obj _ _ _ _=>Φ|.dcn _ _ _=>Φ
abbrev oJ:Nat:=40
abbrev vG:FV->Option Bool
 | .non=>Ψ Ξ
 | .bl b=>Ψ b
 | .int i=>Ψ (i != 0)
 | .str _=>Φ
 | .tup xs=>Ψ (!xs.isEmpty)
 | .lst xs=>Ψ (!xs.isEmpty)
 | .scr xs=>Ψ (!xs.isEmpty)
 | .shn _=>Φ
 | .dct _ _=>Φ
 | .dci _ _=>Φ
 | .dcz _ _ _=>Φ
 | .obj _ _ _ _=>Φ|.dcn _ _ _=>Φ
abbrev qx:FV->Option Int|.int i=>Ψ i|_=>Φ
abbrev MO:FV->Option Bool|.bl b=>Ψ b|_=>Φ
abbrev qP:FV->Option (List FV)|.tup xs=>Ψ xs|_=>Φ
abbrev rQ:FV->Option (List FV)|.lst xs=>Ψ xs|_=>Φ
abbrev pR (i:Int):Bool:=Δ (-(2 ^ 64)<i/\i<2 ^ 64)
abbrev qJ (i:Int):Bool:=Δ (-(2 ^ 62)<=i/\i<2 ^ 62)
abbrev ur (i:Int):Bool:=Δ (-(2 ^ 40)<=i/\i<=2 ^ 40)
abbrev QO (a b:FV):Option Bool:=(fD oJ a).bind λx=>(fD oJ b).bind λy=>Ψ (D.eqv x y)
abbrev sJ (a b:FV):Option Bool:=match a,b with
 | .shn x,.shn y=>open Classical in if x=y then Ψ Ω else Φ
 | a,b=>QO a b
abbrev Pj:D->D->Option Bool
 | x,.lst xs=>Ψ (xs.any λy=>D.eqv y x)
 | x,.tup xs=>Ψ (xs.any λy=>D.eqv y x)
 | _,_=>Φ
abbrev vF (a b:FV):Option Bool:=(fD oJ a).bind λx=>(fD oJ b).bind λy=>Pj x y
abbrev oM:List FV->Option (List Int)
 | []=>Ψ []
 | .int i :: r=>(oM r).map (i :: ·)
 | _=>Φ
abbrev si:List FV->Option (List Bool)
 | []=>Ψ []
 | .bl b :: r=>(si r).map (b :: ·)
 | _=>Φ
abbrev lexLt:List Int->List Int->Bool
 | [],[]=>Ξ
 | [],_ :: _=>Ω
 | _ :: _,[]=>Ξ
 | a :: r,b :: q=>if a=b then lexLt r q else Δ (a<b)
abbrev qy (f:Int->Int->Option FV)(v w:FV):Option FV:=(qx v).bind λi=>(qx w).bind λj=>f i j
abbrev pG (v w:FV):Option FV:=match v with
 | .tup xs=>(qP w).bind λys=>if xs.length+ys.length<=big then Ψ (.tup (xs++ys)) else Φ
 | .lst xs=>(rQ w).bind λys=>if xs.length+ys.length<=big then Ψ (.lst (xs++ys)) else Φ
 | v=>qy (λi j=>Ψ (.int (i+j))) v w
abbrev xR:FV->FV->Option FV:=qy λi j=>Ψ (.int (i-j))
abbrev qR (v w:FV):Option FV:=match v with
 | .lst xs=>(qx w).bind λk=>if -(2 ^ 63)<=k/\k<2 ^ 63/\xs.length*k.toNat<=big then Ψ (.lst (jt k.toNat xs).flatten) else Φ
 | v=>qy (λi j=>if (pR i || pR j)=Ω then Ψ (.int (i*j)) else Φ) v w
abbrev yH:FV->FV->Option FV:=qy λi j=>if 0<j/\j<1073741824 then Ψ (.int (i / j)) else Φ
abbrev vK:FV->FV->Option FV:=qy λi j=>if 0<j then Ψ (.int (i % j)) else Φ
abbrev BD:FV->FV->Option FV:=qy λi j=>if 0<=j/\j<=1000/\pR i=Ω then Ψ (.int (i ^ j.toNat)) else Φ
abbrev vn (a b:FV):Option FV:=(sJ a b).map .bl
abbrev BN (a b:FV):Option FV:=(sJ a b).map λr=>.bl (!r)
abbrev inB (a b:FV):Option FV:=(vF a b).map .bl
abbrev niB (a b:FV):Option FV:=(vF a b).map λr=>.bl (!r)
abbrev B2:FV->FV->Option FV:=qy λi j=>Ψ (.bl (Δ (j<i)))
abbrev Kp:FV->FV->Option FV:=qy λi j=>Ψ (.bl (Δ (j<=i)))
abbrev ixN (n:Nat) (i:Int):Option Nat:=if 0<=i then (if i<n then Ψ i.toNat else Φ) else if -(n:Int)<=i then Ψ (i+n).toNat else Φ
abbrev Cp (xs:List FV) (i:Int):Option FV:=(ixN xs.length i).bind λj=>xs[j]?
abbrev pY (v w:FV):Option FV:=(qx w).bind λj=>(qa v).bind λxs=>Cp xs j
abbrev yr:FV->FV->Option FV:=qy λi j=>Ψ (.int (if j > i then j else i))
abbrev qN:FV->Option FV|.non=>Ψ (.bl Ω)|_=>Ψ (.bl Ξ)
abbrev pB:FV->Option FV|.non=>Ψ (.bl Ξ)|_=>Ψ (.bl Ω)
abbrev Fl (v:FV):Option FV:=(MO v).map λb=>.bl (!b)
abbrev BM (v:FV):Option FV:=(qx v).map λi=>.int (-i)
abbrev qI (v:FV):Option FV:=(qa v).map λxs=>.int xs.length
abbrev Em (v:FV):Option FV:=(qx v).map λi=>.int (if i<0 then -i else i)
abbrev qQ:FV->Option FV|.int i=>Ψ (.int i)|.bl b=>Ψ (.int (if b then 1 else 0))|_=>Φ
abbrev zk (xs:List FV):Option Int:=(oM xs).bind λns=>if ns.length<=big/\ns.all ur=Ω then Ψ ns.sum else Φ
abbrev wN (v:FV):Option FV:=(pX v).bind λxs=>(zk xs).map .int
abbrev xK (v:FV):Option FV:=(pX v).bind λxs=>(si xs).map λbs=>.bl (bs.all id)
abbrev Go (v:FV):Option FV:=(pX v).bind λxs=>(si xs).map λbs=>.bl (bs.any id)
abbrev pS (b:Int):List Int->Int
 | []=>b
 | x :: r=>pS (if x<b then x else b) r
abbrev Fp (xs:List FV):Option FV:=(oM xs).bind λns=>match ns with
 | n :: r=>Ψ (.int (pS n r))
 | []=>Φ
abbrev AB (v:FV):Option FV:=(pX v).bind Fp
abbrev pQ (v:FV):Option FV:=(qa v).map .tup
abbrev qL (v:FV):Option FV:=(qa v).map .lst
abbrev Hd (v:FV):Option FV:=(fD oJ v).bind λd=>if d.fit=Ω/\d.wt<=big then Ψ (.shn d) else Φ
abbrev CI (v:FV):Option FV:=match v with
 | .non=>Ψ (.str "None")
 | .bl b=>Ψ (.str (if b then "True" else "False"))
 | .str x=>Ψ (.str x)
 | .int i=>if -(2 ^ 150)<i/\i<2 ^ 150 then Ψ (.str (toString i)) else Φ
 | .tup xs=>Hd (.tup xs)
 | .lst xs=>Hd (.lst xs)
 | .scr _=>Φ|.shn _=>Φ|.dct _ _=>Φ|.dci _ _=>Φ|.dcz _ _ _=>Φ|.obj _ _ _ _=>Φ|.dcn _ _ _=>Φ
inductive Ty where|int|bool|str|list|tuple
 deriving DecidableEq
abbrev ve:FV->Ty->Option Bool
 | .non,_=>Ψ Ξ
 | .bl _,t=>Ψ (t == .int || t == .bool)
 | .int _,t=>Ψ (t == .int)
 | .str _,t=>Ψ (t == .str)
 | .tup _,t=>Ψ (t == .tuple)
 | .lst _,t=>Ψ (t == .list)
 | .scr _,_=>Φ
 | .shn _,t=>Ψ (t == .str)
 | .dct _ _,_=>Φ
 | .dci _ _,_=>Φ
 | .dcz _ _ _,_=>Φ
 | .obj _ _ _ _,_=>Φ
 | .dcn _ _ _,_=>Φ
abbrev t5 (t:Ty)(v:FV):Option FV:=(ve v t).map .bl
abbrev sIx (n d:Nat):Option Int->Nat
 | none=>d
 | some v=>if v<0 then (v+n).toNat else min v.toNat n
abbrev qi {α:Type}(xs:List α)(lo hi:Option Int):List α:=(xs.drop (sIx xs.length 0 lo)).take (sIx xs.length xs.length hi-sIx xs.length 0 lo)
abbrev rS (v:FV)(lo hi:Option Int):Option FV:=match v with
 | .tup xs=>Ψ (.tup (qi xs lo hi))
 | .lst xs=>Ψ (.lst (qi xs lo hi))
 | _=>Φ
noncomputable abbrev EW:=nT->(FV->nT->Prop)->Prop
noncomputable abbrev BW:=nT->(Bool->nT->Prop)->Prop
noncomputable abbrev AW:=nT->(List FV->nT->Prop)->Prop
noncomputable abbrev OW:=nT->(Option Int->nT->Prop)->Prop
abbrev nQ (i:Nat):EW:=λL Q=>wp (lk L i) λx=>Q x L
abbrev eC (v:FV):EW:=λL Q=>Q v L
abbrev oH (f:FV->Option FV)(a:EW):EW:=λL Q=>a L λx L1=>wp (f x) λz=>Q z L1
abbrev n6 (f:FV->FV->Option FV)(a b:EW):EW:=λL Q=>a L λx L1=>b L1 λy L2=>wp (f x y) λz=>Q z L2
abbrev qk (f:FV->FV->Option FV) (i:Nat)(b:EW):EW:=λL Q=>wp (lk L i) λ_=>b L λy L1=>wp (lk L1 i) λx=>wp (f x y) λz=>Q z L1
abbrev vt (f g:FV->FV->Option FV)(a b c:EW):EW:=λL Q=>a L λx L1=>b L1 λy L2=>wp (f x y) λr=>wp (MO r) λr=>if r=Ω then c L2 λz L3=>wp (g y z) λq=>Q q L3 else Q (.bl Ξ) L2
abbrev tS (a b:EW):EW:=λL Q=>a L λx L1=>wp (vG x) λr=>if r=Ω then b L1 Q else Q x L1
abbrev Jw (c:BW)(a b:EW):EW:=λL Q=>c L λr L1=>if r=Ω then a L1 Q else b L1 Q
abbrev n8 (a:EW):BW:=λL Q=>a L λx L1=>wp (vG x) λb=>Q b L1
abbrev rM (a b:BW):BW:=λL Q=>a L λr L1=>if r=Ω then b L1 Q else Q Ξ L1
abbrev yZ (a b:BW):BW:=λL Q=>a L λr L1=>if r=Ω then Q Ω L1 else b L1 Q
abbrev qp (a:BW):BW:=λL Q=>a L λr L1=>Q (!r) L1
abbrev o6:BW:=λL Q=>Q Ω L
abbrev nU:AW:=λL Q=>Q [] L
abbrev nR (a:EW)(r:AW):AW:=λL Q=>a L λx L1=>r L1 λxs L2=>Q (x :: xs) L2
abbrev o9 (a:AW):EW:=λL Q=>a L λxs L1=>xs.length<=big/\Q (.tup xs) L1
abbrev pK (a:AW):EW:=λL Q=>a L λxs L1=>xs.length<=big/\Q (.lst xs) L1
abbrev uZ:OW:=λL Q=>Q Φ L
abbrev rf (a:EW):OW:=λL Q=>a L λx L1=>wp (qx x) λi=>Q (Ψ i) L1
abbrev Mx (a:EW)(l h:OW):EW:=λL Q=>a L λx L1=>l L1 λi L2=>h L2 λj L3=>wp (rS x i j) λz=>Q z L3
abbrev B8 (k:Nat)(l h:OW):EW:=λL Q=>wp (lk L k) λ_=>l L λi L2=>h L2 λj L3=>wp (lk L3 k) λx=>wp (rS x i j) λz=>Q z L3
noncomputable abbrev CW:=Nat->List FV->(FV×FV->Prop)->Prop
abbrev ox (call:CW) (f:Nat)(a:AW):EW:=λL Q=>a L λxs L1=>call f xs λz=>Q z.1 L1
abbrev og (call:CW) (f i:Nat)(a:AW):EW:=λL Q=>wp (lk L i) λ_=>a L λxs L1=>wp (lk L1 i) λx=>call f (x :: xs) λz=>Q z.1 (L1.set i (Ψ z.2))
abbrev um (v y:FV):Option FV:=(rQ v).bind λxs=>if xs.length<big then Ψ (.lst (xs++[y])) else Φ
abbrev rN (f:FV->FV->Option FV) (i:Nat)(a:EW):EW:=λL Q=>wp (lk L i) λv=>wp (rQ v) λ_=>a L λy L1=>wp (lk L1 i) λx=>wp (f x y) λz=>Q .non (L1.set i (Ψ z))
abbrev uq (lo:Int):Nat->List FV
 | 0=>[]
 | n+1=>.int lo :: uq (lo+1) n
abbrev pO (xs ys:List FV):List FV:=xs.zipWith (λp q=>.tup [p,q]) ys
abbrev qb (a:EW):AW:=λL Q=>a L λx L1=>wp (qa x) λxs=>Q xs L1
abbrev qE (a:EW):AW:=λL Q=>a L λx L1=>wp (qx x) λj=>qJ j=Ω/\Q (uq 0 j.toNat) L1
abbrev iRng2 (a b:EW):AW:=λL Q=>a L λx L1=>b L1 λy L2=>wp (qx x) λi=>wp (qx y) λj=>(qJ i && qJ j)=Ω/\Q (uq i (j-i).toNat) L2
abbrev IE (a b:EW):AW:=λL Q=>a L λx L1=>b L1 λy L2=>wp (qa x) λxs=>wp (qa y) λys=>Q (pO xs ys) L2
abbrev rh (a:EW):AW:=λL Q=>a L λx L1=>wp (qa x) λxs=>Q (pO (uq 0 xs.length) xs) L1
inductive Tg where|nm (i:Nat)|tp (is:List Nat)|tn (i:Nat)(is:List Nat)
abbrev LA:List FV->Option (FV×FV)|[a,b]=>Ψ (a,b)|_=>Φ
abbrev tw:nT->List Nat->List FV->Option nT
 | L,[],[]=>Ψ L
 | L,i :: is,v :: vs=>tw (L.set i (Ψ v)) is vs
 | _,_,_=>Φ
abbrev gW (tg:Tg)(v:FV)(L:nT)(Q:nT->Prop):Prop:=match tg with
 | .nm i=>Q (L.set i (Ψ v))
 | .tp is=>wp (qP v) λxs=>wp (tw L is xs) Q
 | .tn i is=>wp (qP v) λxs=>wp (LA xs) λp=>wp (qP p.2) λys=>wp (tw (L.set i (Ψ p.1)) is ys) Q
abbrev rA (n m:Nat)(tg:Tg)(t:BW)(e:EW):List FV->List FV->nT->(List FV->nT->Prop)->Prop
 | [],Z8,L,Q=>Q Z8 L
 | x :: xs,Z8,L,Q=>gW tg x (L++jt m Φ) λL1=>t L1 λb L2=>if b=Ω then e L2 λv L3=>rA n m tg t e xs (Z8++[v]) (L3.take n) Q else rA n m tg t e xs Z8 (L2.take n) Q
abbrev oW (n m:Nat)(it:AW)(tg:Tg)(t:BW)(e:EW):EW:=λL Q=>it L λxs L1=>L1.length=n/\xs.length<=big/\rA n m tg t e xs [] L1 λys L2=>Q (.lst ys) L2
inductive FFl where|next|ret (v:FV)|brk|cont
noncomputable abbrev SW:=nT->(FFl->nT->Prop)->Prop
abbrev Os (k:nT->Prop)(Q:FFl->nT->Prop):FFl->nT->Prop
 | .next,L=>k L
 | .ret v,L=>Q (.ret v) L
 | .brk,L=>Q .brk L
 | .cont,L=>Q .cont L
abbrev pD:SW:=λL Q=>Q .next L
abbrev nY (s r:SW):SW:=λL Q=>s L (Os (λL1=>r L1 Q) Q)
abbrev oo (e:EW)(tg:Tg):SW:=λL Q=>e L λx L1=>gW tg x L1 λL2=>Q .next L2
abbrev He (v j x:FV):Option FV:=(rQ v).bind λxs=>(qx j).bind λn=>(ixN xs.length n).map λp=>.lst (xs.set p x)
abbrev wQ (k:Nat)(i e:EW):SW:=λL Q=>wp (lk L k) λ_=>e L λx L1=>i L1 λj L2=>wp (lk L2 k) λy=>wp (He y j x) λz=>Q .next (L2.set k (Ψ z))
abbrev EL (f:FV->FV->Option FV) (i:Nat)(e:EW):SW:=λL Q=>wp (lk L i) λa=>e L λx L1=>wp (f a x) λz=>Q .next (L1.set i (Ψ z))
abbrev ou (e:EW):SW:=λL Q=>e L λx L1=>Q (.ret x) L1
abbrev rT (e:EW):SW:=λL Q=>e L λ_ L1=>Q .next L1
abbrev rD (c:BW)(a b:SW):SW:=λL Q=>c L λr L1=>if r=Ω then a L1 Q else b L1 Q
abbrev uH (k:nT->Prop)(Q:FFl->nT->Prop):FFl->nT->Prop
 | .next,L=>k L
 | .cont,L=>k L
 | .brk,L=>Q .next L
 | .ret v,L=>Q (.ret v) L
abbrev yE (tg:Tg)(b:SW):List FV->nT->(FFl->nT->Prop)->Prop
 | [],L,Q=>Q .next L
 | x :: xs,L,Q=>gW tg x L λL1=>b L1 (uH (λL2=>yE tg b xs L2 Q) Q)
abbrev pT (it:AW)(tg:Tg)(b:SW):SW:=λL Q=>it L λxs L1=>yE tg b xs L1 Q
abbrev Bu (c:BW)(b:SW):Nat->nT->(FFl->nT->Prop)->Prop
 | 0,_,_=>False
 | n+1,L,Q=>c L λr L1=>if r=Ω then b L1 (uH (λL2=>Bu c b n L2 Q) Q) else Q .next L1
abbrev zq (c:BW)(b:SW):SW:=λL Q=>∃ n,Bu c b n L Q
structure FD where
 np:Nat
 ns:Nat
 body:CW->SW
 io:Bool
 fr:Bool
abbrev vL (io fr:Bool)(Q:FV×FV->Prop):FFl->nT->Prop
 | .ret v,L=>match io with
  | true=>wp (lk L 0) λx=>Q (v,x)
  | false=>Q (v,.non)
 | .next,L=>match fr with
  | true=>False
  | false=>match io with
   | true=>wp (lk L 0) λx=>Q (.non,x)
   | false=>Q (.non,.non)
 | _,_=>False
abbrev callW (tb:List FD):Nat->CW
 | 0,_,_,_=>False
 | d+1,f,args,Q=>match tb[f]? with
  | none=>False
  | some fd=>args.length=fd.np/\fd.body (callW tb d) (args.map Ψ++jt (fd.ns-fd.np) Φ) (vL fd.io fd.fr Q)
end Kq
namespace Kq
open PySem PySem.Spec PyProof.Rows L2
def D.eqv_int (a b:Int):D.eqv (.int a) (.int b)=(a == b):=Fk rfl
def D.eqvs_cons (a b:D)(r q:List D):D.eqvs (a :: r) (b :: q)=(D.eqv a b && D.eqvs r q):=Fk rfl
def wZ {x y:String}(h:kL x=kL y):x=y:=by
 rw[bG,bG] at h
 let h2:x.toList.map mx=y.toList.map mx:=by
  injection h with h
  simpa using congrArg lj h
 let inj:∀ (a b:List Char),a.map mx=b.map mx->a=b:=by
  intro a
  induction a with
  | nil=>intro b hb;cases b<;>simp_all
  | cons c a ih =>
   intro b hb
   cases b with
   | nil=>simp at hb
   | cons d b =>
    simp![kn,iP] at hb
    rw[ih b hb.2,Char.toNat_inj.mp hb.1]
 exact String.toList_inj.mp (inj _ _ h2)
def G9 (a b:String):(kL a == kL b)=(a == b):=by
 rw[iW]
 simp![beq_iff_eq]
 exact⟨wZ,λh=>by rw[h]⟩
def G7 (x:String):PyData.strOk (kL x)=Ω:=by
 rw[bG]
 unfold PyData.strOk
 simp![List.all_toArray,List.all_map,gK,Function.comp_apply,decide_eq_true_eq]
 intro c _
 let h:c.val.toNat<0xd800 ∨ (0xdfff<c.val.toNat/\c.val.toNat<0x110000):=c.valid
 show c.val.toNat<1114112
 lia
mutual
theorem sK:∀ d:D,(sB d).canLay0=Ω
 | .non=>rfl
 | .bl _=>rfl
 | .int _=>rfl
 | .str x=>G7 x
 | .tup xs=>d_lays xs
 | .lst xs=>d_lays xs
theorem d_lays:∀ xs:List D,fc (dPys xs)=Ω
 | []=>rfl
 | x :: xs=>by simp![dPys,fc,sK x,d_lays xs,kF]
end
mutual
theorem Bg:∀ a b:D,PyData.eqv (sB a) (sB b)=D.eqv a b
 | .non,b=>by cases b<;>rfl
 | .bl _,b=>by cases b<;>rfl
 | .int _,b=>by cases b<;>rfl
 | .str x,b=>by cases b<;>first|rfl|exact G9 ..
 | .tup xs,b=>by cases b<;>first|rfl|exact d_eqvs ..
 | .lst xs,b=>by cases b<;>first|rfl|exact d_eqvs ..
theorem d_eqvs:∀ a b:List D,PyData.eqvAll (dPys a) (dPys b)=D.eqvs a b
 | [],b=>by cases b<;>rfl
 | x :: xs,b=>by cases b<;>first|rfl|(show (_ && _)=(_ && _);rw[Bg,d_eqvs])
end
def yO (x:D):∀ xs:List D,((dPys xs).any λy=>PyData.eqv y (sB x))=xs.any λy=>D.eqv y x
 | []=>rfl
 | y :: r=>by simp![dPys,kr,Bg,yO x r]
mutual
theorem yN:∀ d:D,(sB d).hasDict=Ξ
 | .non=>rfl
 | .bl _=>rfl
 | .int _=>rfl
 | .str x=>rfl
 | .tup xs=>d_nodicts xs
 | .lst xs=>d_nodicts xs
theorem d_nodicts:∀ xs:List D,fb (dPys xs)=Ξ
 | []=>rfl
 | x :: xs=>by simp![dPys,fb,yN x,d_nodicts xs,Bool.or_self]
end
def log2_lt {i:Int}{k:Nat}(hk:0<k)(h:-(2 ^ k:Int)<i/\i<2 ^ k):i.natAbs.log2<k:=by
 by_cases h0:i.natAbs=0
 ·rw[h0];simpa using hk
 ·rw[Nat.log2_lt h0]
  let e:((2 ^ k:Nat):Int)=(2:Int) ^ k:=by rw[Int.natCast_pow];rfl
  lia
mutual
theorem D5:∀ d:D,d.fit=Ω->(sB d).showable=Ω/\(sB d).intsShort 160=Ω/\(sB d).weight<=d.wt
 | .non,_=>⟨rfl,rfl,lJ _⟩
 | .bl _,_=>⟨rfl,rfl,lJ _⟩
 | .int i,h=>by
  let h:-(2 ^ 150:Int)<i/\i<2 ^ 150:=of_decide_eq_true h
  let l1:=log2_lt (k:=150) (·) h
  exact⟨?_,?_,?_⟩
  ·simp![sB,PyData.showable,decide_eq_true_eq];lia
  ·simp![sB,PyData.intsShort,decide_eq_true_eq]
   let e:=int_text_length_le (k:=150) (·) l1
   show (kL (toString i)).length<=160
   rw[bZ];lia
  ·simp![sB,j6,D.wt]
   split
   ·lia
   ·split
    ·rename_i hs
     let l2:=log2_lt (k:=40) (·) hs
     lia
    ·lia
 | .str x,_=>by
  exact⟨rfl,rfl,?_⟩
  simp![sB,j6,D.wt]
  have:(kL x).length=x.length:=bZ x
  exact kZ this
 | .tup xs,h=>by
  let(h1,h2,h3):=d_fits xs h
  exact⟨h1,h2,h3⟩
 | .lst xs,h=>by
  let(h1,h2,h3):=d_fits xs h
  exact⟨h1,h2,h3⟩
theorem d_fits:∀ xs:List D,D.fits xs=Ω->dC (dPys xs)=Ω/\cX 160 (dPys xs)=Ω/\f9 (dPys xs)<=D.wts xs
 | [],_=>⟨rfl,rfl,lJ _⟩
 | x :: xs,h=>by
  let h:x.fit=Ω/\D.fits xs=Ω:=cN.mp h
  let(a1,a2,a3):=D5 x h.1
  let(b1,b2,b3):=d_fits xs h.2
  exact⟨?_,?_,?_⟩
  ·simp![dPys,dC,a1,b1,kF]
  ·simp![dPys,cX,a2,b2,kF]
  ·simp![dPys,f9,D.wts];lia
end
def Gb {d:D}(h:d.fit=Ω)(hw:d.wt<=big):(sB d).shown.length<=sizeLine:=by
 let(_,h2,h3):=D5 d h
 have:=PyData.shown_le 160 (·) (sB d) (PyData.leavesShort_of_canLay0 160 _ (sK d) h2)
 unfold big at hw
 let e:sizeLine=16777216:=rfl
 lia
inductive Bnd {α β:Type}(o:Option α)(f:α->Option β)(z:β):Prop
 | mk (a:α)(_:o=Ψ a)(_:f a=Ψ z):Bnd o f z
def p7 {α β:Type}{o:Option α}{f:α->Option β}{z:β}(h:o.bind f=Ψ z):Bnd o f z:=let ⟨a,h1,h2⟩:=Option.bind_eq_some_iff.mp h;⟨a,h1,h2⟩
inductive Mpd {α β:Type}(o:Option α)(f:α->β)(z:β):Prop
 | mk (a:α)(_:o=Ψ a)(_:f a=z):Mpd o f z
def rW {α β:Type}{o:Option α}{f:α->β}{z:β}(h:o.map f=Ψ z):Mpd o f z:=let ⟨a,h1,h2⟩:=bK.mp h;⟨a,h1,h2⟩
def qM {α:Type}{c:Prop} [Decidable c] {a b:α}(h:(if c then Ψ a else Φ)=Ψ b):c/\a=b:=by
 by_cases z:c
 ·rw[if_pos z] at h;exact⟨z,ip h⟩
 ·rw[if_neg z] at h;cases h
def tO:∀ {n:Nat}{p:FV}{d:D},fD n p=Ψ d->(sB d).depth<=n
 | 0,p,d,h=>by cases h
 | n+1,p,d,h=>by
  let ds:∀ {ps:List FV}{ds:List D},rP (fD n) ps=Ψ ds->ik (dPys ds)<=n:=by
   intro ps
   induction ps with
   | nil=>intro ds h;cases h;simp[dPys,ik]
   | cons q ps ih =>
    intro ds h
    let(y,e1,h):=p7 h
    let(zs,e2,rfl):=rW h
    simp![dPys,ik]
    exact Nat.max_le.mpr ⟨tO e1,ih e2⟩
  cases p with
  | tup ps=>let(zs,e,rfl):=rW (show (rP (fD n) ps).map D.tup=Ψ d from h);simp![sB,kQ];have:=ds e;lia
  | lst ps=>let(zs,e,rfl):=rW (show (rP (fD n) ps).map D.lst=Ψ d from h);simp![sB,kQ];have:=ds e;lia
  | non=>cases h;simp[sB,kQ]
  | bl _=>cases h;simp[sB,kQ]
  | int _=>cases h;simp[sB,kQ]
  | str _=>cases h;simp[sB,kQ]
  | scr _=>cases h
  | shn _=>cases h
  | dct _ _=>cases h
  | dci _ _=>cases h
  | dcz _ _ _=>cases h
  | obj _ _ _ _=>cases h
  | dcn _ _ _=>cases h
section
variable {X:Cx}{Z9:List (nP×Obj)}{σ:L2.St}{S H:Hp}{s:nh}
abbrev Kg (X:Cx)(S:Hp)(s:nh) (n:Nat):Prop:=∀ (p:FV)(v:V)(u:nE)(d:D),RV X.K S p v->RelV v u->fD n p=Ψ d->∃ as,Reads s.heap u (sB d) as
def tX {n:Nat}(R:Kg X S s n):∀ {ps:List FV}{vs:List V}{us:List nE}{ds:List D},RVs X.K S ps vs->Vals vs us->rP (fD n) ps=Ψ ds->∃ as,ReadsAll s.heap us (dPys ds) as
 | [],vs,us,ds,r,q,h=>by
  cases (show vs=[] from r)
  cases q
  cases h
  exact⟨[],.nil⟩
 | p :: ps,vs,us,ds,r,rq,h=>by
  let(v1,vr,rfl,r1,r2):=r
  cases rq with
  | cons q1 q2 =>
   let(y,e1,h):=p7 h
   let(zs,e2,rfl):=rW h
   let(as,ra):=R _ _ _ _ r1 q1 e1
   let(bs,rb):=tX R r2 q2 e2
   exact⟨as++bs,.cons ra rb⟩
def vT {n:Nat}(I:Inv X Z9 σ H s)(R:Kg X S s n){a:nP}{xs:List V}{ps:List FV}{d:D}(h1:H a=Ψ (.lst xs))(h2:RVs X.K S ps xs)(h:(rP (fD n) ps).map D.lst=Ψ d):∃ as,Reads s.heap (.ref a) (sB d) as:=by
 let(zs,e,rfl):=rW h
 let(Z7,rr,(o,k,e1,e2,e2',e3),_):=I.list (SqL.of h1)
 let(as,ra):=tX R h2 rr e
 exact⟨a :: as,.list e1 e2 e3 (by simpa using ra)⟩
def uQ (I:Inv X Z9 σ H s)(hs:Same S H):∀ n,Kg X S s n
 | 0,p,v,u,d,_,_,h=>by cases h
 | n+1,p,v,u,d,rp,rv,h=>by
  let R:=uQ I hs n
  cases p with
  | tup ps =>
   let(a,xs,rfl,h1,h2):=rp
   cases (show u=Value.ref a from rv)
   let(zs,e,rfl):=rW (show (rP (fD n) ps).map D.tup=Ψ d from h)
   let(Z7,rr,(o,e1,e2,k,e3),_):=I.tuple (SqT.of (hs _ _ h1))
   let(as,ra):=tX R h2 rr e
   exact⟨as,.tuple e1 e2 e3 (by simpa using ra)⟩
  | lst ps =>
   let(a,xs,rfl,h1,h2):=rp
   cases (show u=Value.ref a from rv)
   exact vT I R (hs _ _ h1) h2 h
  | non=>cases h;cases (show v=_ from rp);cases (show u=_ from rv);exact⟨_,.none⟩
  | bl _=>cases h;cases (show v=_ from rp);cases (show u=_ from rv);exact⟨_,.bool _⟩
  | int _=>cases h;cases (show v=_ from rp);let(t,rfl):=rv;exact⟨_,.int _ _⟩
  | str _=>cases h;cases (show v=_ from rp);let(t,rfl):=rv;exact⟨_,.str _ _⟩
  | scr _=>cases h
  | shn _=>cases h
  | dct _ _=>cases h
  | dci _ _=>cases h
  | dcz _ _ _=>cases h
  | obj _ _ _ _=>cases h
  | dcn _ _ _=>cases h
def rV (I:Inv X Z9 σ H s)(hs:Same S H){n:Nat}{p:FV}{v:V}{u:nE}{d:D}(rp:RH X.K S H p v)(rv:RelV v u)(h:fD n p=Ψ d):∃ as,Reads s.heap u (sB d) as:=by
 rcases rp with rp|⟨a,rfl,_,ps,xs,e,h1,h2⟩
 ·exact uQ I hs n p v u d rp rv h
 ·cases (show u=Value.ref a from rv)
  cases n with
  | zero=>cases h
  | succ n =>
   cases p with
   | lst qs=>cases e;exact vT I (uQ I hs n) h1 h2 h
   | dct _ _=>cases h
   | dci _ _=>cases h
   | dcz _ _ _=>cases h
   | obj _ _ _ _=>cases h
   | dcn _ _ _=>cases h
   | _=>cases e
end
def ph:big<=sizeLine:=(·)
def oU {v:FV}{i:Int}(h:qx v=Ψ i):v=.int i:=by cases v<;>cases h;rfl
def JI {v:FV}{i:Bool}(h:MO v=Ψ i):v=.bl i:=by cases v<;>cases h;rfl
def pN {v:FV}{i:List FV}(h:qP v=Ψ i):v=.tup i:=by cases v<;>cases h;rfl
def qe {v:FV}{i:List FV}(h:rQ v=Ψ i):v=.lst i:=by cases v<;>cases h;rfl
structure NewOr (K:kP)(S H:Hp)(Q:VK)(z:FV):Prop where
 old:∀ x,(∀ ps,z≠.lst ps)->RV K S z x->Q x H
 tup:∀ ps xs p,z=.tup ps->RVs K S ps xs->H p=Φ->Q (.ref p) (oT H p (.tup xs))
 lst:∀ ps xs p,z=.lst ps->RVs K S ps xs->H p=Φ->Q (.ref p) (oT H p (.lst xs))
section
variable {X:Cx}{K:kP}{S H:Hp}{Q:VK}
def NewOr.bl {b:Bool}(k:NewOr K S H Q (.bl b)):Q (.bl b) H:=k.old _ (λ_ z=>nomatch z) rfl
def NewOr.int {b:Int}(k:NewOr K S H Q (.int b)):Q (.int b) H:=k.old _ (λ_ z=>nomatch z) rfl
def NewOr.str {b:String}(k:NewOr K S H Q (.str b)):Q (.str (kL b)) H:=k.old _ (λ_ z=>nomatch z) rfl
def RH.int {i:Int}{x:V}(h:RH K S H (.int i) x):x=.int i:=h.val rfl
def RH.bl {i:Bool}{x:V}(h:RH K S H (.bl i) x):x=.bl i:=h.val rfl
inductive Rq (K:kP)(f:FV->FV->Option FV)(x:V)(y:V)(H:Hp)(Q:VK):Prop
 | mk (S:_)(v:_)(w:_)(z:_)(_:Same S H)(_:RH K S H v x)(_:RH K S H w y)(_:f v w=Ψ z)(_:NewOr K S H Q z):Rq K f x y H Q
def sG {g:nE->nE->Sem nE}{f:Int->Int->Option FV}{r:R2}(o:qC X g r)(h:∀ i j z H Q,f i j=Ψ z->(∀ x,(∀ S,RV X.K S z x)->Q x H)->r (.int i) (.int j) H Q)(n:∀ i j z,f i j=Ψ z->∀ ps,z≠.lst ps):qC X g (Rq X.K (qy f)):=by
 intro Z9 s σ H x y u1 u2 Q I rx ry ⟨S,v,w,z,hs,hv,hw,e,k⟩
 let(i,e1,e):=p7 e
 let(j,e2,e):=p7 e
 cases oU e1;cases oU e2
 obtain rfl:=hv.int
 obtain rfl:=hw.int
 exact o Z9 s σ H _ _ u1 u2 Q I rx ry (h i j z H Q e λx hx=>k.old x (n i j z e) (hx S))
def Lh:qC X (binaryOp .Sub) (Rq X.K xR):=sG HR (λi j z H Q e k=>⟨i,j,rfl,rfl,k _ λS=>by cases e;rfl⟩) λi j z e ps=>by cases e;exact λz=>nomatch z
def Hn:qC X (binaryOp .FloorDiv) (Rq X.K yH):=sG Fg (λi j z H Q e k=>⟨i,j,rfl,rfl,(qM e).1,k _ λS=>by cases (qM e).2;rfl⟩) λi j z e ps=>by cases (qM e).2;exact λz=>nomatch z
def Lm:qC X (binaryOp .Mod) (Rq X.K vK):=sG HX (λi j z H Q e k=>⟨i,j,rfl,rfl,(qM e).1,k _ λS=>by cases (qM e).2;rfl⟩) λi j z e ps=>by cases (qM e).2;exact λz=>nomatch z
def Lk:qC X (binaryOp .Pow) (Rq X.K BD):=sG HV (λi j z H Q e k=>⟨i,j,rfl,rfl,by
 let(h1,h2,h3):=(qM e).1
 have:-(2 ^ 64)<i/\i<2 ^ 64:=by simpa[pR] using h3
 exact⟨h1,⋯,⋯⟩,k _ λS=>by cases (qM e).2;rfl⟩) λi j z e ps=>by cases (qM e).2;exact λz=>nomatch z
def OV:qC X (compareOp .Gt) (Rq X.K B2):=sG LH (λi j z H Q e k=>⟨i,j,rfl,rfl,k _ λS=>by cases e;rfl⟩) λi j z e ps=>by cases e;exact λz=>nomatch z
def OX:qC X (compareOp .GtE) (Rq X.K Kp):=sG LI (λi j z H Q e k=>⟨i,j,rfl,rfl,k _ λS=>by cases e;rfl⟩) λi j z e ps=>by cases e;exact λz=>nomatch z
def Hq:qC X (binaryOp .Add) (Rq X.K (qy λi j=>Ψ (.int (i+j)))):=sG HZ (λi j z H Q e k=>⟨i,j,rfl,rfl,k _ λS=>by cases e;rfl⟩) λi j z e ps=>by cases e;exact λz=>nomatch z
def Hm:qC X (binaryOp .Mult) (Rq X.K (qy λi j=>if (pR i || pR j)=Ω then Ψ (.int (i*j)) else Φ)):=sG HW (λi j z H Q e k=>⟨i,j,rfl,rfl,by
 have:=(qM e).1
 simp![pR,iV,decide_eq_true_eq] at this
 exact this,k _ λS=>by cases (qM e).2;rfl⟩) λi j z e ps=>by cases (qM e).2;exact λz=>nomatch z
def CU:qC X (compareOp .Lt) (Rq X.K (qy λi j=>Ψ (.bl (Δ (i<j))))):=sG LF (λi j z H Q e k=>⟨i,j,rfl,rfl,k _ λS=>by cases e;rfl⟩) λi j z e ps=>by cases e;exact λz=>nomatch z
def Ln:qC X (compareOp .LtE) (Rq X.K (qy λi j=>Ψ (.bl (Δ (i<=j))))):=sG LG (λi j z H Q e k=>⟨i,j,rfl,rfl,k _ λS=>by cases e;rfl⟩) λi j z e ps=>by cases e;exact λz=>nomatch z
def Ho {xs ys:List FV}{x y:V}{z:FV}{Z9:List (nP×Obj)}{σ:L2.St}{s:nh}{u1 u2:nE}(I:Inv X Z9 σ H s)(rx:RelV x u1)(ry:RelV y u2)(hs:Same S H)(hv:RH X.K S H (.tup xs) x)(hw:RH X.K S H (.tup ys) y)
  (e:(if xs.length+ys.length<=big then Ψ (FV.tup (xs++ys)) else Φ)=Ψ z)(k:NewOr X.K S H Q z):wpAny (model X.prog X.w) X.A (binaryOp .Add u1 u2) (EP X Z9 σ Q) X.xe s:=by
 let(hc,rfl):=qM e
 let rv:=hv.val rfl
 let rw':=hw.val rfl
 let(a,as,rfl,ha,ra):=hv.tup hs
 let(b,bs,rfl,hb,rb):=hw.tup hs
 let l1:=ra.length
 let l2:=rb.length
 let hl:=ph
 by_cases h0:as=[]
 ·subst h0
  let z2:xs=[]:=al (by simpa using l1)
  subst z2
  exact Dh Z9 s σ H _ _ u1 u2 Q I rx ry ⟨a,b,bs,rfl,rfl,SqT.of ha,SqT.of hb,k.old _ (λ_ z=>nomatch z) rw'⟩
 exact Fh Z9 s σ H _ _ u1 u2 Q I rx ry ⟨a,b,as,bs,rfl,rfl,SqT.of ha,SqT.of hb,h0,⋯,λz=>?_,λ_ p hp=>k.tup _ _ p rfl (ra.append rb) hp⟩
 subst z
 let z2:ys=[]:=al (by simpa using l2)
 subst z2
 exact k.old _ (λ_ z=>nomatch z) (by rw[iQ];exact rv)
def Lr:qC X (binaryOp .Add) (Rq X.K pG):=by
 intro Z9 s σ H x y u1 u2 Q I rx ry ⟨S,v,w,z,hs,hv,hw,e,k⟩
 cases v with
 | tup xs =>
  let(ys,e1,e):=p7 e
  cases pN e1
  exact Ho I rx ry hs hv hw e k
 | lst xs =>
  let(ys,e1,e):=p7 e
  cases qe e1
  let(hc,rfl):=qM e
  let(a,as,rfl,ha,ra):=hv.lst hs
  let(b,bs,rfl,hb,rb):=hw.lst hs
  let l1:=ra.length
  let l2:=rb.length
  let hl:=ph
  exact HY Z9 s σ H _ _ u1 u2 Q I rx ry ⟨a,b,as,bs,rfl,rfl,ha,hb,⋯,λp hp=>k.lst _ _ p rfl (ra.append rb) hp⟩
 | _=>exact Hq Z9 s σ H x y u1 u2 Q I rx ry ⟨S,_,w,z,hs,hv,hw,e,k⟩
def GA:qC X (binaryOp .Mult) (Rq X.K qR):=by
 intro Z9 s σ H x y u1 u2 Q I rx ry ⟨S,v,w,z,hs,hv,hw,e,k⟩
 cases v with
 | lst xs =>
  let(j,e1,e):=p7 e
  cases oU e1
  let(hc,rfl):=qM e
  let(a,as,rfl,ha,ra):=hv.lst hs
  obtain rfl:=hw.int
  let l1:=ra.length
  let hl:=ph
  exact HS Z9 s σ H _ _ u1 u2 Q I rx ry ⟨a,j,as,rfl,rfl,ha,hc.1,hc.2.1,by rw[<- l1];lia,λp hp=>k.lst _ _ p rfl (ra.rep _) hp⟩
 | _=>exact Hm Z9 s σ H x y u1 u2 Q I rx ry ⟨S,_,w,z,hs,hv,hw,e,k⟩
def qo:∀ {ps:List FV}{xs:List V}{ns:List Int},RVs K S ps xs->oM ps=Ψ ns->xs=ns.map V.int
 | [],xs,ns,r,e=>by cases (show xs=[] from r);cases e;rfl
 | p :: ps,xs,ns,r,e=>by
  let(v,q,rfl,h1,h2):=r
  cases p with
  | int i =>
   let(ms,z,rfl):=rW (show (oM ps).map (i :: ·)=Ψ ns from e)
   rw[qo h2 z,kn,show v=.int i from h1]
  | _=>cases e
def sY:∀ {ps:List FV}{xs:List V}{ns:List Bool},RVs K S ps xs->si ps=Ψ ns->xs=ns.map V.bl
 | [],xs,ns,r,e=>by cases (show xs=[] from r);cases e;rfl
 | p :: ps,xs,ns,r,e=>by
  let(v,q,rfl,h1,h2):=r
  cases p with
  | bl i =>
   let(ms,z,rfl):=rW (show (si ps).map (i :: ·)=Ψ ns from e)
   rw[sY h2 z,kn,show v=.bl i from h1]
  | _=>cases e
def Jr {p q:FV}{b:Bool}(e:sJ p q=Ψ b):(∃ d,p=.shn d/\q=.shn d/\b=Ω) ∨ ∃ x y,fD oJ p=Ψ x/\fD oJ q=Ψ y/\b=D.eqv x y:=by
 let gen:QO p q=Ψ b->∃ x y,fD oJ p=Ψ x/\fD oJ q=Ψ y/\b=D.eqv x y:=λe=>by
  let(x,e1,e):=p7 e
  let(y,e2,e):=p7 e
  cases e
  exact⟨x,y,e1,e2,rfl⟩
 unfold sJ at e
 split at e
 ·let(rfl,rfl):=@qM _ _ (bD _) _ _ e
  exact .inl ⟨_,rfl,rfl,rfl⟩
 ·exact .inr (gen e)
def GC (hu:X.A.units+64<cLine)(neg:Bool):qC X (compareOp (if neg then .NotEq else .Eq)) (Rq X.K λp q=>(sJ p q).map λr=>.bl (neg != r)):=by
 intro Z9 s σ H x y v u Q I rx ry ⟨S,p,q,z,hs,rp,rq,e,k⟩
 let(b,e',rfl):=rW (show (sJ p q).map (λr=>FV.bl (neg != r))=Ψ z from e)
 let fin:=k.bl
 rcases Jr e' with⟨d,rfl,rfl,rfl⟩|⟨dx,dy,e1,e2,rfl⟩
 ·obtain rfl:x=.str (sB d).shown:=rp.val rfl
  obtain rfl:y=.str (sB d).shown:=rq.val rfl
  cases neg with
  | false=>exact LJ Z9 s σ H _ _ v u Q I rx ry ⟨rfl,by simpa using fin⟩
  | true=>exact LD Z9 s σ H _ _ v u Q I rx ry ⟨rfl,by simpa using fin⟩
 ·let(as,ra):=rV I hs rp rx e1
  let(bs,rb):=rV I hs rq ry e2
  let hd:X.A.units+min (sB dx).depth (sB dy).depth<cLine:=by
   let h1:=tO e1
   unfold oJ at h1
   lia
  cases neg with
  | false=>exact PySem.SeqAt.compareEq_reads ra rb (sK dx) (sK dy) hd ⟨.bl _,H,I,rfl,by rw[Bg];simpa using fin⟩
  | true=>exact PySem.SeqAt.compareNe_reads ra rb (sK dx) (sK dy) hd ⟨.bl _,H,I,rfl,by rw[Bg];simpa using fin⟩
def Lq (hu:X.A.units+64<cLine):qC X (compareOp .Eq) (Rq X.K vn):=λZ9 s σ H x y v u Q I rx ry q1=>by let(S,p,q,z,hs,rp,rq,e,k):=q1;exact GC hu Ξ Z9 s σ H x y v u Q I rx ry ⟨S,p,q,z,hs,rp,rq,by
 let(b,e1,rfl):=rW e
 show (sJ p q).map _=_
 rw[e1];cases b<;>rfl,k⟩
def Ll (hu:X.A.units+64<cLine):qC X (compareOp .NotEq) (Rq X.K BN):=λZ9 s σ H x y v u Q I rx ry q1=>by let(S,p,q,z,hs,rp,rq,e,k):=q1;exact GC hu Ω Z9 s σ H x y v u Q I rx ry ⟨S,p,q,z,hs,rp,rq,by
 let(b,e1,rfl):=rW e
 show (sJ p q).map _=_
 rw[e1];cases b<;>rfl,k⟩
def GB (hu:X.A.units+64<cLine)(neg:Bool):qC X (compareOp (if neg then .NotIn else .In)) (Rq X.K λp q=>(vF p q).map λr=>.bl (neg != r)):=by
 intro Z9 s σ H x y v u Q I rx ry ⟨S,p,q,z,hs,rp,rq,e,k⟩
 let(b,e',rfl):=rW (show (vF p q).map (λr=>FV.bl (neg != r))=Ψ z from e)
 let fin:=k.bl
 let(dx,e1,e'):=p7 e'
 let(dy,e2,e'):=p7 e'
 let(as,ra):=rV I hs rp rx e1
 let(bs,rb):=rV I hs rq ry e2
 let hd:∀ ys,X.A.units+1+min (ik (dPys ys)) (sB dx).depth<cLine:=λys=>by
  let h1:=tO e1
  unfold oJ at h1
  lia
 cases dy with
 | lst ys =>
  cases e'
  simp![sB] at rb
  cases neg with
  | false=>exact PySem.SeqAt.in_list_reads rb ra (d_lays ys) (sK dx) (hd ys) ⟨.bl _,H,I,rfl,by rw[yO];simpa using fin⟩
  | true=>exact PySem.SeqAt.notIn_list_reads rb ra (d_lays ys) (sK dx) (hd ys) ⟨.bl _,H,I,rfl,by rw[yO];simpa using fin⟩
 | tup ys =>
  cases e'
  simp![sB] at rb
  cases neg with
  | false=>exact PySem.SeqAt.in_tuple_reads rb ra (d_lays ys) (sK dx) (hd ys) ⟨.bl _,H,I,rfl,by rw[yO];simpa using fin⟩
  | true=>exact PySem.SeqAt.notIn_tuple_reads rb ra (d_lays ys) (sK dx) (hd ys) ⟨.bl _,H,I,rfl,by rw[yO];simpa using fin⟩
 | _=>cases e'
def OU (hu:X.A.units+64<cLine):qC X (compareOp .In) (Rq X.K inB):=λZ9 s σ H x y v u Q I rx ry q1=>by let(S,p,q,z,hs,rp,rq,e,k):=q1;exact GB hu Ξ Z9 s σ H x y v u Q I rx ry ⟨S,p,q,z,hs,rp,rq,by
 let(b,e1,rfl):=rW e
 show (vF p q).map _=_
 rw[e1];cases b<;>rfl,k⟩
def OT (hu:X.A.units+64<cLine):qC X (compareOp .NotIn) (Rq X.K niB):=λZ9 s σ H x y v u Q I rx ry q1=>by let(S,p,q,z,hs,rp,rq,e,k):=q1;exact GB hu Ω Z9 s σ H x y v u Q I rx ry ⟨S,p,q,z,hs,rp,rq,by
 let(b,e1,rfl):=rW e
 show (vF p q).map _=_
 rw[e1];cases b<;>rfl,k⟩
def Gm {ps:List FV}{xs:List V}{i:Int}{p:FV}(r:RVs K S ps xs)(e:Cp ps i=Ψ p):∃ v,L2.atI xs i=Ψ v/\RV K S p v:=by
 let(j,e1,e2):=p7 e
 let(v,h1,h2):=r.get e2
 exact⟨v,?_,h2⟩
 show (L2.ixN xs.length i).bind (λj=>xs[j]?)=Ψ v
 rw[<- r.length,show L2.ixN ps.length i=Ψ j from e1]
 exact h1
inductive Ri (K:kP)(x:V)(y:V)(H:Hp)(Q:VK):Prop
 | mk (S:_)(v:_)(w:_)(z:_)(_:Same S H)(_:RH K S H v x)(_:RH K S H w y)(_:pY v w=Ψ z)(_:∀ u,RV K S z u->Q u H):Ri K x y H Q
def Lo:Oz X (Ri X.K):=by
 intro value slice Z9 s σ H x y v u Q I rx ry ⟨S,p,q,z,hs,rp,rq,e,k⟩ hsl
 let(j,e1,e3):=p7 e
 let(ps,e2,e4):=p7 e3
 cases oU e1
 obtain rfl:=rq.int
 let(a,xs,rfl,hq,r):=rp.seq hs e2
 let(w,h1,h2):=Gm r e4
 cases hb:LW p with
 | true=>rw[hb] at hq;exact FJ value slice Z9 s σ H _ _ v u Q I rx ry ⟨a,xs,j,w,rfl,rfl,hq,h1,k w h2⟩ hsl
 | false=>rw[hb] at hq;exact Iz value slice Z9 s σ H _ _ v u Q I rx ry ⟨a,xs,j,w,rfl,rfl,hq,h1,k w h2⟩ hsl
def wR (n d:Nat)(o:Option Int):Kq.sIx n d o=HT.sIx n d o:=by
 cases o with
 | none=>rfl
 | some v=>simp![Kq.sIx,HT.sIx];try (split<;>split<;>lia)
def xB {ps:List FV}{xs:List V}{lo hi:Option Int}(r:RVs K S ps xs):RVs K S (qi ps lo hi) (yR xs lo hi):=by
 unfold qi yR
 rw[wR,wR,r.length]
 exact (r.drop _).take _
inductive Rsl (K:kP)(x:V)(lo:Option Int)(hi:Option Int)(H:Hp)(Q:VK):Prop
 | mk (S:_)(v:_)(z:_)(_:Same S H)(_:RH K S H v x)(_:rS v lo hi=Ψ z)(_:NewOr K S H Q z):Rsl K x lo hi H Q
def Lj:KF X (Rsl X.K):=by
 intro Z9 s σ H x v vl vu lo hi sl Q I rx hsl pl pu ⟨S,p,z,hs,rp,e,k⟩
 cases p with
 | tup ps =>
  cases e
  let rv:=rp.val rfl
  let(a,xs,rfl,ha,ra):=rp.tup hs
  by_cases hc:HT.sIx xs.length 0 lo=0/\HT.sIx xs.length xs.length hi=xs.length
  ·exact CL Z9 s σ H _ v vl vu lo hi sl Q I rx hsl pl pu ⟨a,xs,rfl,SqT.of ha,hc.1,hc.2,k.old _ (λ_ z=>nomatch z) ?_⟩
   let e:qi ps lo hi=ps:=by
    unfold qi
    rw[wR,wR,ra.length,hc.1,hc.2,jy,Nat.sub_zero,bM (kZ ra.length)]
   rw[e];exact rv
  ·exact Hc Z9 s σ H _ v vl vu lo hi sl Q I rx hsl pl pu ⟨a,xs,rfl,SqT.of ha,hc,λp hp=>k.tup _ _ p rfl (xB ra) hp⟩
 | lst ps =>
  cases e
  let(a,xs,rfl,ha,ra):=rp.lst hs
  exact Al Z9 s σ H _ v vl vu lo hi sl Q I rx hsl pl pu ⟨a,xs,rfl,SqL.of ha,λp hp=>k.lst _ _ p rfl (xB ra) hp⟩
 | _=>cases e
end
section
variable {X:Cx}{K:kP}{S H:Hp}{Q:VK}
inductive Rc (K:kP)(f:FV->Option FV)(xs:List V)(H:Hp)(Q:VK):Prop
 | mk (S:_)(v:_)(x:_)(z:_)(_:xs=[x])(_:Same S H)(_:RH K S H v x)(_:f v=Ψ z)(_:NewOr K S H Q z):Rc K f xs H Q
inductive Rc2 (K:kP)(f:FV->FV->Option FV)(xs:List V)(H:Hp)(Q:VK):Prop
 | mk (S:_)(v:_)(w:_)(x:_)(y:_)(z:_)(_:xs=[x,y])(_:Same S H)(_:RH K S H v x)(_:RH K S H w y)(_:f v w=Ψ z)(_:NewOr K S H Q z):Rc2 K f xs H Q
def Gx {b:Bool}{a:nP}{xs:List V}(h:vD b K H a xs):SqL K H a xs ∨ SqT K H a xs:=by cases b;exact .inr h;exact .inl h
def MJ:oR X (.builtin "len") (Rc X.K qI):=by
 rintro Z9 s σ H xs us Q I r ⟨S,v,x,z,rfl,hs,rv,e,k⟩
 let(ps,e1,rfl):=rW e
 let(a,ys,rfl,hq,ry):=rv.seq hs e1
 exact xG Z9 s σ H _ us Q I r ⟨a,ys,rfl,Gx hq,?_⟩
 rw[<- ry.length]
 exact k.int
def MN:oR X (.builtin "abs") (Rc X.K Em):=by
 rintro Z9 s σ H xs us Q I r ⟨S,v,x,z,rfl,hs,rv,e,k⟩
 let(i,e1,rfl):=rW e
 cases oU e1
 obtain rfl:=rv.int
 exact Eb Z9 s σ H _ us Q I r ⟨i,rfl,k.int⟩
def MK:oR X (.type "int") (Rc X.K qQ):=by
 rintro Z9 s σ H xs us Q I r ⟨S,v,x,z,rfl,hs,rv,e,k⟩
 cases v with
 | int i =>
  cases e
  obtain rfl:=rv.int
  exact wE Z9 s σ H _ us Q I r (.inl ⟨i,rfl,k.int⟩)
 | bl b =>
  cases e
  obtain rfl:=rv.bl
  exact wE Z9 s σ H _ us Q I r (.inr ⟨b,rfl,k.int⟩)
 | _=>cases e
def Ge:oR X (.type "tuple") (Rc X.K pQ):=by
 rintro Z9 s σ H xs us Q I r ⟨S,v,x,z,rfl,hs,rv,e,k⟩
 let(ps,e1,rfl):=rW e
 let(a,ys,rfl,hq,ry):=rv.seq hs e1
 cases v with
 | tup qs=>cases e1;exact qS Z9 s σ H _ us Q I r ⟨a,ys,rfl,.inr ⟨hq,k.old _ (λ_ z=>nomatch z) (rv.val rfl)⟩⟩
 | lst qs=>exact qS Z9 s σ H _ us Q I r ⟨a,ys,rfl,.inl ⟨hq,λl hl=>k.tup _ _ l rfl ry hl⟩⟩
 | scr qs=>exact qS Z9 s σ H _ us Q I r ⟨a,ys,rfl,.inl ⟨hq,λl hl=>k.tup _ _ l rfl ry hl⟩⟩
 | _=>cases e1
def Ee:oR X (.type "list") (Rc X.K qL):=by
 rintro Z9 s σ H xs us Q I r ⟨S,v,x,z,rfl,hs,rv,e,k⟩
 let(ps,e1,rfl):=rW e
 let(a,ys,rfl,hq,ry):=rv.seq hs e1
 exact xF Z9 s σ H _ us Q I r ⟨a,ys,rfl,Gx hq,λl hl=>k.lst _ _ l rfl ry hl⟩
def JD (hc:X.calm=Ω):oR X (.builtin "max") (Rc2 X.K yr):=by
 rintro Z9 s σ H xs us Q I r ⟨S,v,w,x,y,z,rfl,hs,rv,rw',e,k⟩
 let(i,e1,e2):=p7 e
 let(j,e3,e4):=p7 e2
 cases oU e1;cases oU e3;cases e4
 obtain rfl:=rv.int
 obtain rfl:=rw'.int
 exact Ch hc Z9 s σ H _ us Q I r ⟨i,j,rfl,k.int⟩
def Vals.mapInt {ns:List Int}:∀ {us:List nE},Vals (ns.map V.int) us->∀ i:Nat,i<ns.length->∃ t,us[i]?=Ψ (.int (ns.getD i 0) t):=λ{us} r i hi=>by
 let(u,e,t,rfl):=r.get (i:=i) (x:=.int (ns.getD i 0)) (by simp[hi])
 exact⟨t,e⟩
def qv (ns:List Int):∀ j,j<=ns.length->preSum (λi=>ns.getD i 0) j=(ns.take j).sum
 | 0,_=>by simp[preSum]
 | j+1,h=>by
  let hj:j<ns.length:=h
  show preSum _ j+ns.getD j 0=_
  rw[qv ns j ⋯,af hj,iz]
  simp[mC,hj]
def zh (B:Int)(hB:0<=B):∀ ns:List Int,(∀ n∈ns,-B<=n/\n<=B)->-(B*ns.length)<=ns.sum/\ns.sum<=B*ns.length
 | [],_=>by simp
 | n :: r,h=>by
  let ih:=zh B hB r λm hm=>h m (cJ _ hm)
  let hn:=h n dO
  rw[kh,gC]
  let e:B*((r.length+1:Nat):Int)=B*(r.length:Int)+B:=by rw[iR,Int.mul_add];simp
  rw[e]
  lia
def z0 (hc:X.calm=Ω):oR X (.builtin "sum") (λxs H Q=>∃ (a:nP)(ns:List Int),xs=[.ref a]/\SqL X.K H a (ns.map V.int)/\ns.length<=big/\(∀ n∈ns,-(2 ^ 40)<=n/\n<=2 ^ 40)/\Q (.int ns.sum) H):=by
 intro Z9 s σ H xs us Q I r h
 let(a,ns,rfl,hq,hz,hb,q):=h
 let(u,rfl,rx):=vals1 r
 cases rx
 let(Z7,r',pl,hz'):=I.list hq
 let hlen:ns.length=Z7.length:=by have:=r'.length;simpa using this
 let alt:a<s.heap.objs.size:=by let(_,e,_):=pl.isList;exact lg e
 let hh:X.A.in1.handled=Φ:=I.ok.hd hc
 exact jR (eJ pl.isList ?_)
 exact⟨s.heap.objs.size,_,_,_,_,_,λi=>ns.getD i 0,rfl,lW hh s.heap.objs.size a (kU alt) Z7.toArray,⟨⟨_,dc _ rfl,rfl,rfl⟩,pl.isList.at λo e=>bS _ e⟩,?_,?_,?_,?_⟩
 ·intro b hb'
  simp at hb'
  rcases hb' with rfl|rfl
  ·show _<(s.heap.push _).objs.size;rw[jA];exact gk _
  ·show _<(s.heap.push _).objs.size;rw[jA];exact fg alt
 ·intro i v hv
  let hv:Z7.toArray[i]?=Ψ v:=hv
  let hi:i<ns.length:=by rw[hlen];simpa using (aN.mp hv).1
  let(t,e):=Vals.mapInt r' i hi
  exact⟨t,?_⟩
  let e':Z7.toArray[i]?=Ψ (.int (ns.getD i 0) t):=by simpa using e
  rw[hv] at e'
  exact ip e'
 ·intro j hj
  let hj':j<ns.length:=by rw[hlen];simpa using hj
  let hm:ns.getD j 0∈ns:=by simp[mC,hj']
  exact⟨?_,?_⟩
  ·have:=hb _ hm
   show -(2 ^ 63)<=ns.getD j 0/\ns.getD j 0<2 ^ 63
   lia
  ·rw[qv ns (j+1) hj']
   let b2:=zh 1099511627776 (·) (ns.take (j+1)) λn hn=>by have:=hb n (cF hn);lia
   let l2:(ns.take (j+1)).length<=100000:=by rw[gz];unfold big at hz;lia
   unfold InLong;lia
 ·intro h' tk t' hk
  let e:preSum (λi=>ns.getD i 0) Z7.toArray.size=ns.sum:=by
   rw[fk,<- hlen,qv ns _ (lJ _),gr]
  rw[e]
  exact⟨.int ns.sum,H,?_,⟨t',rfl⟩,q⟩
  exact I.kept (t':=tk) λb o e=>hk b o (by simp;exact kU (lg e)) (bS _ e)
def xQ {prog:mX}{w:nC}{A:nB}{Z7:List nE}{bs:List Bool}(r:Vals (bs.map V.bl) Z7):TruthOf prog w A (λi v=>Z7.toArray[i]?=Ψ v) (λi=>bs.getD i Ξ):=by
 intro i v s Q E hv hq
 let hlen:bs.length=Z7.length:=by have:=r.length;simpa using this
 let hi:i<bs.length:=by rw[hlen];simpa using (aN.mp hv).1
 let(u,e,ru):=r.get (i:=i) (x:=.bl (bs.getD i Ξ)) (by simp[hi])
 let e':Z7.toArray[i]?=Ψ u:=by simpa using e
 rw[hv] at e'
 cases e'
 cases ru
 exact lP hq
def BB (bs:List Bool):(mm bs.length).all (λi=>bs.getD i Ξ)=bs.all id:=by
 rw[iW]
 simp![gK,jv,id]
 constructor
 ·intro h b hb
  let(i,hi,e):=cI.mp hb
  have:=h i hi
  simpa[mC,hi,e] using this
 ·intro h i hi
  have:=h bs[i] (gD hi)
  simpa[mC,hi] using this
def BA (bs:List Bool):(mm bs.length).any (λi=>bs.getD i Ξ)=bs.any id:=by
 rw[iW]
 simp![gJ,jv,id]
 constructor
 ·rintro⟨i,hi,e⟩
  exact⟨bs[i],gD hi,by simpa[mC,hi] using e⟩
 ·rintro⟨b,hb,e⟩
  let(i,hi,e'):=cI.mp hb
  exact⟨i,hi,by simpa[mC,hi,e'] using e⟩
def Ac (hc:X.calm=Ω):oR X (.builtin "all") (λxs H Q=>∃ (a:nP)(bs:List Bool),xs=[.ref a]/\SqL X.K H a (bs.map V.bl)/\Q (.bl (bs.all id)) H):=by
 intro Z9 s σ H xs us Q I r h
 let(a,bs,rfl,hq,q):=h
 let(u,rfl,rx):=vals1 r
 cases rx
 let(Z7,r',pl,hz'):=I.list hq
 let hlen:bs.length=Z7.length:=by have:=r'.length;simpa using this
 let alt:a<s.heap.objs.size:=by let(_,e,_):=pl.isList;exact lg e
 let hh:X.A.in1.handled=Φ:=I.ok.hd hc
 exact call_all_walk (eJ pl.isList ?_)
 exact⟨s.heap.objs.size,_,_,_,_,_,λi=>bs.getD i Ξ,rfl,lW hh s.heap.objs.size a (kU alt) Z7.toArray,⟨⟨_,dc _ rfl,rfl,rfl⟩,pl.isList.at λo e=>bS _ e⟩,xQ r',?_⟩
 intro h' tk hk
 rw[fk,<- hlen,BB]
 exact⟨.bl _,H,I.kept (t':=tk) λb o e=>hk b o (by simp;exact kU (lg e)) (bS _ e),rfl,q⟩
def Ab (hc:X.calm=Ω):oR X (.builtin "any") (λxs H Q=>∃ (a:nP)(bs:List Bool),xs=[.ref a]/\SqL X.K H a (bs.map V.bl)/\Q (.bl (bs.any id)) H):=by
 intro Z9 s σ H xs us Q I r h
 let(a,bs,rfl,hq,q):=h
 let(u,rfl,rx):=vals1 r
 cases rx
 let(Z7,r',pl,hz'):=I.list hq
 let hlen:bs.length=Z7.length:=by have:=r'.length;simpa using this
 let alt:a<s.heap.objs.size:=by let(_,e,_):=pl.isList;exact lg e
 let hh:X.A.in1.handled=Φ:=I.ok.hd hc
 exact call_any_walk (eJ pl.isList ?_)
 exact⟨s.heap.objs.size,_,_,_,_,_,λi=>bs.getD i Ξ,rfl,lW hh s.heap.objs.size a (kU alt) Z7.toArray,⟨⟨_,dc _ rfl,rfl,rfl⟩,pl.isList.at λo e=>bS _ e⟩,xQ r',?_⟩
 intro h' tk hk
 rw[fk,<- hlen,BA]
 exact⟨.bl _,H,I.kept (t':=tk) λb o e=>hk b o (by simp;exact kU (lg e)) (bS _ e),rfl,q⟩
def Ed (hc:X.calm=Ω):oR X (.builtin "sum") (Rc X.K wN):=by
 rintro Z9 s σ H xs us Q I r ⟨S,v,x,z,rfl,hs,rv,e,k⟩
 let(ps,e1,e2):=p7 e
 let(n,e3,rfl):=rW e2
 let(ns,e4,e5):=p7 e3
 let(hb,rfl):=qM e5
 let(a,ys,rfl,hq,ry):=rv.list hs e1
 cases qo ry e4
 exact z0 hc Z9 s σ H _ us Q I r ⟨a,ns,rfl,hq,hb.1,λn hn=>?_,k.int⟩
 have:=gK.mp hb.2 n hn
 simpa[ur] using this
def MM (hc:X.calm=Ω):oR X (.builtin "all") (Rc X.K xK):=by
 rintro Z9 s σ H xs us Q I r ⟨S,v,x,z,rfl,hs,rv,e,k⟩
 let(ps,e1,e2):=p7 e
 let(bs,e3,rfl):=rW e2
 let(a,ys,rfl,hq,ry):=rv.list hs e1
 cases sY ry e3
 exact Ac hc Z9 s σ H _ us Q I r ⟨a,bs,rfl,hq,k.bl⟩
def ML (hc:X.calm=Ω):oR X (.builtin "any") (Rc X.K Go):=by
 rintro Z9 s σ H xs us Q I r ⟨S,v,x,z,rfl,hs,rv,e,k⟩
 let(ps,e1,e2):=p7 e
 let(bs,e3,rfl):=rW e2
 let(a,ys,rfl,hq,ry):=rv.list hs e1
 cases sY ry e3
 exact Ab hc Z9 s σ H _ us Q I r ⟨a,bs,rfl,hq,k.bl⟩
def va:∀ (xs:List Int) (b x:Int),pS b (xs++[x])=if x<pS b xs then x else pS b xs
 | [],b,x=>rfl
 | y :: ys,b,x=>by
  show pS (if y<b then y else b) (ys++[x])=_
  rw[va ys];rfl
def wa (n:Int)(r:List Int):∀ k,k<=r.length->(n :: r)[argBest (λi j=>Δ ((n :: r).getD i 0<(n :: r).getD j 0)) k]?=Ψ (pS n (r.take k))
 | 0,_=>rfl
 | k+1,h=>by
  let ih:=wa n r k ⋯
  let hk:k<r.length:=h
  let e1:(n :: r).getD (argBest (λi j=>Δ ((n :: r).getD i 0<(n :: r).getD j 0)) k) 0=pS n (r.take k):=by rw[aF,ih];rfl
  let e2:(n :: r).getD (k+1) 0=r[k]:=by simp[mC,hk]
  rw[af hk,va]
  simp![argBest,e1,e2,decide_eq_true_eq]
  split
  ·simp[hk]
  ·exact ih
def JC (hc:X.calm=Ω):oR X (.builtin "min") (Rc X.K AB):=by
 rintro Z9 s σ H xs us Q I r ⟨S,v,x,z,rfl,hs,rv,e,k⟩
 let(ps,e1,e2):=p7 e
 let(ns,e3,e4):=p7 e2
 let(a,ys,rfl,hq,ry):=rv.list hs e1
 let(u,rfl,ru):=vals1 r
 cases (show u=Value.ref a from ru)
 let(Z7,r',pl,hz'):=I.list hq
 let hh:X.A.in1.handled=Φ:=I.ok.hd hc
 let hlen:ys.length=Z7.length:=r'.length
 cases qo ry e3
 cases ns with
 | nil=>cases e4
 | cons n r =>
  cases e4
  let hl2:Z7.length=r.length+1:=by rw[<- hlen];simp
  let it:∀ (i:Nat)(v:nE),Z7.toArray[i]?=Ψ v->∃ t,v=Value.int ((n :: r).getD i 0) t:=λi v hv=>by
   let hv:Z7[i]?=Ψ v:=by simpa using hv
   let hi:=(aR.mp hv).1
   let(t,e):=Vals.mapInt r' i (by simp;lia)
   rw[hv] at e
   exact⟨t,ip e⟩
  exact z9 (bt:=λi j=>Δ ((n :: r).getD i 0<(n :: r).getD j 0)) hh pl.isList (by simp;lia) (λi j u v s1 Q1 E1 _ hi hj q1=>?_) λv h' tk hv hk=>?_
  ·let(t1,rfl):=it i u hi
   let(t2,rfl):=it j v hj
   exact cW q1
  ·let hv:Z7[argBest (λi j=>Δ ((n :: r).getD i 0<(n :: r).getD j 0)) (Z7.toArray.size-1)]?=Ψ v:=by simpa using hv
   let hb:=wa n r r.length (lJ _)
   rw[gr] at hb
   let hsz:Z7.toArray.size-1=r.length:=by simp;lia
   rw[hsz] at hv
   generalize argBest (λi j=>Δ ((n :: r).getD i 0<(n :: r).getD j 0)) r.length=z at hv hb
   let(t,rfl):=it z v (by simpa using hv)
   rw[aF,hb]
   exact⟨.int (pS n r),H,I.kept (t':=tk) hk,⟨t,rfl⟩,k.int⟩
def xS (hu:X.A.units+64<cLine)(hg:X.A.guards=Ψ []){Z9:List (nP×Obj)}{s:nh}{σ:L2.St}{v z:FV}{a:nP}(I:Inv X Z9 σ H s)(hs:Same S H)(rv:RH X.K S H v (.ref a))(e:Hd v=Ψ z)(k:NewOr X.K S H Q z):wpAny (model X.prog X.w) X.A (lZ (.type "str") [.ref a]) (EP X Z9 σ Q) X.xe s:=by
 let(d,e1,e2):=p7 e
 let(hf,rfl):=qM e2
 let(as,ra):=rV I hs rv (show RelV (.ref a) (.ref a) from rfl) e1
 let hdp:=tO e1
 unfold oJ at hdp
 exact str_of_reads (h₀:=s.heap) ra (D5 d hf.1).1 (λz=>by rw[yN] at z;cases z) hg ⋯ (λ_ _ h=>h) (λh' u' tk hk=>?_) (Gb hf.1 hf.2)
 exact⟨.str (sB d).shown,H,I.kept (t':=tk) hk,⟨u',rfl⟩,k.old _ (λ_ z=>nomatch z) rfl⟩
def MI (hu:X.A.units+64<cLine)(hg:X.A.guards=Ψ []):oR X (.type "str") (Rc X.K CI):=by
 rintro Z9 s σ H xs us Q I r ⟨S,v,x,z,rfl,hs,rv,e,k⟩
 let(u,rfl,ru):=vals1 r
 cases v with
 | int i =>
  let(hc,rfl):=qM e
  obtain rfl:=rv.int
  exact xE Z9 s σ H _ _ Q I r ⟨i,rfl,by have:=log2_lt (k:=150) (·) hc;lia,k.str⟩
 | non =>
  cases e
  cases (show x=.non from rv.val rfl);cases (show u=_ from ru)
  exact PySem.P.str_of_none ⟨.str _,H,I.tok _,⟨_,rfl⟩,k.str⟩
 | bl b =>
  cases e
  obtain rfl:=rv.bl
  cases (show u=_ from ru)
  exact PySem.P.str_of_bool ⟨.str (kL (if b then "True" else "False")),H,I.tok _,⟨_,by cases b<;>rfl⟩,k.str⟩
 | str x =>
  cases e
  cases (show _=V.str _ from rv.val rfl);let(t,rfl):=ru
  exact PySem.P.str_of_str ⟨.str _,H,I,⟨_,rfl⟩,k.str⟩
 | tup xs =>
  let(a,ys,rfl,_):=rv.tup hs
  cases (show u=_ from ru)
  exact xS hu hg I hs rv e k
 | lst xs =>
  let(a,ys,rfl,_):=rv.lst hs
  cases (show u=_ from ru)
  exact xS hu hg I hs rv e k
 | _=>cases e
end
structure CC where
 N:List Str
 sc:List (Str×mT)
 fns:List Str
 md:Md
 top:Bool
 oc:List (Str×mT)
 ms:List (Str×nP×Str)
 fl:List (nP×Str)
abbrev CC.vis (C:CC)(x:Str):Bool:=match C.sc.lookup x with
 | some .local=>Ω
 | some .cell=>Ω
 | some .free=>Ω
 | _=>Ξ
abbrev CC.gl (C:CC)(x:Str):Bool:=Δ (C.sc.lookup x=Ψ .globalImplicit)
abbrev CC.loc (C:CC)(x:Str):Bool:=match C.sc.lookup x with
 | some .local=>Ω
 | some .cell=>C.top || C.oc.lookup x == Ψ .cell
 | _=>Ξ
abbrev CC.nm (C:CC) (i:Nat)(x:Str):Bool:=Δ (C.N[i]?=Ψ x) && C.vis x && !(x == ("__debug__":Str)) && !(x == ("__classdict__":Str))
inductive MtOk (P:mX)(w:nC)(K:kP)(mg:Str->Option nE)(base:nM) (n:Nat)(s:Sp)(c:Str)(Ca:nP)(m:Str):Prop
 | mk (fa:_)(fd:_)(ps:_)(_:mg c=Ψ (.ref Ca))(_:Cls K Ca)(_:(m=("__init__":Str)->Mk K Ca fa))(_:(m≠("__init__":Str)->Meth K Ca m fa))(_:Binds K fd ps [])(_:FnOk P w K mg base Et n fa fd ps s):MtOk P w K mg base n s c Ca m
structure Good (X:Cx)(C:CC) (n:Nat)(sp:kP->Nat->Sp):Prop where
 N:X.N=C.N
 sc:X.env.scope.names=C.sc
 kind:X.env.scope.kind=.function
 nd:C.N.Nodup
 calm:X.calm=Ω
 fn:∀ x,(C.top || C.oc.lookup x == Ψ .cell)=Ω->X.fn x=Ω
 room:RoomS n X.A
 fns:∀ (f:Nat)(x:Str),C.fns[f]?=Ψ x->∃ fa fd ps,X.mg x=Ψ (.ref fa)/\jm X.K (.ref fa)=Ω/\Binds X.K fd ps []/\FnOk X.prog X.w X.K X.mg X.base Et n fa fd ps (sp X.K f)
 blt:∀ b∈bltNames,X.mg (kL b)=Φ
 mts:∀ (k:Nat)(c:Str)(Ca:nP)(m:Str),C.ms[k]?=Ψ (c,Ca,m)->MtOk X.prog X.w X.K X.mg X.base n (sp X.K (C.fns.length+k)) c Ca m
 fls:∀ p∈C.fl,Cls X.K p.1/\xM X.K p.1 p.2
def b2 {a b:Bool}(h:(a && b)=Ω):a=Ω/\b=Ω:=by simpa using h
def nb {a:Bool}(h:(!a)=Ω):a=Ξ:=by simpa using h
def de {p:Prop} [Decidable p] (h:decide p=Ω):p:=by simpa using h
inductive lv (K:kP)(md:Md)(e:EW)(σ:L2.St)(H:Hp)(Q:VK):Prop
 | mk (c:_)(L:_)(S:_)(Q0:_)(_:Iv K c md L σ S H)(_:e L Q0)(_:∀ v L',Q0 v L'->∀ x S' H',RV K S' v x->Iv K c md L' σ S' H'->Same S S'->Q x H'):lv K md e σ H Q
inductive lr (K:kP)(md:Md)(e:EW)(σ:L2.St)(H:Hp)(Q:VK):Prop
 | mk (c:_)(L:_)(S:_)(Q0:_)(_:Iv K c md L σ S H)(_:e L Q0)(_:∀ v L',Q0 v L'->∀ x S' H',RH K S' H' v x->Iv K c md L' σ S' H'->Same S S'->Q x H'):lr K md e σ H Q
abbrev sk (c:Cn)(md:Md)(L:nT)(σ:L2.St)(a:nP):Prop:=c.H0 a=Φ/\(∀ p∈c.pr,p.1≠a)/\∀ j w,nW md j≠.imm->L[j]?=Ψ (Ψ w)->σ[j]?≠Ψ (Ψ (.ref a))
inductive lf (K:kP)(md:Md)(e:EW)(σ:L2.St)(H:Hp)(Q:VK):Prop
 | mk (c:_)(L:_)(S:_)(Q0:_)(_:Iv K c md L σ S H)(_:e L Q0)(_:∀ v L',Q0 v L'->∀ a S' H',OwnAt K S' H' a v->sk c md L' σ a->Iv K c md L' σ S' H'->Same S S'->Q (.ref a) H'):lf K md e σ H Q
inductive lb (K:kP)(md:Md)(e:BW)(σ:L2.St)(H:Hp)(Q:Bool->Hp->Prop):Prop
 | mk (c:_)(L:_)(S:_)(Q0:_)(_:Iv K c md L σ S H)(_:e L Q0)(_:∀ v L',Q0 v L'->∀ S' H',Iv K c md L' σ S' H'->Same S S'->Q v H'):lb K md e σ H Q
inductive la (K:kP)(md:Md)(e:AW)(σ:L2.St)(H:Hp)(Q:List V->Hp->Prop):Prop
 | mk (c:_)(L:_)(S:_)(Q0:_)(_:Iv K c md L σ S H)(_:e L Q0)(_:∀ v L',Q0 v L'->∀ x S' H',RVs K S' v x->Iv K c md L' σ S' H'->Same S S'->Q x H'):la K md e σ H Q
inductive lo (K:kP)(md:Md)(e:OW)(σ:L2.St)(H:Hp)(Q:Option Int->Hp->Prop):Prop
 | mk (c:_)(L:_)(S:_)(Q0:_)(_:Iv K c md L σ S H)(_:e L Q0)(_:∀ v L',Q0 v L'->∀ S' H',Iv K c md L' σ S' H'->Same S S'->Q v H'):lo K md e σ H Q
abbrev FE (X:Cx)(C:CC)(x:Expr)(e:EW):Prop:=PE X.nox x (lv X.K C.md e)
abbrev FR (X:Cx)(C:CC)(x:Expr)(e:EW):Prop:=PE X.nox x (lr X.K C.md e)
abbrev FF (X:Cx)(C:CC)(x:Expr)(e:EW):Prop:=PE X.nox x (lf X.K C.md e)
abbrev FB (X:Cx)(C:CC)(x:Expr)(e:BW):Prop:=PT X.nox x (lb X.K C.md e)
abbrev FW (X:Cx)(C:CC)(x:Expr)(e:BW):Prop:=PW X.nox x (lb X.K C.md e)
abbrev FA (X:Cx)(C:CC)(x:List Expr)(e:AW):Prop:=PA X.nox x (la X.K C.md e)
abbrev FO (X:Cx)(C:CC)(x:Option Expr)(e:OW):Prop:=L2.PO X.nox x (lo X.K C.md e)
section
variable {X:Cx}
def PE.imp {e:Expr}{t u:TE}(h:PE X e t)(f:∀ σ H Q,u σ H Q->t σ H Q):PE X e u:=λZ9 s σ H Q I hu=>h Z9 s σ H Q I (f σ H Q hu)
def PT.imp {e:Expr}{t u:TT}(h:PT X e t)(f:∀ σ H Q,u σ H Q->t σ H Q):PT X e u:=λZ9 s σ H Q I hu=>h Z9 s σ H Q I (f σ H Q hu)
def PW.imp {e:Expr}{t u:TT}(h:PW X e t)(f:∀ σ H Q,u σ H Q->t σ H Q):PW X e u:=λw Z9 s σ H Q I hu=>h w Z9 s σ H Q I (f σ H Q hu)
def PA.imp {e:List Expr}{t u:TA}(h:PA X e t)(f:∀ σ H Q,u σ H Q->t σ H Q):PA X e u:=λp Z9 s σ H Q I hu=>h p Z9 s σ H Q I (f σ H Q hu)
def PO.imp {e:Option Expr}{t u:TO}(h:L2.PO X e t)(f:∀ σ H Q,u σ H Q->t σ H Q):L2.PO X e u:=λZ9 s σ H Q I hu=>h Z9 s σ H Q I (f σ H Q hu)
end
section
variable {X:Cx}{C:CC}{n:Nat}{sp:kP->Nat->Sp}
def Good.vis (G:Good X C n sp){x:Str}(h:C.vis x=Ω):KE X.env.scope x:=by
 unfold CC.vis at h
 unfold KE
 rw[G.sc]
 split at h
 ·rename_i e;exact .inl e
 ·rename_i e;exact .inr (.inl e)
 ·rename_i e;exact .inr (.inr e)
 ·cases h
def Good.gl (G:Good X C n sp){x:Str}(h:C.gl x=Ω):Gl X x:=by
 show X.env.scope.names.lookup x=_
 rw[G.sc];exact de h
def Good.loc (G:Good X C n sp){x:Str}(h:C.loc x=Ω):L2.Loc X.env.scope x/\(X.fn x=Ω ∨ X.env.scope.names.lookup x=Ψ .local):=by
 unfold CC.loc at h
 unfold L2.Loc
 rw[G.sc]
 split at h
 ·rename_i e;exact⟨.inl e,.inr e⟩
 ·rename_i e;exact⟨.inr e,.inl (G.fn x h)⟩
 ·cases h
variable {K:kP}{c:Cn}{md:Md}{L:nT}{σ:L2.St}{S H:Hp}
def Iv.rd (I:Iv K c md L σ S H){i:Nat}{v:FV}(e:lk L i=Ψ v):∃ x,σ[i]?=Ψ (Ψ x)/\RH K S H v x:=by
 rw[oZ] at e
 by_cases m:nW md i=.imm
 ·let(x,h1,h2):=I.imm i v m e
  exact⟨x,h1,.inl h2⟩
 ·let(a,h1,h2,_):=I.own i v m e
  exact⟨_,h1,.inr ⟨a,rfl,h2⟩⟩
def ue {Q:VK}{z:FV}(I:Iv K c md L σ S H)(k:∀ x S' H',RV K S' z x->Iv K c md L σ S' H'->Same S S'->Q x H'):NewOr K S H Q z where
 old:=λx _ r=>k x S H r I (Same.refl S)
 tup:=λps xs p e r hp=>k _ _ _ (by rw[e];exact⟨p,xs,rfl,n5,r.mono (oA (I.sn hp))⟩) (I.new hp _) (oA (I.sn hp))
 lst:=λps xs p e r hp=>k _ _ _ (by rw[e];exact⟨p,xs,rfl,n5,r.mono (oA (I.sn hp))⟩) (I.new hp _) (oA (I.sn hp))
def Iv.fresh (I:Iv K c md L σ S H){p:nP}(h:H p=Φ):sk c md L σ p:=by
 exact⟨I.h0 h,λq hq z=>?_,λj w m e z=>?_⟩
 ·rw[<- z,(I.prs q hq).1] at h;cases h
 ·let(a,e1,(_,_,_,_,e2,_),_):=I.own j w m e
  rw[z] at e1;cases e1
  rw[h] at e2;cases e2
def Dm {Q:VK}{z:FV}(I:Iv K c md L σ S H)(hz:∃ ps,z=.lst ps)(k:∀ a S' H',OwnAt K S' H' a z->sk c md L σ a->Iv K c md L σ S' H'->Same S S'->Q (.ref a) H'):NewOr K S H Q z where
 old:=λx n _=>let ⟨ps,e⟩:=hz;absurd e (n ps)
 tup:=λps xs p e r hp=>by let(qs,e2):=hz;rw[e2] at e;cases e
 lst:=λps xs p e r hp=>by subst e;exact k p S _ ⟨I.sn hp,ps,xs,rfl,n5,r⟩ (I.fresh hp) (I.lay hp _) (Same.refl S)
def PP (G:Good X C n sp){i:Nat}{x:Str}{pos:Pos}(h:C.nm i x=Ω)(m:nW C.md i=.imm):FE X C (.Name x pos) (nQ i):=by
 let h:=b2 h;let h1:=b2 h.1;let h2:=b2 h1.1
 exact PE.imp (zA (by show X.N[i]?=_;rw[G.N];exact de h2.1) (G.vis h2.2) (nb h1.2) (nb h.2)) λσ H Q ⟨c,L,S,Q0,I,h,k⟩=>?_
 let(v,e,q):=oS h
 let(x,e1,r):=I.imm i v m ((oZ _ _ _).mp e)
 exact⟨x,e1,k v L q x S H r I (Same.refl S)⟩
def Px (G:Good X C n sp){i:Nat}{x:Str}{pos:Pos}(h:C.nm i x=Ω):FR X C (.Name x pos) (nQ i):=by
 let h:=b2 h;let h1:=b2 h.1;let h2:=b2 h1.1
 exact PE.imp (zA (by show X.N[i]?=_;rw[G.N];exact de h2.1) (G.vis h2.2) (nb h1.2) (nb h.2)) λσ H Q ⟨c,L,S,Q0,I,h,k⟩=>?_
 let(v,e,q):=oS h
 let(x,e1,r):=I.rd e
 exact⟨x,e1,k v L q x S H r I (Same.refl S)⟩
def fr_of {x:Expr}{e:EW}(h:FE X C x e):FR X C x e:=PE.imp h λσ H Q q1=>by let(c,L,S,Q0,I,h,k):=q1;exact⟨c,L,S,Q0,I,h,λv L' q x S' H' r=>k v L' q x S' H' (.inl r)⟩
def IP {x:Expr}{v:FV}{u:V}(h:PE X.nox x (tC u))(r:∀ S,RV X.K S v u):FE X C x (eC v):=PE.imp h λσ H Q q1=>by let(c,L,S,Q0,I,h,k):=q1;exact k v L h u S H (r S) I (Same.refl S)
def Qe {i j pos}:FE X C (.Constant (.int i) j pos) (eC (.int i)):=IP HH λ_=>rfl
def fe_bl {i j pos}:FE X C (.Constant (.bool i) j pos) (eC (.bl i)):=IP Lx λ_=>rfl
def P4 {j pos}:FE X C (.Constant .none j pos) (eC .non):=IP HG λ_=>rfl
section
variable {f:FV->FV->Option FV}{a b:Expr}{ea eb:EW}{pos:Pos}{i:Nat}{x:Str}
def o7 (G:Good X C n sp)(h:C.nm i x=Ω):PE X.nox (.Name x pos) (tVar i):=by
 let h:=b2 h;let h1:=b2 h.1;let h2:=b2 h1.1
 exact zA (by show X.N[i]?=_;rw[G.N];exact de h2.1) (G.vis h2.2) (nb h1.2) (nb h.2)
def Nz {r:R2}{σ:L2.St}{H:Hp}{Q:VK}(hh:∃ (c:Cn)(L:nT)(S:Hp)(Q0:FV->FV->nT->Prop),Iv K c md L σ S H/\ea L (λx L1=>eb L1 λy L2=>Q0 x y L2)/\∀ v w L' S' H' x y,Q0 v w L'->RV K S' v x->RH K S' H' w y->Iv K c md L' σ S' H'->Same S S'->r x y H' Q):G5 r (lv K md ea) (lr K md eb) σ H Q:=by
 let(c,L,S,Q0,I,h,k):=hh
 exact⟨c,L,S,_,I,h,λv L1 hv x S1 H1 r1 I1 s1=>⟨c,L1,S1,_,I1,hv,λw L2 hw y S2 H2 r2 I2 s2=>k v w L2 S2 H2 x y hw (r1.mono s2) r2 I2 (s1.trans s2)⟩⟩
def Pm {r:R2}{σ:L2.St}{H:Hp}{Q:VK}(hh:∃ (c:Cn)(L:nT)(S:Hp)(Q0:FV->FV->nT->Prop),Iv K c md L σ S H/\(wp (lk L i) λ_=>eb L λy L1=>wp (lk L1 i) λx=>Q0 x y L1)/\∀ v w L' S' H' x y,Q0 v w L'->RH K S' H' v x->RH K S' H' w y->Iv K c md L' σ S' H'->Same S S'->r x y H' Q):G5 r (tVar i) (lr K md eb) σ H Q:=by
 let(c,L,S,Q0,I,h,k):=hh
 let(_,e,h):=oS h
 let(x,e1,_):=I.rd e
 exact⟨x,e1,c,L,S,_,I,h,λw L2 hw y S2 H2 r2 I2 s2=>?_⟩
 let(v,e2,q):=oS hw
 let(x',e3,r1):=I2.rd e2
 rw[e1] at e3;cases e3
 exact k v w L2 S2 H2 x y q r1 r2 I2 s2
def Le {Q0:FV->nT->Prop}{Q:VK}{v w:FV}{x y:V}(I:Iv K c md L σ S H)(rv:RH K S H v x)(rw':RH K S H w y)(h:wp (f v w) λz=>Q0 z L)(k:∀ z,Q0 z L->∀ x S' H',RV K S' z x->Iv K c md L σ S' H'->Same S S'->Q x H'):Rq K f x y H Q:=by
 let(z,e,q):=oS h
 exact⟨S,v,w,z,I.sub,rv,rw',e,ue I (k z q)⟩
def LC (h:PE X.nox a (G5 (Rq X.K f) (lv X.K C.md ea) (lr X.K C.md eb))):FE X C a (n6 f ea eb):=PE.imp h λσ H Q ⟨c,L,S,Q0,I,h,k⟩ =>
 Nz ⟨c,L,S,λx y L2=>wp (f x y) λz=>Q0 z L2,I,h,λv w L' S' H' x y q r1 r2 I' s'=>Le I' (.inl r1) r2 q λz qz x S2 H2 r I2 s2=>k z L' qz x S2 H2 r I2 (s'.trans s2)⟩
variable {op:mR}
def wm (ho:qC X.nox (binaryOp op) (Rq X.K f))(ha:FE X C a ea)(hb:FR X C b eb):FE X C (.BinOp a op b pos) (n6 f ea eb):=LC (GE ho ha hb)
def Ql (ha:FE X C a ea)(hb:FR X C b eb):FE X C (.BinOp a .Add b pos) (n6 pG ea eb):=wm Lr ha hb
def PU (ha:FE X C a ea)(hb:FR X C b eb):FE X C (.BinOp a .Sub b pos) (n6 xR ea eb):=wm Lh ha hb
def P7 (ha:FE X C a ea)(hb:FR X C b eb):FE X C (.BinOp a .Mult b pos) (n6 qR ea eb):=wm GA ha hb
def NZ (ha:FE X C a ea)(hb:FR X C b eb):FE X C (.BinOp a .FloorDiv b pos) (n6 yH ea eb):=wm Hn ha hb
def P8 (ha:FE X C a ea)(hb:FR X C b eb):FE X C (.BinOp a .Mod b pos) (n6 vK ea eb):=wm Lm ha hb
def PY (ha:FE X C a ea)(hb:FR X C b eb):FE X C (.BinOp a .Pow b pos) (n6 BD ea eb):=wm Lk ha hb
abbrev qK (f:FV->FV->Option FV)(v w:FV):Option FV:=(f v w).bind λz=>(rQ z).map λxs=>.lst xs
def Mh (ho:qC X.nox (binaryOp op) (Rq X.K f))(ha:FE X C a ea)(hb:FR X C b eb):FF X C (.BinOp a op b pos) (n6 (qK f) ea eb):=PE.imp (GE ho ha hb) λσ H Q ⟨c,L,S,Q0,I,h,k⟩ =>
 Nz ⟨c,L,S,λx y L2=>wp (qK f x y) λz=>Q0 z L2,I,h,λv w L' S' H' x y q r1 r2 I' s'=>by
  let(z,e,q):=oS q
  let(z',e1,e2):=p7 e
  let(xs,e3,rfl):=rW e2
  cases qe e3
  exact⟨S',v,w,_,I'.sub,.inl r1,r2,e1,Dm I' ⟨xs,rfl⟩ λa S2 H2 o fr I2 s2=>k _ L' q a S2 H2 o fr I2 (s'.trans s2)⟩⟩
def PL (ha:FE X C a ea)(hb:FR X C b eb):FF X C (.BinOp a .Mult b pos) (n6 (qK qR) ea eb):=Mh GA ha hb
variable {cop:nK}
def vk (ho:qC X.nox (compareOp cop) (Rq X.K f))(ha:FE X C a ea)(hb:FR X C b eb)(hm:behindInMarks cop b=Ξ):FE X C (.Compare a [cop] [b] pos) (n6 f ea eb):=LC (E9 ho ha hb hm)
abbrev sj (f:FV->FV->Option FV):Prop:=∀ v w z,f v w=Ψ z->∃ b,z=.bl b
def G2 {Q0:Bool->nT->Prop}{Q:Bool->Hp->Prop}{v w:FV}{x y:V}(tb:sj f)(I:Iv K c md L σ S H)(rv:RH K S H v x)(rw':RH K S H w y)(h:wp (f v w) λz=>wp (vG z) λb=>Q0 b L)(k:∀ z,Q0 z L->Q z H):Rq K f x y H (λx H'=>∃ k,x=.bl k/\Q k H'):=by
 let(z,e,q):=oS h
 let(b,rfl):=tb v w z e
 exact⟨S,v,w,_,I.sub,rv,rw',e,⟨λx _ r=>⟨b,r,k b q⟩,λ_ _ _ e=>(nomatch e),λ_ _ _ e=>(nomatch e)⟩⟩
def t7 (tb:sj f)(ho:qC X.nox (compareOp cop) (Rq X.K f))(ha:FE X C a ea)(hb:FR X C b eb)(hm:behindInMarks cop b=Ξ):FB X C (.Compare a [cop] [b] pos) (n8 (n6 f ea eb)):=PT.imp (ES ho ha hb hm) λσ H Q ⟨c,L,S,Q0,I,h,k⟩ =>
 Nz ⟨c,L,S,λx y L2=>wp (f x y) λz=>wp (vG z) λb=>Q0 b L2,I,h,λv w L' S' H' x y q r1 r2 I' s'=>G2 tb I' (.inl r1) r2 q λz qz=>k z L' qz S' H' I' s'⟩
end
end
abbrev oh:Expr->Bool|.Starred ..=>Ω|_=>Ξ
abbrev qg:Expr->Bool|.Slice ..=>Ω|_=>Ξ
abbrev C5:Expr->Bool
 | .UnaryOp .Not _ _=>Ξ
 | .BoolOp ..=>Ξ
 | .IfExp ..=>Ξ
 | .Compare ..=>Ξ
 | _=>Ω
section
variable {X:Cx}{C:CC}{n:Nat}{sp:kP->Nat->Sp}{a b d x y:Expr}{ea eb ec:EW}{pos:Pos}
def nX {xs:List Expr}{env:Env}(h:oh x=Ξ):starEach (x :: xs) env=(Ξ,eval x env) :: starEach xs env:=by
 cases x<;>first|rfl|(cases h;done)
def tx (h:qg y=Ξ):Bo y:=by
 intro o i
 cases y<;>first|rfl|(cases h;done)
def wW {env:Env}(h:C5 x=Ω):∀ whole,isTrue x env whole=(do let v <- whole;standAt x.pos;holding [v] (PySem.truthy v)):=by
 intro whole
 cases x<;>first|rfl|(cases h;done)|(rename_i op x pos;cases op<;>first|rfl|(cases h;done))
def fe_eq (G:Good X C n sp)(ha:FE X C a ea)(hb:FR X C b eb):FE X C (.Compare a [.Eq] [b] pos) (n6 vn ea eb):=vk (Lq G.room.units) ha hb (pZ _ (·) (·))
def fe_ne (G:Good X C n sp)(ha:FE X C a ea)(hb:FR X C b eb):FE X C (.Compare a [.NotEq] [b] pos) (n6 BN ea eb):=vk (Ll G.room.units) ha hb (pZ _ (·) (·))
def fe_ge (ha:FE X C a ea)(hb:FR X C b eb):FE X C (.Compare a [.GtE] [b] pos) (n6 Kp ea eb):=vk OX ha hb (pZ _ (·) (·))
def Cz {f:FV->FV->Option Bool}{g:Bool->FV}(h:∀ b,∃ c,g b=.bl c):sj λv w=>(f v w).map g:=λv w z e=>by
 let(b,_,rfl):=rW e
 exact h b
def ze {f:Int->Int->Bool}:sj (qy λi j=>Ψ (.bl (f i j))):=λv w z e=>by
 let(i,_,e):=p7 e
 let(j,_,e):=p7 e
 cases e;exact⟨_,rfl⟩
def fb_eq (G:Good X C n sp)(ha:FE X C a ea)(hb:FR X C b eb):FB X C (.Compare a [.Eq] [b] pos) (n8 (n6 vn ea eb)):=t7 (Cz λb=>⟨b,rfl⟩) (Lq G.room.units) ha hb (pZ _ (·) (·))
def fb_ne (G:Good X C n sp)(ha:FE X C a ea)(hb:FR X C b eb):FB X C (.Compare a [.NotEq] [b] pos) (n8 (n6 BN ea eb)):=t7 (Cz λb=>⟨!b,rfl⟩) (Ll G.room.units) ha hb (pZ _ (·) (·))
def fb_gt (ha:FE X C a ea)(hb:FR X C b eb):FB X C (.Compare a [.Gt] [b] pos) (n8 (n6 B2 ea eb)):=t7 ze OV ha hb (pZ _ (·) (·))
section
variable {cop cop':nK}{f g:FV->FV->Option FV}
def Ea (tf:sj f){σ:L2.St}{S H:Hp}{Q:VK}{c:Cn}{L:nT}{Q1:FV->nT->Prop}(I:Iv X.K c C.md L σ S H)(h:vt f g ea eb ec L Q1)
  (kf:∀ L' S' H',Q1 (.bl Ξ) L'->Iv X.K c C.md L' σ S' H'->Same S S'->Q (.bl Ξ) H')(kg:∀ w z L' S' H' y u,(wp (g w z) λq=>Q1 q L')->RV X.K S' w y->RH X.K S' H' z u->Iv X.K c C.md L' σ S' H'->Same S S'->Rq X.K g y u H' Q) :
  CD (Rq X.K f) (Rq X.K g) (lv X.K C.md ea) (lv X.K C.md eb) (lr X.K C.md ec) σ H Q:=by
 exact⟨c,L,S,_,I,h,λv L1 hv x S1 H1 r1 I1 s1=>⟨c,L1,S1,_,I1,hv,λw L2 hw y S2 H2 r2 I2 s2=>?_⟩⟩
 let(r,e,q):=oS hw
 let(b,rfl):=tf v w r e
 exact⟨S2,v,w,_,I2.sub,.inl (r1.mono s2),.inl r2,e,⟨λu _ ru=>⟨b,ru,?_⟩,λ_ _ _ e=>(nomatch e),λ_ _ _ e=>(nomatch e)⟩⟩
 let q:if b=Ω then ec L2 λz L3=>wp (g w z) λq=>Q1 q L3 else Q1 (.bl Ξ) L2:=q
 cases b with
 | false=>rw[if_neg dY] at q ⊢;exact kf L2 S2 H2 q I2 (s1.trans s2)
 | true =>
  rw[if_pos rfl] at q ⊢
  exact⟨c,L2,S2,_,I2,q,λz L3 hz u S3 H3 r3 I3 s3=>kg w z L3 S3 H3 y u hz (r2.mono s3) r3 I3 (s1.trans (s2.trans s3))⟩
def DT (tf:sj f)(ho:qC X.nox (compareOp cop) (Rq X.K f))(ho':qC X.nox (compareOp cop') (Rq X.K g))(ha:FE X C a ea)(hb:FE X C b eb)(hc:FR X C d ec)(hm:lastMarks [cop,cop'] [b,d]=Ξ):FE X C (.Compare a [cop,cop'] [b,d] pos) (vt f g ea eb ec) :=
 PE.imp (De ho ho' ha hb hc hm) λσ H Q q1=>by let(c,L,S,Q0,I,h,k):=q1;exact Ea tf I h (λL' S' H' q I' s'=>k _ L' q _ S' H' rfl I' s') λw z L' S' H' y u q r1 r2 I' s'=>Le I' (.inl r1) r2 q λt qt x S4 H4 rt I4 s4=>k t L' qt x S4 H4 rt I4 (s'.trans s4)
end
end
section
variable {X:Cx}{C:CC}{n:Nat}{sp:kP->Nat->Sp}{a b d x:Expr}{ea eb:EW}{ba bb:BW}{pos p:Pos}
variable {K:kP}{c:Cn}{md:Md}{L:nT}{σ:L2.St}{S H:Hp}
def zE {v:FV}{x:V}(r1:RH K S H v x):qN v=Ψ (.bl (Δ (x=V.non)))/\pB v=Ψ (.bl (!Δ (x=V.non))):=by
 rcases r1 with r1|⟨a,rfl,_,ps,xs,e9,_⟩
 ·cases v<;>first|(cases (show x=_ from r1);exact⟨rfl,rfl⟩;done)|(let(a,_,rfl,_):=r1;exact⟨rfl,rfl⟩;done)|(let(a,rfl,_):=r1;exact⟨rfl,rfl⟩;done)
 ·cases v<;>first|(cases e9;done)|exact⟨rfl,rfl⟩
def QE {j pos'}(ha:FR X C a ea):FB X C (.Compare a [.Is] [.Constant .none j pos'] pos) (n8 (oH qN ea)):=PT.imp (C0 (HK ha)) λσ H Q q1=>by let(c,L,S,Q0,I,h,k):=q1;exact
 ⟨c,L,S,_,I,h,λv L1 hv x S1 H1 r1 I1 s1=>by
  let(z,e3,q):=oS hv
  rw[(zE r1).1] at e3;cases e3
  exact⟨_,rfl,k _ L1 q S1 H1 I1 s1⟩⟩
def NU {j pos'}(ha:FR X C a ea):FE X C (.Compare a [.IsNot] [.Constant .none j pos'] pos) (oH pB ea):=PE.imp (HI (Av ha)) λσ H Q q1=>by let(c,L,S,Q0,I,h,k):=q1;exact
 ⟨c,L,S,_,I,h,λv L1 hv x S1 H1 r1 I1 s1=>by
  let(z,e3,q):=oS hv
  rw[(zE r1).2] at e3;cases e3
  exact k _ L1 q _ S1 H1 rfl I1 s1⟩
def N4 {j pos'}(ha:FR X C a ea):FB X C (.Compare a [.IsNot] [.Constant .none j pos'] pos) (n8 (oH pB ea)):=PT.imp (C0 (Av ha)) λσ H Q q1=>by let(c,L,S,Q0,I,h,k):=q1;exact
 ⟨c,L,S,_,I,h,λv L1 hv x S1 H1 r1 I1 s1=>by
  let(z,e3,q):=oS hv
  rw[(zE r1).2] at e3;cases e3
  exact⟨_,rfl,k _ L1 q S1 H1 I1 s1⟩⟩
def P3 (ha:FE X C a ea):FE X C (.UnaryOp .Not a pos) (oH Fl ea):=PE.imp (HF ha) λσ H Q q1=>by let(c,L,S,Q0,I,h,k):=q1;exact
 ⟨c,L,S,_,I,h,λv L1 hv x S1 H1 r1 I1 s1=>by
  let(z,e,q):=oS hv
  let(b,e1,rfl):=rW e
  cases JI e1
  exact⟨b,r1,k _ L1 q _ S1 H1 rfl I1 s1⟩⟩
def P6 (ha:FE X C a ea):FE X C (.UnaryOp .USub a pos) (oH BM ea):=PE.imp (Lw GY ha) λσ H Q q1=>by let(c,L,S,Q0,I,h,k):=q1;exact
 ⟨c,L,S,_,I,h,λv L1 hv x S1 H1 r1 I1 s1=>by
  let(z,e,q):=oS hv
  let(b,e1,rfl):=rW e
  cases oU e1
  exact⟨b,r1,k _ L1 q _ S1 H1 rfl I1 s1⟩⟩
def Ag {v:FV}{u:V}{t:Bool}(s:Same S H)(r:RH K S H v u)(e:vG v=Ψ t):Gq K u H t:=by
 let em:∀ {ps:List FV}{xs:List V},RVs K S ps xs->(!ps.isEmpty) = !xs.isEmpty:=λ{ps xs} h=>by cases ps<;>cases xs<;>first|rfl|(have:=h.length;simp at this)
 cases v with
 | non=>cases (show u=V.non from r.val rfl);cases e;exact rfl
 | bl c=>cases r.bl;cases e;exact rfl
 | int c=>cases r.int;cases e;exact rfl
 | str c=>cases e
 | shn c=>cases e
 | dct _ _=>cases e
 | dci _ _=>cases e
 | dcz _ _ _=>cases e
 | obj _ _ _ _=>cases e
 | dcn _ _ _=>cases e
 | tup ps =>
  let(a,xs,rfl,h1,h2):=r.tup s
  cases e
  exact .inr (.inl ⟨xs,SqT.of h1,em h2⟩)
 | lst l =>
  let(a,xs,rfl,h1,h2):=r.lst s
  cases e
  exact .inl ⟨xs,SqL.of h1,em h2⟩
 | scr ns =>
  cases e
  let(a,xs,rfl,h1,h2):=r.list s (show pX (.scr ns)=_ from rfl)
  exact .inl ⟨_,h1,?_⟩
  rw[<- em h2];cases ns<;>rfl
def Fc {rest:List Expr}{ta tb:TE}(ha:PE X a ta)(hb:PE X (.BoolOp .And (b :: rest) pos) tb) :
  PE X (.BoolOp .And (a :: b :: rest) pos) (λσ H Q=>ta σ H λx H1=>∃ c,Gq X.K x H1 c/\(if c=Ω then tb σ H1 Q else Q x H1)):=by
 intro Z9 s σ H Q I h
 exact BoolOp_and (oX (ha Z9 s σ H _ I h) λv s1 ⟨x,H1,I1,r1,c,tv,q1⟩=>?_)
 exact oX (Cw Z9 s1 σ H1 x v (λc' H'=>c'=c/\H'=H1) I1 r1 ⟨c,tv,rfl,rfl⟩) λb s2 q2=>?_;let(H2,I2,e1,e2):=q2
 subst e1 e2
 cases b with
 | true=>exact hb Z9 s2 σ H2 Q I2 (by simpa using q1)
 | false=>exact⟨x,H2,I2,r1,by simpa using q1⟩
def P2 {op:BoolOp}(ha:FE X C a ea):FE X C (.BoolOp op [a] pos) ea:=HE ha
def Qj {rest:List Expr}(ha:FE X C a ea)(hb:FE X C (.BoolOp .And (b :: rest) pos) eb):FE X C (.BoolOp .And (a :: b :: rest) pos) (tS ea eb):=PE.imp (Fc ha hb) λσ H Q q1=>by let(c,L,S,Q0,I,h,k):=q1;exact
 ⟨c,L,S,_,I,h,λv L1 hv x S1 H1 r1 I1 s1=>by
  let(t,e,q):=oS hv
  exact⟨t,Ag I1.sub (.inl r1) e,?_⟩
  cases t with
  | true=>exact⟨c,L1,S1,Q0,I1,q,λv L' q x S' H' r I' s'=>k v L' q x S' H' r I' (s1.trans s')⟩
  | false=>exact k v L1 q x S1 H1 r1 I1 s1⟩
def fe_if (hc:FB X C d ba)(ha:FE X C a ea)(hb:FE X C b eb):FE X C (.IfExp d a b pos) (Jw ba ea eb):=PE.imp (Db hc ha hb) λσ H Q q1=>by let(c,L,S,Q0,I,h,k):=q1;exact
 ⟨c,L,S,_,I,h,λt L1 hv S1 H1 I1 s1=>by
  cases t with
  | true=>exact⟨c,L1,S1,Q0,I1,hv,λv L' q x S' H' r I' s'=>k v L' q x S' H' r I' (s1.trans s')⟩
  | false=>exact⟨c,L1,S1,Q0,I1,hv,λv L' q x S' H' r I' s'=>k v L' q x S' H' r I' (s1.trans s')⟩⟩
def QA (hp:C5 a=Ω)(ha:FR X C a ea):FB X C a (n8 ea):=PT.imp (CZ ha (wW hp)) λσ H Q q1=>by let(c,L,S,Q0,I,h,k):=q1;exact
 ⟨c,L,S,_,I,h,λv L1 hv x S1 H1 r1 I1 s1=>by
  let(t,e,q):=oS hv
  exact⟨t,Ag I1.sub r1 e,k t L1 q S1 H1 I1 s1⟩⟩
def QB (ha:FB X C a ba):FB X C (.UnaryOp .Not a pos) (qp ba):=PT.imp (Hu ha) λσ H Q q1=>by let(c,L,S,Q0,I,h,k):=q1;exact⟨c,L,S,_,I,h,λt L1 hv S1 H1 I1 s1=>k _ L1 hv S1 H1 I1 s1⟩
def NA (ha:FB X C a ba):FW X C (.BoolOp .And [a] pos) ba:=EO ha
def Po (ha:FB X C a ba):FW X C (.BoolOp .Or [a] pos) ba:=Hr ha
def Pp {rest:List Expr}(ha:FB X C a ba)(hb:FW X C (.BoolOp .And (b :: rest) pos) bb):FW X C (.BoolOp .And (a :: b :: rest) pos) (rM ba bb):=PW.imp (Hs ha hb) λσ H Q q1=>by let(c,L,S,Q0,I,h,k):=q1;exact
 ⟨c,L,S,_,I,h,λt L1 hv S1 H1 I1 s1=>by
  cases t with
  | true=>exact⟨c,L1,S1,Q0,I1,hv,λv L' q S' H' I' s'=>k v L' q S' H' I' (s1.trans s')⟩
  | false=>exact k _ L1 hv S1 H1 I1 s1⟩
def fw_or {rest:List Expr}(ha:FB X C a ba)(hb:FW X C (.BoolOp .Or (b :: rest) pos) bb):FW X C (.BoolOp .Or (a :: b :: rest) pos) (yZ ba bb):=PW.imp (Ls ha hb) λσ H Q q1=>by let(c,L,S,Q0,I,h,k):=q1;exact
 ⟨c,L,S,_,I,h,λt L1 hv S1 H1 I1 s1=>by
  cases t with
  | false=>exact⟨c,L1,S1,Q0,I1,hv,λv L' q S' H' I' s'=>k v L' q S' H' I' (s1.trans s')⟩
  | true=>exact k _ L1 hv S1 H1 I1 s1⟩
def fb_w (h:FW X C a ba):FB X C a ba:=PW.pt h
def QI:FA X C [] nU:=PA.imp pM λσ H Q q1=>by let(c,L,S,Q0,I,h,k):=q1;exact k [] L h [] S H rfl I (Same.refl S)
def N6 {xs:List Expr}{as:AW}(hs:oh a=Ξ)(ha:FE X C a ea)(hr:FA X C xs as):FA X C (a :: xs) (nR ea as):=PA.imp (oy ha hr (nX hs)) λσ H Q q1=>by let(c,L,S,Q0,I,h,k):=q1;exact
 ⟨c,L,S,_,I,h,λv L1 hv x S1 H1 r1 I1 s1=>⟨c,L1,S1,_,I1,hv,λvs L2 hvs us S2 H2 r2 I2 s2=>k _ L2 hvs _ S2 H2 ⟨x,us,rfl,r1.mono s2,r2⟩ I2 (s1.trans s2)⟩⟩
def PQ {xs:List Expr}{as:AW}{m:Nat}(h:FA X C xs as):FE X C (.Tuple xs m pos) (o9 as):=PE.imp (HD h) λσ H Q q1=>by let(c,L,S,Q0,I,h,k):=q1;exact
 ⟨c,L,S,_,I,h,λvs L1 hv us S1 H1 r1 I1 s1=>⟨by have:=ph;rw[<- r1.length];exact kX hv.1 this,λp hp=>(ue I1 λx S' H' r I' s'=>k _ L1 hv.2 x S' H' r I' (s1.trans s')).tup _ _ p rfl r1 hp⟩⟩
def Qa {xs:List Expr}{as:AW}(h:FA X C xs as):FE X C (.List xs pos) (pK as):=PE.imp (Da h) λσ H Q q1=>by let(c,L,S,Q0,I,h,k):=q1;exact
 ⟨c,L,S,_,I,h,λvs L1 hv us S1 H1 r1 I1 s1=>⟨by have:=ph;rw[<- r1.length];exact kX hv.1 this,λp hp=>(ue I1 λx S' H' r I' s'=>k _ L1 hv.2 x S' H' r I' (s1.trans s')).lst _ _ p rfl r1 hp⟩⟩
def PN {xs:List Expr}{as:AW}(h:FA X C xs as):FF X C (.List xs pos) (pK as):=PE.imp (Da h) λσ H Q q1=>by let(c,L,S,Q0,I,h,k):=q1;exact
 ⟨c,L,S,_,I,h,λvs L1 hv us S1 H1 r1 I1 s1=>⟨by have:=ph;rw[<- r1.length];exact kX hv.1 this,λp hp=>(Dm I1 ⟨vs,rfl⟩ λa S' H' o fr I' s'=>k _ L1 hv.2 a S' H' o fr I' (s1.trans s')).lst _ _ p rfl r1 hp⟩⟩
def fe_ix (hs:qg b=Ξ)(ha:FE X C a ea)(hb:FR X C b eb):FE X C (.Subscript a b pos) (n6 pY ea eb):=PE.imp (GF Lo ha hb (tx hs)) λσ H Q ⟨c,L,S,Q0,I,h,k⟩ =>
 Nz ⟨c,L,S,λx y L2=>wp (pY x y) λz=>Q0 z L2,I,h,λv w L' S' H' x y q r1 r2 I' s'=>by
  let(z,e,q):=oS q
  exact⟨S',v,w,z,I'.sub,.inl r1,r2,e,λu r=>k z L' q u S' H' r I' s'⟩⟩
def Qc (G:Good X C n sp){i:Nat}{nx:Str}(hs:qg b=Ξ)(h:C.nm i nx=Ω)(hb:FR X C b eb):FE X C (.Subscript (.Name nx p) b pos) (qk pY i eb):=PE.imp (GF Lo (o7 G h) hb (tx hs)) λσ H Q ⟨c,L,S,Q0,I,h,k⟩ =>
 Pm ⟨c,L,S,λx y L2=>wp (pY x y) λz=>Q0 z L2,I,h,λv w L' S' H' x y q r1 r2 I' s'=>by
  let(z,e,q):=oS q
  exact⟨S',v,w,z,I'.sub,r1,r2,e,λu r=>k z L' q u S' H' r I' s'⟩⟩
def NM:FO X C Φ uZ:=PO.imp E4 λσ H Q q1=>by let(c,L,S,Q0,I,h,k):=q1;exact k Φ L h S H I (Same.refl S)
def NL (h:FE X C a ea):FO X C (Ψ a) (rf ea):=PO.imp (E3 h) λσ H Q q1=>by let(c,L,S,Q0,I,h,k):=q1;exact
 ⟨c,L,S,_,I,h,λv L1 hv x S1 H1 r1 I1 s1=>by
  let(i,e,q):=oS hv
  cases oU e
  exact⟨i,r1,k _ L1 q S1 H1 I1 s1⟩⟩
variable {xl xh:Option Expr}{wl wh:OW}{p2:Pos}
def fe_sl (ha:FE X C a ea)(hl:FO X C xl wl)(hh:FO X C xh wh):FE X C (.Subscript a (.Slice xl xh Φ p2) pos) (Mx ea wl wh):=PE.imp (uW Lj ha hl hh) λσ H Q q1=>by let(c,L,S,Q0,I,h,k):=q1;exact
 ⟨c,L,S,_,I,h,λv L1 hv x S1 H1 r1 I1 s1=>⟨c,L1,S1,_,I1,hv,λo1 L2 h1 S2 H2 I2 s2=>⟨c,L2,S2,_,I2,h1,λo2 L3 h2 S3 H3 I3 s3=>by
  let(z,e,q):=oS h2
  exact⟨S3,v,z,I3.sub,.inl (r1.mono (s2.trans s3)),e,ue I3 λx S' H' r I' s'=>k z L3 q x S' H' r I' (s1.trans (s2.trans (s3.trans s')))⟩⟩⟩⟩
def OQ {σ:L2.St}{i:Nat}{Q:VK}{Q1:FV->nT->Prop}(I:Iv K c md L σ S H)(h:B8 i wl wh L Q1)(k:∀ v z o1 o2 L' S' H' x,rS v o1 o2=Ψ z->Q1 z L'->RH K S' H' v x->Iv K c md L' σ S' H'->Same S S'->NewOr K S' H' Q z):tSl (Rsl K) (tVar i) (lo K md wl) (lo K md wh) σ H Q:=by
 let(_,e,h):=oS h
 let(x,e1,_):=I.rd e
 exact⟨x,e1,c,L,S,_,I,h,λo1 L2 h1 S2 H2 I2 s2=>⟨c,L2,S2,_,I2,h1,λo2 L3 h2 S3 H3 I3 s3=>?_⟩⟩
 let(v,e2,h3):=oS h2
 let(z,e3,q):=oS h3
 let(x',e4,r):=I3.rd e2
 rw[e1] at e4;cases e4
 exact⟨S3,v,z,I3.sub,r,e3,k v z o1 o2 L3 S3 H3 x e3 q r I3 (s2.trans s3)⟩
end
section
variable {X:Cx}{C:CC}{n:Nat}{sp:kP->Nat->Sp}{a b:Expr}{ea eb:EW}{pos p:Pos}
variable {K:kP}{md:Md}{σ:L2.St}{S H:Hp}{i:Nat}{nx:Str}
variable {xl xh:Option Expr}{wl wh:OW}{p2:Pos}
def PV (G:Good X C n sp)(h:C.nm i nx=Ω)(hl:FO X C xl wl)(hh:FO X C xh wh):FE X C (.Subscript (.Name nx p) (.Slice xl xh Φ p2) pos) (B8 i wl wh):=PE.imp (uW Lj (o7 G h) hl hh) λσ H Q ⟨c,L,S,Q0,I,h,k⟩ =>
 OQ I h λv z o1 o2 L' S' H' x e q r I' s'=>ue I' λx S2 H2 r I2 s2=>k z L' q x S2 H2 r I2 (s'.trans s2)
def GS {f:FV->Option FV}{Q:VK}(hh:lv K md (oH f ea) σ H Q):OM (Rc K f) (Ah (lr K md ea) KU) σ H Q:=by
 let(c,L,S,Q0,I,h,k):=hh
 exact⟨c,L,S,_,I,h,λv L1 hv x S1 H1 r1 I1 s1=>?_⟩
 let(z,e,q):=oS hv
 exact⟨S1,v,x,z,rfl,I1.sub,r1,e,ue I1 λx S' H' r I' s'=>k z L1 q x S' H' r I' (s1.trans s')⟩
def uh {id nm:String}{f:FV->Option FV}(hc:oR X.nox (.builtin id) (Rc X.K f))(G:Good X C n sp)(hb:nm∈bltNames)(hv:bootBuiltins (kL nm)=Ψ (.builtin id))(h1:kL nm≠"__name__")(h2:(kL nm == ("__debug__":Str))=Ξ)(hg:C.gl (kL nm)=Ω)(hs:oh a=Ξ)(ha:FR X C a ea) :
  FE X C (.Call (.Name (kL nm) p) [a] [] pos) (oH f ea):=PE.imp (qZ hc (G.gl hg) (G.blt nm hb) hv (oy ha pM (nX hs)) h1 h2 (nX hs) rfl) λσ H Q h=>GS h
def A5 {T nm:String}{f:FV->Option FV}(hc:oR X.nox (.type T) (Rc X.K f))(G:Good X C n sp)(hb:nm∈bltNames)(hv:bootBuiltins (kL nm)=Ψ (.type T))(h1:kL nm≠"__name__")(h2:(kL nm == ("__debug__":Str))=Ξ)(hg:C.gl (kL nm)=Ω)(hs:oh a=Ξ)(ha:FR X C a ea) :
  FE X C (.Call (.Name (kL nm) p) [a] [] pos) (oH f ea):=PE.imp (tY hc (G.gl hg) (G.blt nm hb) hv (oy ha pM (nX hs)) h1 h2 (nX hs) rfl) λσ H Q h=>GS h
def Qb (G:Good X C n sp)(hg:C.gl (kL "len")=Ω)(hs:oh a=Ξ)(ha:FR X C a ea):FE X C (.Call (.Name (kL "len") p) [a] [] pos) (oH qI ea):=uh MJ G (·) (by nofun) (by nofun) (by nofun) hg hs ha
def Qm (G:Good X C n sp)(hg:C.gl (kL "abs")=Ω)(hs:oh a=Ξ)(ha:FR X C a ea):FE X C (.Call (.Name (kL "abs") p) [a] [] pos) (oH Em ea):=uh MN G (·) (by nofun) (by nofun) (by nofun) hg hs ha
def PR (G:Good X C n sp)(hg:C.gl (kL "sum")=Ω)(hs:oh a=Ξ)(ha:FR X C a ea):FE X C (.Call (.Name (kL "sum") p) [a] [] pos) (oH wN ea):=uh (Ed G.calm) G (·) (by nofun) (by nofun) (by nofun) hg hs ha
def Qk (G:Good X C n sp)(hg:C.gl (kL "all")=Ω)(hs:oh a=Ξ)(ha:FR X C a ea):FE X C (.Call (.Name (kL "all") p) [a] [] pos) (oH xK ea):=uh (MM G.calm) G (·) (by nofun) (by nofun) (by nofun) hg hs ha
def Qi (G:Good X C n sp)(hg:C.gl (kL "any")=Ω)(hs:oh a=Ξ)(ha:FR X C a ea):FE X C (.Call (.Name (kL "any") p) [a] [] pos) (oH Go ea):=uh (ML G.calm) G (·) (by nofun) (by nofun) (by nofun) hg hs ha
def NV (G:Good X C n sp)(hg:C.gl (kL "min")=Ω)(hs:oh a=Ξ)(ha:FR X C a ea):FE X C (.Call (.Name (kL "min") p) [a] [] pos) (oH AB ea):=uh (JC G.calm) G (·) (by nofun) (by nofun) (by nofun) hg hs ha
def Mn (G:Good X C n sp)(hg:C.gl (kL "int")=Ω)(hs:oh a=Ξ)(ha:FR X C a ea):FE X C (.Call (.Name (kL "int") p) [a] [] pos) (oH qQ ea):=A5 MK G (·) (by nofun) (by nofun) (by nofun) hg hs ha
def Ml (G:Good X C n sp)(hg:C.gl (kL "tuple")=Ω)(hs:oh a=Ξ)(ha:FR X C a ea):FE X C (.Call (.Name (kL "tuple") p) [a] [] pos) (oH pQ ea):=A5 Ge G (·) (by nofun) (by nofun) (by nofun) hg hs ha
def NX (G:Good X C n sp)(hg:C.gl (kL "list")=Ω)(hs:oh a=Ξ)(ha:FR X C a ea):FE X C (.Call (.Name (kL "list") p) [a] [] pos) (oH qL ea):=A5 Ee G (·) (by nofun) (by nofun) (by nofun) hg hs ha
def Mm (G:Good X C n sp)(hg:C.gl (kL "str")=Ω)(hs:oh a=Ξ)(ha:FR X C a ea):FE X C (.Call (.Name (kL "str") p) [a] [] pos) (oH CI ea):=A5 (MI G.room.units G.room.gd) G (·) (by nofun) (by nofun) (by nofun) hg hs ha
def NR (G:Good X C n sp)(hg:C.gl (kL "list")=Ω)(hs:oh a=Ξ)(ha:FR X C a ea):FF X C (.Call (.Name (kL "list") p) [a] [] pos) (oH qL ea) :=
 PE.imp (tY Ee (G.gl hg) (G.blt "list" (·)) (by nofun) (oy ha pM (nX hs)) (by nofun) (by nofun) (nX hs) rfl) λσ H Q q1=>by let(c,L,S,Q0,I,h,k):=q1;exact
 ⟨c,L,S,_,I,h,λv L1 hv x S1 H1 r1 I1 s1=>by
  let(z,e,q):=oS hv
  let(ps,e1,rfl):=rW e
  exact⟨S1,v,x,_,rfl,I1.sub,r1,e,Dm I1 ⟨ps,rfl⟩ λa S' H' o fr I' s'=>k _ L1 q a S' H' o fr I' (s1.trans s')⟩⟩
def Mu {id nm:String}{f:FV->FV->Option FV}(hc:oR X.nox (.builtin id) (Rc2 X.K f))(G:Good X C n sp)(hb:nm∈bltNames)(hv:bootBuiltins (kL nm)=Ψ (.builtin id))(h1:kL nm≠"__name__")(h2:(kL nm == ("__debug__":Str))=Ξ)(hg:C.gl (kL nm)=Ω)(hs:oh a=Ξ)(hs2:oh b=Ξ)(ha:FE X C a ea)(hb':FR X C b eb) :
  FE X C (.Call (.Name (kL nm) p) [a,b] [] pos) (n6 f ea eb):=PE.imp (qZ hc (G.gl hg) (G.blt nm hb) hv (oy ha (oy hb' pM (nX hs2)) (nX hs)) h1 h2 (nX hs) (by rw[nX hs2];rfl)) λσ H Q q1=>by let(c,L,S,Q0,I,h,k):=q1;exact
 ⟨c,L,S,_,I,h,λv L1 hv x S1 H1 r1 I1 s1=>⟨c,L1,S1,_,I1,hv,λw L2 hw y S2 H2 r2 I2 s2=>by
  let(z,e,q):=oS hw
  exact⟨S2,v,w,x,y,z,rfl,I2.sub,.inl (r1.mono s2),r2,e,ue I2 λx S' H' r I' s'=>k z L2 q x S' H' r I' (s1.trans (s2.trans s'))⟩⟩⟩
def NW (G:Good X C n sp)(hg:C.gl (kL "max")=Ω)(hs:oh a=Ξ)(hs2:oh b=Ξ)(ha:FE X C a ea)(hb':FR X C b eb):FE X C (.Call (.Name (kL "max") p) [a,b] [] pos) (n6 yr ea eb):=Mu (JD G.calm) G (·) (by nofun) (by nofun) (by nofun) hg hs hs2 ha hb'
abbrev wK:Ty->String|.int=>"int" | .bool=>"bool" | .str=>"str" | .list=>"list" | .tuple=>"tuple"
def Cv {v:FV}{u:V}{t:Ty}{r:Bool}(s:Same S H)(rv:RH K S H v u)(e:ve v t=Ψ r):∃ T,TyOf K H u (.type T)/\jk K (.type T) (.type (wK t))=Ψ r:=by
 cases v with
 | non=>cases (show u=V.non from rv.val rfl);exact⟨_,.non,by cases e;cases t<;>rfl⟩
 | bl c=>cases rv.bl;exact⟨_,.bl _,by cases e;cases t<;>rfl⟩
 | int c=>cases rv.int;exact⟨_,.int _,by cases e;cases t<;>rfl⟩
 | str c=>cases (show u=V.str _ from rv.val rfl);exact⟨_,.str _,by cases e;cases t<;>rfl⟩
 | tup ps =>
  let(a,xs,rfl,h1,h2):=rv.tup s
  exact⟨_,.tup h1,by cases e;cases t<;>rfl⟩
 | lst l =>
  let(a,xs,rfl,h1,h2):=rv.lst s
  exact⟨_,.lst h1,by cases e;cases t<;>rfl⟩
 | scr ns=>cases e
 | dct _ _=>cases e
 | dci _ _=>cases e
 | dcz _ _ _=>cases e
 | obj _ _ _ _=>cases e
 | dcn _ _ _=>cases e
 | shn d=>cases (show u=V.str _ from rv.val rfl);exact⟨_,.str _,by cases e;cases t<;>rfl⟩
def Qd {t:Ty}{tn:Str}(G:Good X C n sp)(hg:C.gl (kL "isinstance")=Ω)(ht:tn=kL (wK t))(hg2:C.gl tn=Ω)(hs:oh a=Ξ)(ha:FR X C a ea) :
  FE X C (.Call (.Name (kL "isinstance") p) [a,.Name tn p2] [] pos) (oH (t5 t) ea):=by
 subst ht
 let cc:oR X.nox (.builtin "isinstance") (λxs H Q=>∃ v c b T,xs=[v,.ty c]/\TyOf X.K H v (.type T)/\jk X.K (.type T) (.type c)=Ψ b/\Q (.bl b) H):=by
  rintro Z9 s σ H xs us Q I r ⟨v,c,b,T,rfl,h1,h2,q⟩
  let(u,u',rfl,ru,ru'):=vals2 r
  obtain rfl:u'=.type c:=ru'
  exact BX I ru h1 h2 λtk=>⟨.bl b,H,I.tok _,rfl,q⟩
 let tt:PE X.nox (.Name (kL (wK t)) p2) (tC (.ty (wK t))):=by
  cases t<;>exact Fb (G.gl hg2) (G.blt _ (·)) (by nofun) rfl (by nofun) (by nofun)
 exact PE.imp (qZ cc (G.gl hg) (G.blt "isinstance" (·)) (by nofun) (oy ha (oy tt pM rfl) (nX hs)) (by nofun) (by nofun) (nX hs) rfl) λσ H Q q1=>?_;let(c,L,S,Q0,I,h,k):=q1;refine
  ⟨c,L,S,_,I,h,λv L1 hv x S1 H1 r1 I1 s1=>?_⟩
 let(z,e,q):=oS hv
 let(r,e1,rfl):=rW e
 let(T,t1,t2):=Cv I1.sub r1 e1
 exact⟨x,_,_,T,rfl,t1,t2,k _ L1 q _ S1 H1 rfl I1 s1⟩
abbrev JH (ZZ Z0:Pos):Bool:=ZZ.endLine == Z0.line
def Qh (G:Good X C n sp){ZZ Z0:Pos}(h:C.nm i nx=Ω)(m:nW C.md i=.own)(hl:JH ZZ Z0=Ω)(hs:oh a=Ξ)(ha:FE X C a ea):FE X C (.Call (.Attribute (.Name nx p) (kL "append") ZZ) [a] [] Z0) (rN um i ea):=by
 exact PE.imp (GG bw PySem.F.slot_list_append PySem.F.type_list_append vZ (o7 G h) (oy ha pM (nX hs)) rfl (by rw[nX hs];rfl) hl (nX hs) rfl) λσ H Q ⟨c,L,S,Q0,I,h,k⟩=>?_
 let(v,e,h):=oS h
 let(v9,e9,h):=oS h
 cases qe e9
 let e':=(oZ _ _ _).mp e
 let mi:nW C.md i≠.imm:=λz=>by rw[m] at z;cases z
 let(l,e1,(_,ps,xs,e8,h1,_),_):=I.own i _ mi e'
 exact⟨_,e1,.inl ⟨rfl,xs,SqL.of h1⟩,c,L,S,_,I,h,λw L1 hw y S1 H1 r1 I1 s1=>?_⟩
 let(v1,e2,hw):=oS hw
 let(z,e3,q):=oS hw
 let e2':=(oZ _ _ _).mp e2
 let(qs,e4,e5):=p7 e3
 cases qe e4
 let(hb,rfl):=qM e5
 let(l',f1,(f2,rs,zs,f3,f4,f5),_):=I1.own i _ mi e2'
 rw[e1] at f1;cases f1
 cases f3
 have:=ph
 exact⟨l,zs,y,rfl,rfl,f4,by rw[<- f5.length];lia,k _ _ q .non S1 _ rfl (I1.write m e2' e1 (f5.append (RVs.one r1))) s1⟩
end
abbrev ArgsOk (K:kP)(S H:Hp)(args:List FV)(vs:List V):Bool->Prop
 | false=>RVs K S args vs
 | true=>∃ v r a us,args=v :: r/\vs=.ref a :: us/\OwnAt K S H a v/\RVs K S r us
abbrev En (K:kP)(S' H' H:Hp)(v:FV)(x:V):Bool->Prop
 | false=>RV K S' v x
 | true=>∃ a,x=.ref a/\OwnAt K S' H' a v/\H a=Φ
abbrev xf (vs:List V):Bool->Option nP
 | false=>Φ
 | true=>match vs with
  | .ref a :: _=>Ψ a
  | _=>Φ
structure Kept (K:kP)(S H S' H':Hp)(P:Option nP)(w:FV):Prop where
 same:Same S S'
 sub:Same S' H'
 grow:∀ a o,S' a=Ψ o->S a=Ψ o ∨ H a=Φ ∨ sI o=Ω
 keep:∀ a o,H a=Ψ o->P≠Ψ a->H' a=Ψ o
 back:∀ a,P=Ψ a->OwnAt K S' H' a w
abbrev Eu (K:kP)(call:CW)(io fr:Bool) (f:Nat):Sp:=λvs H Q E=>∃ S args Q0,Same S H/\ArgsOk K S H args vs io/\call f args Q0/\∀ z,Q0 z->∀ x S' H',Kept K S H S' H' (xf vs io) z.2->En K S' H' H z.1 x fr->Q x H'
section
variable {X:Cx}{C:CC}{n:Nat}{sp:kP->Nat->Sp}{a:Expr}{ea:EW}{pos p:Pos}{call:CW}
variable {K:kP}{c:Cn}{md:Md}{L:nT}{σ:L2.St}{S H S' H':Hp}{i f:Nat}{nx:Str}{xs:List Expr}{as:AW}
abbrev pU (xs:List Expr):Bool:=xs.all λx=>!oh x
def xT:∀ {xs:List Expr}{env:Env},pU xs=Ω->(backTo pos (starEach xs env)).any (·.1)=Ξ
 | [],_,_=>rfl
 | x :: xs,env,h=>by
  let h:=b2 (show (!oh x && pU xs)=Ω from h)
  rw[nX (nb h.1)]
  show (Ξ || (backTo pos (starEach xs env)).any (·.1))=Ξ
  rw[xT h.2];rfl
def Kept.iv (I:Iv K c md L σ S H){w:FV}(k:Kept K S H S' H' Φ w):Iv K c md L σ S' H':=I.go3 k.same k.sub k.grow λa o e=>k.keep a o e ∅
def tV (G:Good X C n sp){t:TA}(hf:C.fns[f]?=Ψ nx)(hg:C.gl nx=Ω)(hd:(nx == ("__debug__":Str))=Ξ)(hs:pU (a :: xs)=Ω)(ha:PA X.nox (a :: xs) t):PE X.nox (.Call (.Name nx p) (a :: xs) [] pos) (λσ H Q=>t σ H λvs H1=>sp X.K f vs H1 Q E0):=by
 let(fa,fd,ps,h1,h2,h3,h4):=G.fns f nx hf
 let h:=b2 (show (!oh a && pU xs)=Ω from hs)
 exact PE.imp (Fa (X:=X.nox) h4 G.room.toRoom (G.gl hg) h1 h2 h3 .nil Ly ha hd (nX (nb h.1)) (xT h.2)) λσ H Q q=>?_
 show t σ H λvs H1=>sp X.K f (vs++[]) H1 Q E0
 let e:(λvs H1=>sp X.K f (vs++[]) H1 Q E0)=λvs H1=>sp X.K f vs H1 Q E0:=by funext vs H1;rw[iQ]
 rw[e];exact q
def N3 (G:Good X C n sp)(e:sp X.K f=Eu X.K call Ξ Ξ f)(hf:C.fns[f]?=Ψ nx)(hg:C.gl nx=Ω)(hd:(nx == ("__debug__":Str))=Ξ)(hs:pU (a :: xs)=Ω)(ha:FA X C (a :: xs) as):FE X C (.Call (.Name nx p) (a :: xs) [] pos) (ox call f as) :=
 PE.imp (tV G hf hg hd hs ha) λσ H Q q1=>by let(c,L,S,Q0,I,h,k):=q1;exact⟨c,L,S,_,I,h,λvs L1 hv us S1 H1 r1 I1 s1=>by
  rw[e]
  exact⟨S1,vs,_,I1.sub,r1,hv,λz q x S' H' kp r=>k _ L1 q x S' H' r (kp.iv I1) (s1.trans kp.same)⟩⟩
def NS (G:Good X C n sp)(e:sp X.K f=Eu X.K call Ξ Ω f)(hf:C.fns[f]?=Ψ nx)(hg:C.gl nx=Ω)(hd:(nx == ("__debug__":Str))=Ξ)(hs:pU (a :: xs)=Ω)(ha:FA X C (a :: xs) as):FF X C (.Call (.Name nx p) (a :: xs) [] pos) (ox call f as) :=
 PE.imp (tV G hf hg hd hs ha) λσ H Q q1=>by let(c,L,S,Q0,I,h,k):=q1;exact⟨c,L,S,_,I,h,λvs L1 hv us S1 H1 r1 I1 s1=>by
  rw[e]
  exact⟨S1,vs,_,I1.sub,r1,hv,λz q x S' H' kp r=>?_⟩
  let(a,rfl,o,hn):=r
  exact k _ L1 q a S' H' o (I1.fresh hn) (kp.iv I1) (s1.trans kp.same)⟩
def Az {v:FV}{q:nP}(I:Iv K c md L σ S H)(o:OwnAt K S H q v)(fr:sk c md L σ q):∃ u,H q=Ψ u/\Iv K c md L σ (oT S q u) H/\RV K (oT S q u) v (.ref q):=by
 let(h1,ps,us,e0,h2,h3):=o
 let s:=oA (o:=vJ v us) h1
 exact⟨_,h2,⟨I.len,λi v h e=>let ⟨x,e1,r⟩:=I.imm i v h e;⟨x,e1,r.mono s⟩,λi v h e=>?_,I.dis,λa u e=>?_,I.frame,I.s0.trans s,λa u e=>?_,I.lent,I.fzs,I.fzm,I.fzp,λp hp=>let ⟨g1,g2,g3⟩:=I.prs p hp;⟨g1,by rw[nZ (fr.2.1 p hp)];exact g2,g3⟩,I.ntp,I.lnt1,I.tie⟩,?_⟩
 ·let(b,e1,(g1,rs,zs,g2,g3,g4),g5):=I.own i v h e
  let hb:b≠q:=λz=>by subst z;exact fr.2.2 i v h e e1
  exact⟨b,e1,⟨by rw[nZ hb];exact g1,rs,zs,g2,g3,g4.mono s⟩,g5⟩
 ·by_cases z:a=q
  ·subst z;rw[n5] at e;cases e;exact h2
  ·rw[nZ z] at e;exact I.sub a u e
 ·by_cases z:a=q
  ·subst z;exact .inr (.inl fr.1)
  ·rw[nZ z] at e;exact I.grow a u e
 ·cases v with
  | lst qs=>cases e0;exact⟨q,us,rfl,n5,h3.mono s⟩
  | dct ks vs=>let(hl,rfl):=qM e0;exact⟨q,us,rfl,hl,n5,h3.mono s⟩
  | dci ks vs=>let(hl,rfl):=qM e0;exact⟨q,us,rfl,hl,n5,h3.mono s⟩
  | dcz o ks vs=>let(hl,rfl):=qM e0;exact⟨q,us,rfl,hl,n5,h3.mono s⟩
  | obj C dx fs gs=>cases e0;exact⟨q,rfl,n5⟩
  | dcn z ks vs=>let(hl,rfl):=qM e0;exact⟨q,us,rfl,hl,n5,h3.mono s⟩
  | _=>cases e0
def pJ (h:FF X C a ea):FE X C a ea:=PE.imp h λσ H Q q1=>by let(c,L,S,Q0,I,h,k):=q1;exact⟨c,L,S,Q0,I,h,λv L' q a S' H' o fr I' s'=>by
 let(u,hu,I2,r):=Az I' o fr
 exact k v L' q _ _ H' r I2 (s'.trans (oA o.1))⟩
def Fd (G:Good X C n sp){t:TA}(h:C.nm i nx=Ω)(hr:PA X.nox xs t):PA X.nox (.Name nx p :: xs) (Ah (tVar i) t):=oy (o7 G h) hr rfl
def Ec {Q:VK}{fr:Bool}{Q1:FV->nT->Prop}(I:Iv K c md L σ S H)(m:nW md i=.own)(h:og call f i as L Q1)
  (k:∀ v L' x H1 S' H',Q1 v L'->En K S' H' H1 v x fr->Iv K c md L' σ S' H'->Same S S'->(∀ a,H1 a=Φ->sk c md L' σ a)->Q x H'):Ah (tVar i) (la K md as) σ H λvs H1=>Eu K call Ω fr f vs H1 Q E0:=by
 let(v0,e,h):=oS h
 let mi:nW md i≠.imm:=λz=>by rw[m] at z;cases z
 let(l,e1,_):=I.own i v0 mi ((oZ _ _ _).mp e)
 exact⟨_,e1,c,L,S,_,I,h,λvs L1 hv us S1 H1 r1 I1 s1=>?_⟩
 let(v1,e2,q):=oS hv
 let e2:=(oZ _ _ _).mp e2
 let(l',f1,o,_):=I1.own i v1 mi e2
 rw[e1] at f1;cases f1
 exact⟨S1,v1 :: vs,_,I1.sub,⟨v1,vs,l,us,rfl,rfl,o,r1⟩,q,λz q x S' H' kp r=>?_⟩
 let I2:=I1.back3 m e2 e1 kp.same kp.sub kp.grow (λb o e n=>kp.keep b o e λz=>n (by cases z;rfl)) (kp.back l rfl)
 exact k _ _ x H1 S' H' q r I2 (s1.trans kp.same) λa ha=>⟨I1.h0 ha,(I1.fresh ha).2.1,λj w mj ej z=>?_⟩
 let(_,_,g2):=I1.fresh ha
 by_cases hj:j=i
 ·subst hj;exact g2 j v1 mj e2 z
 ·rw[cL (mZ hj)] at ej;exact g2 j w mj ej z
def Ms (G:Good X C n sp){np:Str}{pp:Pos}(e:sp X.K f=Eu X.K call Ω Ξ f)(hf:C.fns[f]?=Ψ np)(hg:C.gl np=Ω)(hd:(np == ("__debug__":Str))=Ξ)(h:C.nm i nx=Ω)(m:nW C.md i=.own)(hs:pU xs=Ω)(ha:FA X C xs as):FE X C (.Call (.Name np pp) (.Name nx p :: xs) [] pos) (og call f i as) :=
 PE.imp (tV G hf hg hd (show (Ω && pU xs)=Ω by rw[hs];rfl) (Fd G h ha)) λσ H Q q1=>by
  let(c,L,S,Q0,I,h,k):=q1
  rw[e]
  exact Ec I m h λv L' x H1 S' H' q r I' s' _=>k v L' q x S' H' r I' s'
end
section
variable {K:kP}{c:Cn}{md:Md}{L:nT}{σ:L2.St}{S H:Hp}{i:Nat}{v:FV}{x:V}{a:nP}
def Iv.setI (I:Iv K c md L σ S H)(m:nW md i=.imm)(r:RV K S v x):Iv K c md (L.set i (Ψ v)) (σ.set i (Ψ x)) S H :=
 I.set (λa h z=>by subst z;exact (I.lent a h).1 m) (λz=>by rw[m] at z;cases z) (.inl ⟨m,r⟩)
def Iv.prot (I:Iv K c md L σ S H){o:HO}(h:H a=Ψ o)(hs:S a=Φ)(ho:∀ i v,(nW md i).w=Ω->L[i]?=Ψ (Ψ v)->σ[i]?≠Ψ (Ψ (.ref a)))(nt:sI o=Ξ:=by first|rfl|exact sv _ _):Iv K { c with pr:=(a,o) :: c.pr } md L σ S H :=
 ⟨I.len,I.imm,I.own,I.dis,I.sub,I.frame,I.s0,I.grow,I.lent,I.fzs,I.fzm,λp hp=>let ⟨xs,h⟩:=I.fzp p hp;⟨xs,cJ _ h⟩,λp hp=>(kj.mp hp).elim (λe=>e ▸ ⟨h,hs,ho⟩) (I.prs p),λp hp=>(kj.mp hp).elim (λe=>e ▸ nt) (I.ntp p),I.lnt1,I.tie⟩
def yq:∀ {md:Md}{i j:Nat}{m:Mo},i<md.length->nW (md.set i m) j=if j=i then m else nW md j
 | [],i,j,m,h=>absurd h (iq _)
 | a :: md,0,0,m,h=>rfl
 | a :: md,0,j+1,m,h=>(if_neg (ge j)).symm
 | a :: md,i+1,0,m,h=>(if_neg (ge i).symm).symm
 | a :: md,i+1,j+1,m,h=>by
  have:=yq (md:=md) (i:=i) (j:=j) (m:=m) (by simpa using h)
  rw[show (if j+1=i+1 then m else nW (a :: md) (j+1))=if j=i then m else nW md j by simp![Nat.add_right_cancel_iff];rfl];exact this
def Do:∀ {md:Md}{i:Nat},nW md i=.own->i<md.length
 | [],i,h=>by cases (show Mo.imm=Mo.own from h)
 | a :: md,0,h=>by simp
 | a :: md,i+1,h=>by simpa using Do (md:=md) (i:=i) h
def Iv.frz (I:Iv K c md L σ S H){ob:HO}(m:nW md i=.own)(e:L[i]?=Ψ (Ψ v))(e1:σ[i]?=Ψ (Ψ (.ref a)))(h:H a=Ψ ob) :
  Iv K { c with fz:=(i,a) :: c.fz,pr:=(a,ob) :: c.pr } (md.set i .frz) L σ S H/\∀ L σ S H,Iv K { c with fz:=(i,a) :: c.fz,pr:=(a,ob) :: c.pr } (md.set i .frz) L σ S H->Iv K c md L σ S H:=by
 let hl:=Do m
 let mi:nW md i≠.imm:=λz=>by rw[m] at z;cases z
 let M:∀ j,nW (md.set i .frz) j=if j=i then .frz else nW md j:=λj=>yq hl
 let im:∀ {j},nW (md.set i .frz) j=.imm↔nW md j=.imm:=λ{j}=>by
  rw[M]
  by_cases q:j=i
  ·subst q;rw[if_pos rfl,m];simp
  ·rw[if_neg q]
 let gm:∀ {j},(nW md j).g=Ω->nW (md.set i .frz) j=nW md j:=λ{j} h=>by
  rw[M,if_neg λq=>by rw[q,m] at h;cases h]
 let gm':∀ {j k x},nW (md.set i .frz) j=.gst k x->nW md j=.gst k x:=λ{j k x} h=>by
  rw[M] at h
  split at h
  ·cases h
  ·exact h
 let om:∀ {j},nW (md.set i .frz) j=.ob->nW md j=.ob:=λ{j} h=>by
  rw[M] at h
  split at h
  ·cases h
  ·exact h
 let nfz:∀ p∈c.fz,p.1≠i:=λp hp z=>by have:=(I.fzs p hp).1;rw[z,m] at this;cases this
 let npr:∀ p∈c.pr,p.1≠a:=λp hp z=>(I.prs p hp).2.2 i v (Mo.w_own m) e (by rw[z];exact e1)
 let(a',f1,o,_):=I.own i v mi e
 rw[e1] at f1;cases f1
 let nt:sI ob=Ξ:=by
  let(_,_,_,_,h5,_):=o
  rw[h] at h5;rw[ip h5,sv]
 constructor
 ·exact⟨I.len,λj w h=>I.imm j w (im.mp h),λj w h=>I.own j w (λz=>h (im.mpr z)),λj k w u b h1 h2=>I.dis j k w u b (λz=>h1 (im.mpr z)) (λz=>h2 (im.mpr z)),I.sub,I.frame,I.s0,I.grow,λb hb=>let ⟨g1,g2⟩:=I.lent b hb;⟨λz=>g1 (im.mp z),g2⟩,λp hp=>?_,λj w hm hj=>?_,λp hp=>?_,λp hp=>?_,λp hp=>(kj.mp hp).elim (λz=>by rw[z];exact nt) (I.ntp p),λq hq=>let ⟨g1,g2⟩:=I.lnt1 q hq;⟨by rw[gm g1];exact g1,g2⟩,λj k x C dx fs w h1 h2=>I.tie j k x C dx fs w (gm' h1) (om h2)⟩
  ·rcases kj.mp hp with rfl|hp
   ·exact⟨by rw[M,if_pos rfl],e1,v,e⟩
   ·let(g1,g2):=I.fzs p hp
    exact⟨by rw[M,if_neg (nfz p hp)];exact g1,g2⟩
  ·by_cases q:j=i
   ·subst q;exact⟨a,dO⟩
   ·rw[M,if_neg q] at hm
    let(b,g1):=I.fzm j w hm hj
    exact⟨b,cJ _ g1⟩
  ·rcases kj.mp hp with rfl|hp
   ·exact⟨_,dO⟩
   ·let(ys,g):=I.fzp p hp
    exact⟨ys,cJ _ g⟩
  ·let own':∀ {j},(nW (md.set i .frz) j).w=Ω->j≠i/\(nW md j).w=Ω:=λ{j} z=>by
    by_cases q:j=i
    ·subst q;rw[M,if_pos rfl] at z;cases z
    ·rw[M,if_neg q] at z;exact⟨q,z⟩
   rcases kj.mp hp with rfl|hp
   ·exact⟨h,o.1,λj w hm hj hz=>(own' hm).1 (I.dis j i w v a (Mo.w_imm (own' hm).2) mi hj e hz e1)⟩
   ·let(g1,g2,g3):=I.prs p hp
    exact⟨g1,g2,λj w hm=>g3 j w (own' hm).2⟩
 ·intro L σ S H J
  let(_,j1,_):=J.fzs (i,a) dO
  exact⟨J.len,λj w h=>J.imm j w (im.mpr h),λj w h=>J.own j w (λz=>h (im.mp z)),λj k w u b h1 h2=>J.dis j k w u b (λz=>h1 (im.mp z)) (λz=>h2 (im.mp z)),J.sub,J.frame,J.s0,J.grow,λb hb=>let ⟨g1,g2⟩:=J.lent b hb;⟨λz=>g1 (im.mpr z),g2⟩,λp hp=>?_,λj w hm hj=>?_,I.fzp,λp hp=>?_,I.ntp,λq hq=>?_,λj k x C dx fs w h1 h2=>?_⟩
  ·let(g1,g2):=J.fzs p (cJ _ hp)
   rw[M,if_neg (nfz p hp)] at g1
   exact⟨g1,g2⟩
  ·let q:j≠i:=λz=>by rw[z,m] at hm;cases hm
   let(b,g1):=J.fzm j w (by rw[M,if_neg q];exact hm) hj
   rcases kj.mp g1 with z|g1
   ·exact absurd (Prod.mk.inj z).1 q
   ·exact⟨b,g1⟩
  ·let(g1,g2,g3):=J.prs p (cJ _ hp)
   exact⟨g1,g2,λj w hm hj=>?_⟩
   by_cases q:j=i
   ·subst q;rw[j1];exact λz=>npr p hp (by cases z;rfl)
   ·exact g3 j w (by rw[M,if_neg q];exact hm) hj
  ·let(g1,g2):=J.lnt1 q hq
   exact⟨?_,g2⟩
   rw[M] at g1
   split at g1
   ·cases g1
   ·exact g1
  ·let n1:j≠i:=λz=>by rw[z,m] at h1;cases h1
   let n2:k≠i:=λz=>by rw[z,m] at h2;cases h2
   exact J.tie j k x C dx fs w (by rw[M,if_neg n1];exact h1) (by rw[M,if_neg n2];exact h2)
end
abbrev Cr (K:kP)(c:Cn)(md:Md)(J:It)(xs:List FV)(S1:Hp):Prop :=
 ∀ (i:Nat)(L:nT)(σ:L2.St)(S H:Hp),Iv K c md L σ S H->Same S1 S->(xs[i]?=Φ->J.stop i H)/\∀ p,xs[i]?=Ψ p->J.go i H/\∀ v H',J.yld i H v H'->∃ S',Same S S'/\(∀ c md L σ,Iv K c md L σ S H->Iv K c md L σ S' H')/\RV K S' p v
inductive liI (K:kP)(it:AW)(md md':Md)(σ:L2.St)(H:Hp)(R:It->Hp->Prop):Prop
 | mk (c:_)(L:_)(S:_)(Q0:_)(_:Iv K c md L σ S H)(_:it L Q0)(_:∀ xs L',Q0 xs L'->∀ J c' S' H',Iv K c' md' L' σ S' H'->(∀ L σ S H,Iv K c' md' L σ S H->Iv K c md L σ S H)->c'.H0=c.H0->Cr K c' md' J xs S'->Same S S'->R J H'):liI K it md md' σ H R
noncomputable abbrev li (K:kP)(md md':Md)(it:AW):TI:=liI K it md md'
abbrev FI (X:Cx)(C:CC)(md':Md)(tg Z5:Expr)(it:AW):Prop:=PI X.nox tg Z5 (li X.K C.md md' it)
section
variable {X:Cx}{C:CC}{n:Nat}{sp:kP->Nat->Sp}{a b tg:Expr}{ea eb:EW}{pos p:Pos}
variable {K:kP}{c:Cn}{md:Md}{L:nT}{σ:L2.St}{S H:Hp}{i:Nat}{nx:Str}
def PI.imp {X:Cx}{tg it:Expr}{t u:TI}(h:PI X tg it t)(f:∀ σ H R,u σ H R->t σ H R):PI X tg it u:=λZ9 s σ H R I hu=>h Z9 s σ H R I (f σ H R hu)
abbrev Its (K:kP):Bool->nP->It
 | true,a=>Itl K a
 | false,a=>Itt K a
def C7 {X:Cx}{tg it:Expr}{te:TE}(h:PE X it te):PI X tg it (λσ H R=>te σ H λv H1=>∃ b a xs,v=.ref a/\vD b X.K H1 a xs/\R (Its X.K b a) H1):=by
 intro Z9 s σ H R I hh
 exact oX (h Z9 s σ H _ I hh) λv s1 q1=>?_;let(x,H1,I1,r1,b,a,xs,e,hq,q):=q1
 subst e
 cases r1
 cases b with
 | true =>
  let(Z7,rv,p,hz):=I1.list hq
  exact eJ p.isList ?_
  exact⟨s1.heap.objs.size,[s1.heap.objs.size],_,_,H1,rfl,I1.kept (t':=s1.toks) λb o e=>bS _ e,Bw a _,⟨_,dc _ rfl,rfl,rfl⟩,λb hb=>?_,q⟩
  let e:b=s1.heap.objs.size:=by simpa using hb
  subst e
  exact I1.fpOk (lJ _) (I1.hok.fresh (lJ _))
 | false =>
  let(Z7,rv,p,hz):=I1.tuple hq
  exact dr p ?_
  exact⟨s1.heap.objs.size,[s1.heap.objs.size],_,_,H1,rfl,I1.kept (t':=s1.toks) λb o e=>bS _ e,za a _,⟨_,dc _ rfl,rfl,rfl⟩,λb hb=>?_,q⟩
  let e:b=s1.heap.objs.size:=by simpa using hb
  subst e
  exact I1.fpOk (lJ _) (I1.hok.fresh (lJ _))
def DE {t:Bool}{q:nP}{ps:List FV}{S1:Hp}(h:∀ L σ S H,Iv K c md L σ S H->Same S1 S->∃ vs,vD t K H q vs/\RVs K S ps vs):Cr K c md (Its K t q) ps S1:=by
 intro i L σ S H I s
 let(vs,h1,h2):=h L σ S H I s
 cases t with
 | true =>
  exact⟨λe=>⟨vs,h1,by rw[<- h2.length];exact aS.mp e⟩,λp ep=>?_⟩
  let(v,e1,r1):=h2.get ep
  exact⟨⟨vs,v,h1,e1⟩,λw H' ⟨eh,y⟩=>?_⟩
  have:=y vs h1
  rw[e1] at this;cases this
  subst eh
  exact⟨S,Same.refl S,λ_ _ _ _ I=>I,r1⟩
 | false =>
  exact⟨λe=>⟨vs,h1,by rw[<- h2.length];exact aS.mp e⟩,λp ep=>?_⟩
  let(v,e1,r1):=h2.get ep
  exact⟨⟨vs,v,h1,e1⟩,λw H' ⟨eh,y⟩=>?_⟩
  have:=y vs h1
  rw[e1] at this;cases this
  subst eh
  exact⟨S,Same.refl S,λ_ _ _ _ I=>I,r1⟩
def RV.stays {v:FV}{ps:List FV}{u:V}{S1:Hp}(r:RV K S1 v u)(e:qa v=Ψ ps):∃ q,u=.ref q/\∀ S H,Same S1 S->Same S H->∃ vs,vD (LW v) K H q vs/\RVs K S ps vs:=by
 cases v with
 | tup qs=>cases e;let(q,vs,rfl,h1,h2):=r;exact⟨q,rfl,λS H s s'=>⟨vs,SqT.of (s' _ _ (s _ _ h1)),h2.mono s⟩⟩
 | lst qs=>cases e;let(q,vs,rfl,h1,h2):=r;exact⟨q,rfl,λS H s s'=>⟨vs,SqL.of (s' _ _ (s _ _ h1)),h2.mono s⟩⟩
 | scr ns=>cases e;let(q,rfl,h):=r;exact⟨q,rfl,λS H s s'=>⟨_,h.sq (s.trans s'),RVs.ns ns⟩⟩
 | _=>cases e
def PF (ha:FE X C a ea):FI X C C.md tg a (qb ea):=PI.imp (C7 ha) λσ H R q1=>by let(c,L,S,Q0,I,h,k):=q1;exact
 ⟨c,L,S,_,I,h,λv L1 hv x S1 H1 r1 I1 s1=>by
  let(ps,e,q):=oS hv
  let(l,rfl,st):=r1.stays e
  let(vs,h1,h2):=st S1 H1 (Same.refl _) I1.sub
  exact⟨LW v,l,vs,rfl,h1,k ps L1 q _ c S1 H1 I1 (λ_ _ _ _ I=>I) rfl (DE λL σ S H I s=>st S H s I.sub) s1⟩⟩
def Aw {v:FV}{qs ps:List FV}(e2:Fe v=Ψ qs)(e0:qa v=Ψ ps):v=.lst ps/\qs=ps:=by
 cases v<;>first|(cases e2;cases e0;exact⟨rfl,rfl⟩)|(cases e0;done)|(cases e2;done)
def PK (G:Good X C n sp)(h:C.nm i nx=Ω)(m:nW C.md i=.own):FI X C (C.md.set i .frz) tg (.Name nx p) (qb (nQ i)):=PI.imp (C7 (o7 G h)) λσ H R q1=>by
 let(c,L,S,Q0,I,h,k):=q1
 let(v,e,h):=oS h
 let(ps,e0,q):=oS h
 let e:=(oZ _ _ _).mp e
 let(l,e1,(o1,qs,vs,e2,o2,o3),o4):=I.own i v (λz=>by rw[m] at z;cases z) e
 let(e3,e4):=Aw e2 e0
 subst e3 e4
 let(I',un):=I.frz m e e1 o2
 exact⟨_,e1,Ω,l,vs,rfl,SqL.of o2,k _ L q _ _ S H I' un rfl (DE (t:=Ω) λL σ S' H I s=>⟨vs,SqL.of (I.prs (l,.lst vs) dO).1,o3.mono s⟩) (Same.refl S)⟩
def wJ:∀ (n:Nat) (lo:Int) (i:Nat),(uq lo n)[i]?=if i<n then Ψ (.int (lo+i)) else Φ
 | 0,lo,i=>by simp[uq]
 | n+1,lo,0=>by simp[uq]
 | n+1,lo,i+1=>by
  show (uq (lo+1) n)[i]?=_
  rw[wJ n (lo+1) i]
  let e:lo+1+(i:Int)=lo+((i+1:Nat):Int):=⋯
  rw[e]
  simp
def DF {lo:Int}{m:Nat}{S1:Hp}:Cr K c md (MY lo m) (uq lo m) S1:=by
 intro i L σ S H I s
 rw[wJ]
 by_cases h:i<m
 ·rw[if_pos h]
  exact⟨λe=>(nomatch e),λp e=>?_⟩
  cases e
  exact⟨h,λv H' q1=>by let(e1,e2):=q1;exact⟨S,Same.refl S,by rw[e1];exact λ_ _ _ _ I=>I,e2⟩⟩
 ·rw[if_neg h]
  exact⟨λ_=>show m<=i by lia,λp e=>(nomatch e)⟩
def PJ (G:Good X C n sp)(hg:C.gl (kL "range")=Ω)(hs:oh a=Ξ)(ha:FE X C a ea):FI X C C.md tg (.Call (.Name (kL "range") p) [a] [] pos) (qE ea):=PI.imp (BG (G.gl hg) (G.blt "range" (·)) (oy ha pM (nX hs)) (nX hs)) λσ H R q1=>by let(c,L,S,Q0,I,h,k):=q1;exact
 ⟨c,L,S,_,I,h,λv L1 hv x S1 H1 r1 I1 s1=>by
  let(j,e,hb,q):=oS hv
  cases oU e
  let hb:=de hb
  exact⟨j,by rw[show x=.int j from r1],hb.1,hb.2,k _ L1 q _ c S1 H1 I1 (λ_ _ _ _ I=>I) rfl DF s1⟩⟩
def NN (G:Good X C n sp)(hg:C.gl (kL "range")=Ω)(hs:oh a=Ξ)(hs2:oh b=Ξ)(ha:FE X C a ea)(hb:FE X C b eb):FI X C C.md tg (.Call (.Name (kL "range") p) [a,b] [] pos) (iRng2 ea eb) :=
 PI.imp (BF (G.gl hg) (G.blt "range" (·)) (oy ha (oy hb pM (nX hs2)) (nX hs)) (by rw[nX hs,nX hs2];rfl) (nX hs2)) λσ H R q1=>by let(c,L,S,Q0,I,h,k):=q1;exact
 ⟨c,L,S,_,I,h,λv L1 hv x S1 H1 r1 I1 s1=>⟨c,L1,S1,_,I1,hv,λw L2 hw y S2 H2 r2 I2 s2=>by
  let(j,e,hw):=oS hw
  let(j',e',hb,q):=oS hw
  cases oU e;cases oU e'
  let hb:=b2 hb
  let h1:=de hb.1
  let h2:=de hb.2
  exact⟨j,j',by rw[show x=.int j from r1,show y=.int j' from r2],⟨h1.1,h1.2,h2.1,h2.2⟩,k _ L2 q _ c S2 H2 I2 (λ_ _ _ _ I=>I) rfl DF (s1.trans s2)⟩⟩⟩
def yk {P Q:FV}{u w:V}{pp:nP}(I:Iv K c md L σ S H)(hp:H pp=Φ)(r1:RV K S P u)(r2:RV K S Q w):∃ S',Same S S'/\(∀ c md L σ,Iv K c md L σ S H->Iv K c md L σ S' (oT H pp (.tup [u,w])))/\RV K S' (.tup [P,Q]) (.ref pp) :=
 ⟨oT S pp (.tup [u,w]),oA (I.sn hp),λ_ _ _ _ I=>I.new hp _,pp,[u,w],rfl,n5,u,[w],rfl,r1.mono (oA (I.sn hp)),w,[],rfl,r2.mono (oA (I.sn hp)),rfl⟩
def IA {t t':Bool}{q q':nP}{ps qs:List FV}{S1:Hp}(h:∀ L σ S H,Iv K c md L σ S H->Same S1 S->∃ vs,vD t K H q vs/\RVs K S ps vs)(h':∀ L σ S H,Iv K c md L σ S H->Same S1 S->∃ vs,vD t' K H q' vs/\RVs K S qs vs):Cr K c md (Oy K t t' q q') (pO ps qs) S1:=by
 intro i L σ S H I s
 let(vs,h1,h2):=h L σ S H I s
 let(ws,g1,g2):=h' L σ S H I s
 unfold pO
 rw[cr]
 exact⟨λz=>⟨vs,ws,h1,g1,?_⟩,λy ey=>?_⟩
 ·rw[<- h2.length,<- g2.length]
  cases c1:ps[i]? with
  | none=>exact .inl (aS.mp c1)
  | some _ =>
   cases c2:qs[i]? with
   | none=>exact .inr (aS.mp c2)
   | some _=>rw[c1,c2] at z;cases z
 ·cases c1:ps[i]? with
  | none=>rw[c1] at ey;cases ey
  | some p1 =>
   cases c2:qs[i]? with
   | none=>rw[c1,c2] at ey;cases ey
   | some q1 =>
    rw[c1,c2] at ey
    cases ey
    let(v,f1,f2):=h2.get c1
    let(w,f3,f4):=g2.get c2
    exact⟨⟨vs,ws,v,w,h1,g1,f1,f3⟩,λz H' ⟨pp,hp,ez,yy⟩=>?_⟩
    have:=yy vs ws v w h1 g1 f1 f3
    subst this ez
    exact yk I hp f2 f4
def AS {t:Bool}{q:nP}{ps:List FV}{S1:Hp}(h:∀ L σ S H,Iv K c md L σ S H->Same S1 S->∃ vs,vD t K H q vs/\RVs K S ps vs):Cr K c md (OA K t q) (pO (uq 0 ps.length) ps) S1:=by
 intro i L σ S H I s
 let(vs,h1,h2):=h L σ S H I s
 unfold pO
 rw[cr,wJ]
 exact⟨λz=>⟨vs,h1,?_⟩,λy ey=>?_⟩
 ·rw[<- h2.length]
  by_cases hi:i<ps.length
  ·rw[if_pos hi,bo hi] at z;cases z
  ·lia
 ·by_cases hi:i<ps.length
  ·rw[if_pos hi,bo hi] at ey
   cases ey
   let(v,f1,f2):=h2.get (bo hi)
   exact⟨⟨vs,v,h1,f1⟩,λz H' ⟨pp,hp,ez,yy⟩=>?_⟩
   have:=yy vs v h1 f1
   subst this ez
   exact yk I hp (show RV K S (.int (0+i)) (.int i) by show V.int i=V.int (0+i);rw[Int.zero_add]) f2
  ·rw[if_neg hi] at ey;cases ey
variable {elts:List Expr}{kk:Nat}{tp:Pos}
def PB (G:Good X C n sp)(hg:C.gl (kL "zip")=Ω)(hs:oh a=Ξ)(hs2:oh b=Ξ)(ha:FE X C a ea)(hb:FE X C b eb):FI X C C.md (.Tuple elts kk tp) (.Call (.Name (kL "zip") p) [a,b] [] pos) (IE ea eb) :=
 PI.imp (Lv (G.gl hg) (G.blt "zip" (·)) (oy ha (oy hb pM (nX hs2)) (nX hs)) (by rw[nX hs,nX hs2];rfl) (nX hs2)) λσ H R q1=>by let(c,L,S,Q0,I,h,k):=q1;exact
 ⟨c,L,S,_,I,h,λv L1 hv x S1 H1 r1 I1 s1=>⟨c,L1,S1,_,I1,hv,λw L2 hw y S2 H2 r2 I2 s2=>by
  let(ps,e,hw):=oS hw
  let(qs,e',q):=oS hw
  let(l,rfl,st):=(r1.mono s2).stays e
  let(l',rfl,st'):=r2.stays e'
  let(vs,h1,_):=st S2 H2 (Same.refl _) I2.sub
  let(ws,h2,_):=st' S2 H2 (Same.refl _) I2.sub
  exact⟨_,_,l,l',rfl,⟨vs,h1⟩,⟨ws,h2⟩,k _ L2 q _ c S2 H2 I2 (λ_ _ _ _ I=>I) rfl (IA (λL σ S H I s=>st S H s I.sub) λL σ S H I s=>st' S H s I.sub) (s1.trans s2)⟩⟩⟩
def NO (G:Good X C n sp)(hg:C.gl (kL "enumerate")=Ω)(hs:oh a=Ξ)(ha:FE X C a ea):FI X C C.md (.Tuple elts kk tp) (.Call (.Name (kL "enumerate") p) [a] [] pos) (rh ea) :=
 PI.imp (GD (G.gl hg) (G.blt "enumerate" (·)) (oy ha pM (nX hs)) (nX hs)) λσ H R q1=>by let(c,L,S,Q0,I,h,k):=q1;exact
 ⟨c,L,S,_,I,h,λv L1 hv x S1 H1 r1 I1 s1=>by
  let(ps,e,q):=oS hv
  let(l,rfl,st):=r1.stays e
  let(vs,h1,_):=st S1 H1 (Same.refl _) I1.sub
  exact⟨_,l,rfl,⟨vs,h1⟩,k _ L1 q _ c S1 H1 I1 (λ_ _ _ _ I=>I) rfl (AS λL σ S H I s=>st S H s I.sub) s1⟩⟩
end
abbrev Kr:List Nat->Ke
 | []=>IK
 | i :: is=>gCons (rm i) (Kr is)
abbrev gT (K:kP):Tg->TG
 | .nm i=>rm i
 | .tp is=>gTup K is.length (Kr is)
 | .tn i is=>gTup K 2 (gCons (rm i) (gCons (gTup K is.length (Kr is)) IK))
abbrev qW (md:Md):Tg->Bool
 | .nm i=>Δ (nW md i=.imm)
 | .tp is=>is.all λi=>Δ (nW md i=.imm)
 | .tn i is=>Δ (nW md i=.imm) && is.all λi=>Δ (nW md i=.imm)
abbrev uI (n:Nat):Tg->Bool
 | .nm i=>Δ (n<=i)
 | .tp is=>is.all λi=>Δ (n<=i)
 | .tn i is=>Δ (n<=i) && is.all λi=>Δ (n<=i)
abbrev FG (X:Cx)(t:Expr)(tg:Tg):Prop:=PG X.nox t (gT X.K tg)
section
variable {K:kP}{c:Cn}{md:Md}{L:nT}{σ:L2.St}{S H:Hp}
def uO:∀ {is:List Nat}{ps:List FV}{vs:List V}{L L':nT}{σ:L2.St},(is.all λi=>Δ (nW md i=.imm))=Ω->Iv K c md L σ S H->RVs K S ps vs->tw L is ps=Ψ L' ->
  ∃ σ',(∀ Q:L2.St->Hp->Prop,Q σ' H->Kr is vs σ H Q)/\Iv K c md L' σ' S H/\σ'.length=σ.length/\is.length=vs.length/\∀ n,(is.all λi=>Δ (n<=i))=Ω->∀ j,j<n->σ'[j]?=σ[j]?
 | [],[],vs,L,L',σ,_,I,r,e=>by cases (show vs=[] from r);cases e;exact⟨σ,λQ q=>⟨rfl,q⟩,I,rfl,rfl,λ_ _ _ _=>rfl⟩
 | i :: is,p :: ps,vs,L,L',σ,hm,I,r,e=>by
  let(v,q,rfl,h1,h2):=r
  let hm:=b2 (show (Δ (nW md i=.imm) && is.all λi=>Δ (nW md i=.imm))=Ω from hm)
  let(σ',g,I',l1,l2,far):=uO (is:=is) (ps:=ps) (vs:=q) hm.2 (I.setI (de hm.1) h1) h2 e
  exact⟨σ',λQ q'=>⟨v,q,rfl,g Q q'⟩,I',by rw[l1,iI],by rw[gC,gC,l2],λn hn j hj=>?_⟩
  let hn:=b2 (show (Δ (n<=i) && is.all λi=>Δ (n<=i))=Ω from hn)
  have:=de hn.1
  rw[far n hn.2 j hj,cL ⋯]
 | [],p :: ps,_,_,_,_,_,_,_,e=>by cases e
 | i :: is,[],_,_,_,_,_,_,_,e=>by cases e
def zM {tg:Tg}{v:FV}{x:V}{Q:nT->Prop}(hm:qW md tg=Ω)(I:Iv K c md L σ S H)(r:RV K S v x)(h:gW tg v L Q) :
  ∃ σ' L',(∀ Q':L2.St->Hp->Prop,Q' σ' H->gT K tg x σ H Q')/\Q L'/\Iv K c md L' σ' S H/\σ'.length=σ.length/\∀ n,uI n tg=Ω->∀ j,j<n->σ'[j]?=σ[j]?:=by
 cases tg with
 | nm i =>
  exact⟨σ.set i (Ψ x),L.set i (Ψ v),λQ q=>q,h,I.setI (de hm) r,iI ..,λn hn j hj=>?_⟩
  have:n<=i:=de hn
  exact cL ⋯
 | tp is =>
  let(ps,e,h):=oS h
  let(L',e1,q):=oS h
  cases pN e
  let(a,vs,rfl,h1,h2):=r
  let(σ',g,I',l1,l2,far):=uO hm I h2 e1
  exact⟨σ',L',λQ q=>⟨a,vs,rfl,SqT.of (I.sub _ _ h1),l2.symm,g Q q⟩,q,I',l1,far⟩
 | tn i is =>
  let hm:=b2 hm
  let(ps,e,h):=oS h
  let(p,e1,h):=oS h
  let(qs,e2,h):=oS h
  let(L',e3,q):=oS h
  cases pN e
  let(p1,p2):=p
  obtain rfl:ps=[p1,p2]:=by
   rcases ps with _|⟨a,_|⟨b,_|⟨c,r⟩⟩⟩<;>first|(cases e1;done)|(cases e1;rfl)
  let(a,vs,rfl,h1,h2):=r
  let(u,w,rfl,r1,r2):=h2.two_of
  cases pN e2
  let(b,ws,rfl,h3,h4):=r2
  let(σ',g,I',l1,l2,far):=uO hm.2 (I.setI (de hm.1) r1) h4 e3
  exact⟨σ',L',λQ q=>⟨a,_,rfl,SqT.of (I.sub _ _ h1),rfl,_,_,rfl,_,_,rfl,b,ws,rfl,SqT.of (I.sub _ _ h3),l2.symm,g _ ⟨rfl,q⟩⟩,q,I',by rw[l1,iI],λn hn j hj=>?_⟩
  let hn:=b2 hn
  have:=de hn.1
  rw[far n hn.2 j hj,cL ⋯]
def Iv.regrow {a:nP}{o o':HO}(I:Iv K { c with pr:=(a,o) :: c.pr } md L σ S H)(h0:c.H0 a=Φ)(hp:∀ p∈c.pr,p.1≠a)(hz:∀ p∈c.fz,∃ o,(p.2,o)∈c.pr)(nt:sI o'=Ξ:=by first|rfl|exact sv _ _):Iv K { c with pr:=(a,o') :: c.pr } md L σ S (oT H a o'):=by
 let(_,sa,na):=I.prs (a,o) dO
 let oa:∀ j w b,nW md j≠.imm->L[j]?=Ψ (Ψ w)->σ[j]?=Ψ (Ψ (.ref b))->b≠a:=λj w b hm hj hs z=>by
  subst z
  by_cases m:(nW md j).w=Ω
  ·exact na j w m hj hs
  ·let m:nW md j=.frz:=by cases q:nW md j with|imm=>exact absurd q hm|frz=>rfl|_=>rw[q] at m;exact absurd rfl m
   let(b',g1):=I.fzm j w m hj
   let(_,g2,_):=I.fzs _ g1
   rw[hs] at g2;cases g2
   let(xs,g3):=hz _ g1
   exact hp _ g3 rfl
 exact⟨I.len,I.imm,λj w hm hj=>?_,I.dis,λb u e=>?_,λb u e n n1=>?_,I.s0,I.grow,I.lent,I.fzs,I.fzm,λp hpz=>let ⟨xs,g⟩:=hz p hpz;⟨xs,cJ _ g⟩,λp hpr=>?_,λp hpr=>(kj.mp hpr).elim (λz=>by rw[z];exact nt) λz=>I.ntp p (cJ _ z),I.lnt1,I.tie⟩
 ·let(b,e1,(g1,ps,xs,g2,g3,g4),g5):=I.own j w hm hj
  exact⟨b,e1,⟨g1,ps,xs,g2,by rw[nZ (oa j w b hm hj e1)];exact g3,g4⟩,g5⟩
 ·rw[nZ λz=>by subst z;rw[sa] at e;cases e];exact I.sub b u e
 ·rw[nZ λz=>by subst z;rw[h0] at e;cases e];exact I.frame b u e n n1
 ·rcases kj.mp hpr with rfl|hpr
  ·exact⟨n5,sa,na⟩
  ·let(g1,g2,g3):=I.prs p (cJ _ hpr)
   exact⟨by rw[nZ (hp p hpr)];exact g1,g2,g3⟩
def Iv.unprot {a:nP}{o:HO}(I:Iv K { c with pr:=(a,o) :: c.pr } md L σ S H)(hz:∀ p∈c.fz,∃ o,(p.2,o)∈c.pr):Iv K c md L σ S H :=
 ⟨I.len,I.imm,I.own,I.dis,I.sub,I.frame,I.s0,I.grow,I.lent,I.fzs,I.fzm,hz,λp hp=>I.prs p (cJ _ hp),λp hp=>I.ntp p (cJ _ hp),I.lnt1,I.tie⟩
def Dp:∀ {md:Md}{i:Nat},md.length<=i->nW md i=.imm
 | [],i,_=>rfl
 | a :: md,0,h=>absurd h ∅
 | a :: md,i+1,h=>Dp (md:=md) (i:=i) (by simpa using h)
def Iv.more (I:Iv K c md L σ S H) (m:Nat):Iv K c md (L++jt m Φ) (σ++jt m Φ) S H:=by
 let look:∀ j w,(L++jt m Φ)[j]?=Ψ (Ψ w)->L[j]?=Ψ (Ψ w)/\(σ++jt m Φ)[j]?=σ[j]?:=λj w z=>by
  by_cases h:j<L.length
  ·rw[aT h] at z
   exact⟨z,aT (by rw[<- I.len];exact h)⟩
  ·rw[aE ⋯,bA] at z
   split at z<;>cases z
 let up:∀ j w,L[j]?=Ψ (Ψ w)->(L++jt m Φ)[j]?=Ψ (Ψ w)/\(σ++jt m Φ)[j]?=σ[j]?:=λj w z=>by
  let h:=(aR.mp z).1
  exact⟨by rw[aT h];exact z,aT (by rw[<- I.len];exact h)⟩
 exact⟨by simp[I.len],λj w hm z=>?_,λj w hm z=>?_,λj k w u b m1 m2 z1 z2 y1 y2=>?_,I.sub,I.frame,I.s0,I.grow,λb hb=>?_,λp hp=>?_,λj w hm z=>I.fzm j w hm (look j w z).1,I.fzp,λp hp=>?_,I.ntp,λq hq=>?_,λj k x C dx fs w h1 h2 h3 h4=>?_⟩
 ·let(z,y):=look j w z;rw[y];exact I.imm j w hm z
 ·let(z,y):=look j w z;rw[y];exact I.own j w hm z
 ·let(z1,q1):=look j w z1
  let(z2,q2):=look k u z2
  rw[q1] at y1;rw[q2] at y2
  exact I.dis j k w u b m1 m2 z1 z2 y1 y2
 ·let(g1,g2,w,g3):=I.lent b hb
  let(f1,f2):=up 0 w g3
  exact⟨g1,by rw[f2];exact g2,w,f1⟩
 ·let(g1,g2,w,g3):=I.fzs p hp
  let(f1,f2):=up p.1 w g3
  exact⟨g1,by rw[f2];exact g2,w,f1⟩
 ·let(g1,g2,g3):=I.prs p hp
  exact⟨g1,g2,λj w hm z=>?_⟩
  let(z,y):=look j w z
  rw[y];exact g3 j w hm z
 ·let(g1,g2,w,g3):=I.lnt1 q hq
  let(f1,f2):=up q.1 w g3
  exact⟨g1,by rw[f2];exact g2,w,f1⟩
 ·let(z4,y4):=look j w h4
  rw[y4]
  exact I.tie j k x C dx fs w h1 h2 (look k _ h3).1 z4
def Iv.take {n:Nat}{σ2:L2.St}(I:Iv K c md L σ2 S H)(hmd:md.length<=n)(hs:σ.length=n)(hl:n<=σ2.length)(e:∀ j,j<n->σ2[j]?=σ[j]?):Iv K c md (L.take n) σ S H:=by
 let look:∀ j w,(L.take n)[j]?=Ψ (Ψ w)->L[j]?=Ψ (Ψ w)/\σ[j]?=σ2[j]?:=λj w z=>by
  let h:=(aR.mp z).1
  rw[gz] at h
  rw[bn ⋯] at z
  exact⟨z,(e j ⋯).symm⟩
 let up:∀ j w,nW md j≠.imm->L[j]?=Ψ (Ψ w)->(L.take n)[j]?=Ψ (Ψ w)/\σ[j]?=σ2[j]?:=λj w hm z=>by
  let h:j<n:=by
   by_cases h:j<n
   ·exact h
   ·exact absurd (Dp ⋯) hm
  exact⟨by rw[bn h];exact z,(e j h).symm⟩
 exact⟨by rw[gz,I.len,hs];lia,λj w hm z=>?_,λj w hm z=>?_,λj k w u b m1 m2 z1 z2 y1 y2=>?_,I.sub,I.frame,I.s0,I.grow,λb hb=>?_,λp hp=>?_,λj w hm z=>I.fzm j w hm (look j w z).1,I.fzp,λp hp=>?_,I.ntp,λq hq=>?_,λj k x C dx fs w h1 h2 h3 h4=>?_⟩
 ·let(z,y):=look j w z;rw[y];exact I.imm j w hm z
 ·let(z,y):=look j w z;rw[y];exact I.own j w hm z
 ·let(z1,q1):=look j w z1
  let(z2,q2):=look k u z2
  rw[q1] at y1;rw[q2] at y2
  exact I.dis j k w u b m1 m2 z1 z2 y1 y2
 ·let(g1,g2,w,g3):=I.lent b hb
  let(f1,f2):=up 0 w g1 g3
  exact⟨g1,by rw[f2];exact g2,w,f1⟩
 ·let(g1,g2,w,g3):=I.fzs p hp
  let(f1,f2):=up p.1 w (λz=>by rw[g1] at z;cases z) g3
  exact⟨g1,by rw[f2];exact g2,w,f1⟩
 ·let(g1,g2,g3):=I.prs p hp
  exact⟨g1,g2,λj w hm z=>?_⟩
  let(z,y):=look j w z
  rw[y];exact g3 j w hm z
 ·let(g1,g2,w,g3):=I.lnt1 q hq
  let(f1,f2):=up q.1 w (λz=>by rw[z] at g1;cases g1) g3
  exact⟨g1,by rw[f2];exact g2,w,f1⟩
 ·let(z4,y4):=look j w h4
  rw[y4]
  exact I.tie j k x C dx fs w h1 h2 (look k _ h3).1 z4
def sC {α β:Type}{J:It}{xs:List FV}{n m:Nat}{tg:Tg}{t:BW}{QH:Hp->Prop}{fr:β->Cn}{P:α->β->Hp->Prop}{N:α->Nat}{Cm:List FV->α->nT->Prop}{em:α->nT->(α->nT->Prop)->Prop}{eh:L2.St->Hp->(Hp->Prop)->Prop}{a0:α}{b0:β}
  (I:Iv K (fr b0) md L σ S H)(hJ:Cr K c md J xs S)(hL:L.length=n)(hmd:md.length<=n)(ht:qW md tg=Ω)(hg:uI n tg=Ω)(p0:P a0 b0 S)(n0:N a0=0)(h:Cm xs a0 L)
  (hU:∀ a b L σ S H,Iv K (fr b) md L σ S H->P a b S->Iv K c md L σ S H)(hP:∀ a b S S',P a b S->Same S S'->P a b S')
  (hC:∀ x xs a L,Cm (x :: xs) a L->gW tg x (L++jt m Φ) λL1=>t L1 λb L2=>if b=Ω then em a L2 (λa' L4=>Cm xs a' (L4.take n)) else Cm xs a (L2.take n))
  (hE:∀ a b L3 σ2 S3 H3 K' Z,N a<xs.length->Iv K (fr b) md L3 σ2 S3 H3->P a b S3->em a L3 K'->(∀ a' b' L4 S4 H4,K' a' L4->Iv K (fr b') md L4 σ2 S4 H4->P a' b' S4->Same S3 S4->N a'<=N a+1->Z H4)->eh σ2 H3 Z)
  (k:∀ a b L' S' H',Cm [] a L'->Iv K (fr b) md L' σ S' H'->P a b S'->Same S S'->QH H') :
  ∃ W:Nat->Nat->Hp->Prop,(∃ m,W 0 m H)/\∀ i j H,W i j H ->
   (J.stop i H/\QH H) ∨ (J.go i H/\∀ x H',J.yld i H x H'->gT K tg x (σ++jt m Φ) H' λσ2 H2=>Wk (σ++jt m Φ) σ2/\lb K md t σ2 H2 λb H3 =>
    if b=Ω then eh σ2 H3 λH4=>∃ m',m'<j/\W (i+1) m' H4 else ∃ m',m'<j/\W (i+1) m' H3):=by
 let hl:σ.length=n:=by rw[<- I.len];exact hL
 exact⟨λi j H1=>∃ L S1 a b,j=(xs.drop i).length/\Iv K (fr b) md L σ S1 H1/\P a b S1/\Same S S1/\L.length=n/\N a<=i/\Cm (xs.drop i) a L,⟨_,L,S,a0,b0,rfl,I,p0,Same.refl S,hL,kZ n0,by rw[jy];exact h⟩,?_⟩
 rintro i j H1 ⟨L,S1,a,b,rfl,I,r,s,hL,hps,hc⟩
 let(j1,j2):=hJ i L σ S1 H1 (hU _ _ _ _ _ _ I r) s
 cases hd:xs.drop i with
 | nil =>
  left
  rw[hd] at hc
  exact⟨j1 (aS.mpr (cM.mp hd)),k a b L S1 H1 hc I r s⟩
 | cons p rest =>
  right
  rw[hd] at hc
  let hi:xs[i]?=Ψ p:=by
   have:=congrArg (·[0]?) hd
   simpa using this
  let hd':xs.drop (i+1)=rest:=by
   have:=congrArg mB hd
   simpa[jr] using this
  let hix:i<xs.length:=(aR.mp hi).1
  let(go,yl):=j2 p hi
  exact⟨go,λx H2 y=>?_⟩
  let(S2,s2,tr,rx):=yl x H2 y
  let I2:=(tr _ _ _ _ I).more m
  let(σ2,L2,gq,q2,I2,len2,far):=zM ht I2 rx (hC _ _ _ _ hc)
  let l2:n<=σ2.length:=by rw[len2,dP,hl];lia
  let far':∀ q,q<n->σ2[q]?=σ[q]?:=λq hq=>by rw[far n hg q hq,aT (by rw[hl];exact hq)]
  exact gq _ ⟨⟨len2,λq v hv=>?_⟩,?_⟩
  ·let hq:q<n:=by
    by_cases h:q<σ.length
    ·rw[<- hl];exact h
    ·rw[aE ⋯,bA] at hv
     split at hv<;>cases hv
   rw[far n hg q hq];exact hv
  ·exact⟨_,L2,S2,_,I2,q2,λb1 L3 hb3 S3 H3 I3 s3=>?_⟩
   let ln:∀ {c':Cn}{L4:nT}{S4 H4:Hp},Iv K c' md L4 σ2 S4 H4->(L4.take n).length=n:=λI4=>by rw[gz,I4.len];lia
   show ite _ _ _
   cases b1 with
   | false =>
    rw[if_neg dY] at hb3 ⊢
    exact⟨rest.length,∅,L3.take n,S3,a,b,by rw[hd'],I3.take hmd hl l2 far',hP _ _ _ _ r (s2.trans s3),s.trans (s2.trans s3),ln I3,⋯,by rw[hd'];exact hb3⟩
   | true =>
    rw[if_pos rfl] at hb3 ⊢
    exact hE a b L3 σ2 S3 H3 _ _ ⋯ I3 (hP _ _ _ _ r (s2.trans s3)) hb3 λa' b' L4 S4 H4 hv I4 r4 s4 n4=>⟨rest.length,∅,L4.take n,S4,a',b',by rw[hd'],I4.take hmd hl l2 far',r4,s.trans (s2.trans (s3.trans s4)),ln I4,⋯,by rw[hd'];exact hv⟩
def Iv.newPr {Z8:nP}{o:HO}(I:Iv K { c with pr:=(Z8,o) :: c.pr } md L σ S H)(h0:c.H0 Z8=Φ)(hp:∀ p∈c.pr,p.1≠Z8)(hz:∀ p∈c.fz,∃ o,(p.2,o)∈c.pr):H Z8=Ψ o/\S Z8=Φ/\sk c md L σ Z8:=by
 let(g1,g2,g3):=I.prs (Z8,o) dO
 exact⟨g1,g2,h0,hp,λq w hm hq hs=>?_⟩
 by_cases mo:(nW md q).w=Ω
 ·exact g3 q w mo hq hs
 ·let mo:nW md q=.frz:=by cases z:nW md q with|imm=>exact absurd z hm|frz=>rfl|_=>rw[z] at mo;exact absurd rfl mo
  let(b,f1):=I.fzm q w mo hq
  let(_,f2,_):=I.fzs _ f1
  rw[hs] at f2;cases f2
  let(ys,f3):=hz _ f1
  exact hp _ f3 rfl
def D9 {J:It}{xs:List FV}{n m:Nat}{tg:Tg}{t:BW}{e:EW}{Q:VK}{Q1:List FV->nT->Prop}(I:Iv K c md L σ S H)(hJ:Cr K c md J xs S)(hL:L.length=n)(hmd:md.length<=n)(ht:qW md tg=Ω)(hg:uI n tg=Ω)(hb:xs.length<=big)(h:rA n m tg t e xs [] L Q1)
  (k:∀ Z8 ps L' S' H',H Z8=Φ->Q1 ps L'->OwnAt K S' H' Z8 (.lst ps)->sk c md L' σ Z8->Iv K c md L' σ S' H'->Same S S'->Q (.ref Z8) H') :
  ∀ Z8,H Z8=Φ->∃ W:Nat->Nat->Hp->Prop,(∃ m,W 0 m (oT H Z8 (.lst [])))/\∀ i j H,W i j H ->
   (J.stop i H/\Q (.ref Z8) H) ∨ (J.go i H/\∀ x H',J.yld i H x H'->gT K tg x (σ++jt m Φ) H' λσ2 H2=>Wk (σ++jt m Φ) σ2/\lb K md t σ2 H2 λb H3 =>
    if b=Ω then QQ (lv K md e) Z8 σ2 H3 λH4=>∃ m',m'<j/\W (i+1) m' H4 else ∃ m',m'<j/\W (i+1) m' H3):=by
 intro Z8 hacc
 let h0:=I.h0 hacc
 let hp:∀ p∈c.pr,p.1≠Z8:=(I.fresh hacc).2.1
 let hz:=I.fzp
 let hbl:=ph
 exact sC (fr:=λus=>{ c with pr:=(Z8,.lst us) :: c.pr }) (P:=λps us S=>RVs K S ps us) (N:=lK) (Cm:=λxs ps L=>rA n m tg t e xs ps L Q1) (em:=λps L3 K'=>e L3 λv L4=>K' (ps++[v]) L4) (a0:=[]) (b0:=[]) ((I.lay hacc _).prot n5 (I.sn hacc) λj w hm hj=>(I.fresh hacc).2.2 j w (Mo.w_imm hm) hj) hJ hL hmd ht hg rfl rfl h (λ_ _ _ _ _ _ I _=>I.unprot hz) (λ_ _ _ _ r s=>r.mono s) (λ_ _ _ _ h=>h) (λps us L3 σ2 S3 H3 K' Z hn I3 r hv kz=>?_) λps us L' S' H' q I' r s'=>?_
 ·exact⟨_,L3,S3,_,I3,hv,λv L4 hv u S4 H4 r4 I4 s4=>?_⟩
  let lr:=r.length
  exact⟨us,(I4.prs (Z8,.lst us) dO).1,⋯,kz _ (us++[u]) L4 S4 _ hv (I4.regrow h0 hp hz) ((r.mono s4).append (RVs.one r4)) s4 ∅⟩
 ·let(g1,g2,f):=I'.newPr h0 hp hz
  exact k Z8 ps L' S' H' hacc q ⟨g2,ps,us,rfl,g1,r⟩ f (I'.unprot hz) s'
end
abbrev DH:Expr->Bool
 | .Set ..=>Ω
 | _=>Ξ
def vj {x:Expr}{env:Env}(h:DH x=Ξ):∀ v,foldedSetIterable x env v=pure v:=by
 intro v
 cases x<;>first|rfl|(cases h;done)
abbrev CC.tn (C:CC) (i:Nat)(x:Str):Bool:=Δ (C.N[i]?=Ψ x) && C.loc x
abbrev Hk (outer:List (Str×mT))(names:List (Str×mT)):List (Str×mT) :=
 names.map λ(n,k)=>if (k == NameKind.free && outer.lookup n == Ψ .cell) then (n,NameKind.cell) else (n,k)
abbrev CC.sub (C:CC)(scope:nF)(own:List Str)(md:Md):CC:=⟨C.N.map (tH own)++own,Hk C.sc scope.names,C.fns,md,Ξ,scope.names,C.ms,C.fl⟩
abbrev CC.scOk (C:CC)(scope:nF)(own:List Str):Bool :=
 Δ (scope.kind=.function) && scope.names.all (λp=>Δ (p.2=.cell->scope.names.lookup p.1=Ψ .cell)) && scope.names.all (λp=>Δ (p.2=.local->scope.names.lookup p.1=Ψ .local)) &&
 scope.names.all (λp=>Δ (p.2=.free->(C.sc.lookup p.1=Ψ .cell ∨ C.sc.lookup p.1=Ψ .free))) && C.N.all (λx=>if own.contains x then Δ (scope.names.lookup (FY x)=Φ) else Δ (scope.names.lookup x≠Ψ .local/\scope.names.lookup x≠Ψ .cell)) && Δ ((C.N.map (tH own)++own).Nodup)
abbrev Fq:Md->Md->Bool
 | [],_=>Ω
 | a :: md,[]=>Δ (a=.imm) && Fq md []
 | a :: md,b :: md'=>(Δ (a=.imm) || !Δ (b=.imm)) && Fq md md'
def tG:∀ {md md':Md},Fq md md'=Ω->∀ j,nW md j≠.imm->nW md' j≠.imm
 | [],_,_,j,h=>absurd rfl h
 | a :: md,[],h,0,h0=>absurd (de (b2 h).1) h0
 | a :: md,[],h,j+1,h0=>tG (md:=md) (md':=[]) (b2 h).2 j h0
 | a :: md,b :: md',h,0,h0=>λz=>by
  let h:=(b2 h).1
  let h0:a≠.imm:=h0
  let z:b=.imm:=z
  simp[h0,z] at h
 | a :: md,b :: md',h,j+1,h0=>tG (md:=md) (md':=md') (b2 h).2 j h0
abbrev KH (X:Cx)(es:List Expr)(is:List Nat):Prop:=MV X.nox es (Kr is)/\(assignEach es X.env).length=is.length/\(assignEach es X.env).findIdx? (·.1)=Φ
abbrev So (X:Cx)(C:CC)(xs:List Expr)(t:BW):Prop:=PTs X.nox xs (lb X.K C.md t)
section
variable {X:Cx}{C:CC}{n:Nat}{sp:kP->Nat->Sp}{a x:Expr}{xs:List Expr}{pos p:Pos}{i k:Nat}{nx:Str}{is:List Nat}{t u:BW}
def Good.ix (G:Good X C n sp){y:Str}(h:Δ (C.N[i]?=Ψ y)=Ω):X.N[i]?=Ψ y:=by rw[G.N];exact de h
def Good.nd' (G:Good X C n sp):X.N.Nodup:=by rw[G.N];exact G.nd
def Mg (G:Good X C n sp)(h:C.tn i nx=Ω):FG X (.Name nx p) (.nm i):=by
 let h:=b2 h
 let(l1,l2):=G.loc h.2
 exact E8 (X:=X.nox) G.nd' (G.ix h.1) l1 l2
def NP:KH X [] []:=⟨E7,rfl,rfl⟩
def Mf (G:Good X C n sp)(h:C.tn i nx=Ω)(r:KH X xs is):KH X (.Name nx p :: xs) (i :: is):=by
 let(h1,h2,h3):=r
 exact⟨C8 (Mg G h) h1 rfl,?_,?_⟩
 ·show (assignEach xs X.env).length+1=is.length+1
  rw[h2]
 ·show ((Ξ,assign (.Name nx p) X.env) :: assignEach xs X.env).findIdx? (·.1)=Φ
  rw[List.findIdx?_cons]
  simp[h3]
def GO (G:Good X C n sp)(r:KH X xs is):FG X (.Tuple xs k p) (.tp is):=Hz (X:=X.nox) G.calm r.1 r.2.1 r.2.2
def PTs.imp {e:List Expr}{t u:TT}(h:PTs X e t)(f:∀ σ H Q,u σ H Q->t σ H Q):PTs X e u:=λZ9 s σ H Q I hu=>h Z9 s σ H Q I (f σ H Q hu)
def NC:So X C [] o6:=PTs.imp Aq λσ H Q q1=>by let(c,L,S,Q0,I,h,k):=q1;exact k Ω L h S H I (Same.refl S)
def NB (h1:FB X C a t):So X C [a] t:=PTs.imp (CY h1 (Aq (X:=X.nox))) λσ H Q q1=>by let(c,L,S,Q0,I,h,k):=q1;exact
 ⟨c,L,S,_,I,h,λr L1 q S1 H1 I1 s1=>by
  cases r with
  | true=>rw[if_pos rfl];exact k Ω L1 q S1 H1 I1 s1
  | false=>rw[if_neg dY];exact k Ξ L1 q S1 H1 I1 s1⟩
def Good.sub (G:Good X C n sp){scope:nF}{own:List Str}(h:C.scOk scope own=Ω)(md:Md):CScope X scope own/\∀ fp D s H,Good (rn X scope own fp D s H) (C.sub scope own md) n sp:=by
 simp![CC.scOk,gR,decide_eq_true_eq,gK] at h
 let(((((h1,h2),h3),h4),h5),h6):=h
 exact⟨⟨h1,λp hp=>by simpa using h2 p hp,λp hp=>by simpa using h3 p hp,λp hp hk=>?_,λx hx hw=>?_,λx hx hw=>?_⟩,λfp D s H=>⟨?_,?_,h1,h6,G.calm,(λx z=>z),G.room,G.fns,G.blt,G.mts,G.fls⟩⟩
 ·have:=h4 p hp
  show X.env.scope.names.lookup p.1=_ ∨ X.env.scope.names.lookup p.1=_
  rw[G.sc];exact this hk
 ·have:=h5 x (by rw[<- G.N];exact hx)
  rw[if_neg (by rw[hw];exact dY)] at this
  exact de this
 ·have:=h5 x (by rw[<- G.N];exact hx)
  rw[if_pos hw] at this
  exact de this
 ·show X.N.map (tH own)++own=C.N.map (tH own)++own
  rw[G.N]
 ·show (relabel scope X.env).names=Hk C.sc scope.names
  unfold relabel Hk
  simp only
  exact c8 λp hp=>?_
  let(nm,kd):=p
  show (if (kd == NameKind.free && X.env.scope.kind == .function && X.env.scope.names.lookup nm == Ψ .cell)=Ω then (nm,NameKind.cell) else (nm,kd))=_
  rw[G.kind,G.sc]
  simp
variable {scope:nF}{own:List Str}{Z3 ZY Z5:Expr}{Z4:List Expr}{it:AW}{tg:Tg}{e:EW}{nn m:Nat}{md':Md}
structure CompOk (X:Cx)(C:CC) (n:Nat)(sp:kP->Nat->Sp)(scope:nF)(own:List Str)(Z3 ZY Z5:Expr)(Z4:List Expr) (nn m:Nat)(md':Md)(it:AW)(tg:Tg)(t:BW)(e:EW):Prop where
 st:(C.scOk scope own && Δ (C.N.length=nn) && Δ (own.length=m) && Δ (md'.length<=nn) && Fq C.md md' && qW md' tg && uI nn tg && !DH Z5)=Ω
 it:FI X C md' ZY Z5 it
 tg:∀ X',Good X' (C.sub scope own md') n sp->FG X' ZY tg
 ts:∀ X',Good X' (C.sub scope own md') n sp->So X' (C.sub scope own md') Z4 t
 el:∀ X',Good X' (C.sub scope own md') n sp->FE X' (C.sub scope own md') Z3 e
def CompOk.run (G:Good X C n sp)(h:CompOk X C n sp scope own Z3 ZY Z5 Z4 nn m md' it tg t e){σ:L2.St}{H:Hp}{Q:VK}(hq:lf X.K C.md (oW nn m it tg t e) σ H Q):CB (li X.K C.md md' it) (gT X.K tg) (lb X.K md' t) (lv X.K md' e) own.length σ H Q:=by
 let h0:=b2 h.st;let h1:=b2 h0.1;let h2:=b2 h1.1;let h3:=b2 h2.1;let h4:=b2 h3.1;let h5:=b2 h4.1;let h6:=b2 h5.1
 let(c,L,S,Q0,I,hh,k):=hq
 exact⟨c,L,S,_,I,hh,λxs L1 hx J c' S1 H1 I1 un e0 hJ s1=>?_⟩
 let(hl,hb,hc):=hx
 rw[de h5.2]
 refine D9 I1 hJ hl (de h4.2) h2.2 h1.2 hb hc λZ8 ps L' S' H' hn q o fr I' s'=>k _ L' q Z8 S' H' o ⟨by rw[<- e0];exact fr.1,((un _ _ _ _ I1).fresh hn).2.1,λj w hm=>fr.2.2 j w (tG h3.2 j hm)⟩ (un _ _ _ _ I') (s1.trans s')
def CompOk.blk (G:Good X C n sp)(h:CompOk X C n sp scope own Z3 ZY Z5 Z4 nn m md' it tg t e):CScope X scope own/\(∀ fp D s H,PG (rn X scope own fp D s H) ZY (gT X.K tg)/\PTs (rn X scope own fp D s H) Z4 (lb X.K md' t)/\PE (rn X scope own fp D s H) Z3 (lv X.K md' e))/\∀ v,foldedSetIterable Z5 X.env v=pure v:=by
 let h0:=b2 h.st;let h1:=b2 h0.1;let h2:=b2 h1.1;let h3:=b2 h2.1;let h4:=b2 h3.1;let h5:=b2 h4.1;let h6:=b2 h5.1
 let(s1,s2):=G.sub h6.1 md'
 exact⟨s1,λfp D s H=>⟨h.tg _ (s2 fp D s H),h.ts _ (s2 fp D s H),h.el _ (s2 fp D s H)⟩,vj (nb h0.2)⟩
def oE (G:Good X C n sp)(h:CompOk X C n sp scope own Z3 ZY Z5 Z4 nn m md' it tg t e):FF X C (.ListComp Z3 [⟨ZY,Z5,Z4,0⟩] scope pos) (oW nn m it tg t e):=by
 let(s1,s2,s3):=h.blk G
 exact PE.imp (Au G.calm s1 h.it s2 s3) λσ H Q q=>h.run G q
end
abbrev MT (K:kP)(c:Cn)(S H:Hp)(v:FV)(x:V):Bool->Prop
 | false=>RV K S v x
 | true=>∃ a,x=.ref a/\OwnAt K S H a v/\c.H0 a=Φ
abbrev M4 (K:kP)(c:Cn)(fr:Bool)(D:Ends)(σ:L2.St)(S H:Hp):FFl->Prop
 | .next=>D.nx σ H
 | .brk=>D.bk σ H
 | .cont=>D.ct σ H
 | .ret v=>∀ x,MT K c S H v x fr->D.rt x H
inductive ls (K:kP)(md:Md)(fr:Bool)(s:SW)(D:Ends)(σ:L2.St)(H:Hp):Prop
 | mk (c:_)(L:_)(S:_)(Q0:_)(_:Iv K c md L σ S H)(_:s L Q0)(_:∀ fl L',Q0 fl L'->∀ σ' S' H',Iv K c md L' σ' S' H'->Same S S'->M4 K c fr D σ' S' H' fl):ls K md fr s D σ H
abbrev FS (X:Cx)(C:CC)(fr:Bool)(x:nL)(s:SW):Prop:=PS X.nox x (ls X.K C.md fr s)
abbrev Bp (X:Cx)(C:CC)(fr:Bool)(x:List nL)(s:SW):Prop:=PSs X.nox x (ls X.K C.md fr s)
abbrev CC.wmd (C:CC)(md:Md):CC:=⟨C.N,C.sc,C.fns,md,C.top,C.oc,C.ms,C.fl⟩
section
variable {X:Cx}{C:CC}{n:Nat}{sp:kP->Nat->Sp}{fr:Bool}{a b x y:Expr}{e ea eb:EW}{pos p px py:Pos}{i j k:Nat}{nx:Str}{is:List Nat}{st:nL}{sts:List nL}{s r:SW}
variable {K:kP}{c:Cn}{md:Md}{L:nT}{σ:L2.St}{S H:Hp}
def Good.wmd (G:Good X C n sp)(md:Md):Good X (C.wmd md) n sp:=⟨G.N,G.sc,G.kind,G.nd,G.calm,G.fn,G.room,G.fns,G.blt,G.mts,G.fls⟩
def PS.imp {e:nL}{t u:TS}(h:PS X e t)(f:∀ D σ H,u D σ H->t D σ H):PS X e u:=λZ9 s σ H D I hu=>h Z9 s σ H D I (f D σ H hu)
def PSs.imp {e:List nL}{t u:TS}(h:PSs X e t)(f:∀ D σ H,u D σ H->t D σ H):PSs X e u:=λZ9 s σ H D I hu=>h Z9 s σ H D I (f D σ H hu)
def Pv:Bp X C fr [] pD:=PSs.imp EU λD σ H q1=>by let(c,L,S,Q0,I,h,k):=q1;exact k .next L h σ S H I (Same.refl S)
def rG (h:FS X C fr st s):Bp X C fr [st] s:=ET h
def or (h:FS X C fr st s)(h2:Bp X C fr sts r):Bp X C fr (st :: sts) (nY s r):=PSs.imp (C1 h h2) λD σ H q1=>by let(c,L,S,Q0,I,h,k):=q1;exact
 ⟨c,L,S,_,I,h,λfl L1 q σ1 S1 H1 I1 s1=>by
  cases fl with
  | next=>exact⟨c,L1,S1,_,I1,q,λfl L2 q σ2 S2 H2 I2 s2=>k fl L2 q σ2 S2 H2 I2 (s1.trans s2)⟩
  | brk=>exact k _ L1 q σ1 S1 H1 I1 s1
  | cont=>exact k _ L1 q σ1 S1 H1 I1 s1
  | ret v=>exact k _ L1 q σ1 S1 H1 I1 s1⟩
abbrev rX:Expr->Bool
 | .ListComp ..=>Ω
 | .SetComp ..=>Ω
 | .DictComp ..=>Ω
 | _=>Ξ
def qX {e:Expr}{t:Option Expr}{n:Nat}{env:Env}(h:rX e=Ξ):swapsWith e t n env=pure Ξ:=by
 cases e<;>first|rfl|(cases h;done)
def CG {e t:Expr}{n:Nat}{env:Env}(h:rX e=Ξ):swapsWithSole [t] e n env=pure Ξ:=by
 delta swapsWithSole;exact qX h
def NH (hc:rX a=Ξ)(h:FE X C a e):FS X C fr (.Expr a pos) (rT e):=PS.imp (EY h (qX hc)) λD σ H q1=>by let(c,L,S,Q0,I,h,k):=q1;exact
 ⟨c,L,S,_,I,h,λv L1 q x S1 H1 r I1 s1=>k .next L1 q σ S1 H1 I1 s1⟩
def Pu (h:FE X C a e):FS X C Ξ (.Return (Ψ a) pos) (ou e):=PS.imp (zu h) λD σ H q1=>by let(c,L,S,Q0,I,h,k):=q1;exact
 ⟨c,L,S,_,I,h,λv L1 q x S1 H1 r I1 s1=>k (.ret v) L1 q σ S1 H1 I1 s1 x r⟩
def NG (h:FF X C a e):FS X C Ω (.Return (Ψ a) pos) (ou e):=PS.imp (zu h) λD σ H q1=>by let(c,L,S,Q0,I,h,k):=q1;exact
 ⟨c,L,S,_,I,h,λv L1 q l S1 H1 o fr I1 s1=>k (.ret v) L1 q σ S1 H1 I1 s1 _ ⟨l,rfl,o,fr.1⟩⟩
def Iv.mine (I:Iv K c md L σ S H){v:FV}{a:nP}(hi:i≠0)(m:nW md i≠.imm)(e:L[i]?=Ψ (Ψ v))(e1:σ[i]?=Ψ (Ψ (.ref a)))(ng:(nW md i).g=Ξ:=by first|rfl|(simp![*];rfl)):c.H0 a=Φ:=by
 let(b,e2,_,h):=I.own i v m e
 rw[e1] at e2;cases e2
 rcases h with h|h|⟨j,h⟩
 ·let(g1,g2,w,g3):=I.lent a h
  exact absurd (I.dis i 0 v w a m g1 e g3 e1 g2) hi
 ·exact h
 ·let(g1,g2,w,g3):=I.lnt1 _ h
  have:=I.dis i j v w a m (λz=>by rw[z] at g1;cases g1) e g3 e1 g2
  subst this
  rw[ng] at g1;cases g1
def NF (G:Good X C n sp)(h:C.nm i nx=Ω)(m:(Δ (nW C.md i=.own) && Δ (i≠0))=Ω):FS X C Ω (.Return (Ψ (.Name nx p)) pos) (ou (nQ i)):=PS.imp (zu (o7 G h)) λD σ H q1=>by
 let(c,L,S,Q0,I,h,k):=q1
 let m:=b2 m
 let mi:nW C.md i≠.imm:=λz=>by rw[de m.1] at z;cases z
 let(v,e,q):=oS h
 let e:=(oZ _ _ _).mp e
 let(l,e1,o,_):=I.own i v mi e
 exact⟨_,e1,k (.ret v) L q σ S H I (Same.refl S) _ ⟨l,rfl,o,I.mine (de m.2) mi e e1 (by rw[de m.1];rfl)⟩⟩
def fs_if {t:BW}{xa xb:List nL}(h:FB X C a t)(ha:Bp X C fr xa s)(hb:Bp X C fr xb r):FS X C fr (.If a xa xb pos) (rD t s r):=PS.imp (Lu h ha hb) λD σ H q1=>by let(c,L,S,Q0,I,h,k):=q1;exact
 ⟨c,L,S,_,I,h,λv L1 q S1 H1 I1 s1=>by
  cases v with
  | true=>rw[if_pos rfl] at q ⊢;exact⟨c,L1,S1,_,I1,q,λfl L2 q σ2 S2 H2 I2 s2=>k fl L2 q σ2 S2 H2 I2 (s1.trans s2)⟩
  | false=>rw[if_neg dY] at q ⊢;exact⟨c,L1,S1,_,I1,q,λfl L2 q σ2 S2 H2 I2 s2=>k fl L2 q σ2 S2 H2 I2 (s1.trans s2)⟩⟩
def xH {tg:Tg}{te:TE}(ht:qW C.md tg=Ω)(hte:∀ σ H Q,lv X.K C.md e σ H Q->te σ H Q)(h:PS X.nox st (vH te (gT X.K tg))):FS X C fr st (oo e tg):=PS.imp h λD σ H ⟨c,L,S,Q0,I,h,k⟩=>hte _ _ _
 ⟨c,L,S,_,I,h,λv L1 q x S1 H1 r I1 s1=>by
  let(σ',L',g,q,I2,_):=zM ht I1 r q
  exact g _ (k .next L' q σ' S1 H1 I2 s1)⟩
def Gn {te:TE}(m:nW C.md i=.imm)(hte:∀ σ H Q,lf X.K C.md e σ H Q->te σ H Q)(h:PS X.nox st (vH te (rm i))):FS X C fr st (oo e (.nm i)):=PS.imp h λD σ H ⟨c,L,S,Q0,I,h,k⟩=>hte _ _ _
 ⟨c,L,S,_,I,h,λv L1 q l S1 H1 o f I1 s1=>by
  let(u,hu,I2,r):=Az I1 o f
  exact k .next _ q _ _ H1 (I2.setI m r) (s1.trans (oA o.1))⟩
def xI {te:TE}(m:(Δ (nW C.md i=.own) && Δ (i≠0))=Ω)(hte:∀ σ H Q,lf X.K C.md e σ H Q->te σ H Q)(h:PS X.nox st (vH te (rm i))):FS X C fr st (oo e (.nm i)):=PS.imp h λD σ H ⟨c,L,S,Q0,I,h,k⟩=>hte _ _ _
 ⟨c,L,S,_,I,h,λv L1 q l S1 H1 o f I1 s1=>by
  let m:=b2 m
  exact k .next _ q _ _ H1 (I1.set (λ_ _=>de m.2) (λz=>by rw[de m.1] at z;cases z) (.inr ⟨de m.1,l,rfl,o,f.1,f.2.1,λj w _ hm hj=>f.2.2 j w hm hj⟩)) s1⟩
def Ar (G:Good X C n sp){te:TE}(ht:C.tn i nx=Ω)(hs:swapsWith a (Ψ (.Name nx px)) pos.line X.env=pure Ξ)(h:PE X.nox a te):PS X.nox (.Assign [.Name nx px] a pos) (vH te (rm i)):=by
 let ht:=b2 ht
 let(l1,l2):=G.loc ht.2
 exact Hv (X:=X.nox) G.nd' (G.ix ht.1) l1 h hs l2
def Pt (G:Good X C n sp)(ht:C.tn i nx=Ω)(m:nW C.md i=.imm)(hc:rX a=Ξ)(h:FE X C a e):FS X C fr (.Assign [.Name nx px] a pos) (oo e (.nm i)) :=
 xH (tg:=.nm i) (by simpa[qW] using m) (λ_ _ _ z=>z) (Ar G ht (qX hc) h)
def NE (G:Good X C n sp)(ht:C.tn i nx=Ω)(m:(Δ (nW C.md i=.own) && Δ (i≠0))=Ω)(hc:rX a=Ξ)(h:FF X C a e):FS X C fr (.Assign [.Name nx px] a pos) (oo e (.nm i)) :=
 xI m (λ_ _ _ z=>z) (Ar G ht (qX hc) h)
abbrev Nd (C:CC)(x:Str)(px:Pos)(scope:nF)(p:Pos):Bool:=Δ (C.sc.lookup x=Ψ .local) && (px.line == p.line) && !(scope.names.any λ(n,k)=>n == x && (k == .local || k == .cell))
def EI {Z3:Expr}{gs:List kB}{scope:nF}{p px:Pos}{x:Str}{n:Nat}{env:Env}(hk:env.scope.kind=.function) :
  swapsWith (.ListComp Z3 gs scope p) (Ψ (.Name x px)) n env=pure (Δ (env.scope.names.lookup x=Ψ .local) && (px.line == p.line) && !(scope.names.any λ(n,k)=>n == x && (k == .local || k == .cell))):=by
 let hb:env.blockKind=.function:=by unfold kw;rw[hk];rfl
 have:(env.kindOf x == Ψ .local)=Δ (env.scope.names.lookup x=Ψ .local):=by
  rw[iW];simp[Env.kindOf]
 unfold swapsWith
 simp![hb,this]
 rfl
variable {scope:nF}{own:List Str}{Z3 ZY Z5:Expr}{Z4:List Expr}{it:AW}{tg:Tg}{t:BW}{nn m:Nat}{md':Md}
def D8 (G:Good X C n sp)(ht:C.tn i nx=Ω)(h:CompOk X C n sp scope own Z3 ZY Z5 Z4 nn m md' it tg t e):∃ te:TE,(∀ σ H Q,lf X.K C.md (oW nn m it tg t e) σ H Q->te σ H Q)/\PS X.nox (.Assign [.Name nx px] (.ListComp Z3 [⟨ZY,Z5,Z4,0⟩] scope p) pos) (vH te (rm i)):=by
 let hsw:swapsWith (.ListComp Z3 [⟨ZY,Z5,Z4,0⟩] scope p) (Ψ (.Name nx px)) pos.line X.env=pure (Nd C nx px scope p):=by rw[EI G.kind,G.sc];rfl
 let(s1,s2,s3):=h.blk G
 cases hb:Nd C nx px scope p with
 | false =>
  rw[hb] at hsw
  exact⟨_,λσ H Q q=>h.run G q,Ar G ht hsw (Au G.calm s1 h.it s2 s3)⟩
 | true =>
  rw[hb] at hsw
  let hlo:X.env.scope.names.lookup nx=Ψ .local:=by
   rw[G.sc]
   let hb:=b2 hb
   exact de (b2 hb.1).1
  exact⟨_,λσ H Q q=>h.run G q,zt G.calm s1 G.nd' (G.ix (b2 ht).1) hlo h.it s2 hsw s3⟩
def xq (G:Good X C n sp)(ht:C.tn i nx=Ω)(hm:nW C.md i=.imm)(h:CompOk X C n sp scope own Z3 ZY Z5 Z4 nn m md' it tg t e):FS X C fr (.Assign [.Name nx px] (.ListComp Z3 [⟨ZY,Z5,Z4,0⟩] scope p) pos) (oo (oW nn m it tg t e) (.nm i)) :=
 let ⟨te,h1,h2⟩:=D8 G ht h
 Gn hm h1 h2
abbrev OD:Expr->Bool
 | .Tuple ..=>Ω
 | _=>Ξ
abbrev qr:Expr->Bool
 | .Starred ..=>Ω
 | _=>Ξ
def Pr (G:Good X C n sp){ts:List Expr}(hm:qW C.md (.tp is)=Ω)(hn:OD a=Ξ)(hg:KH X ts is)(h:FE X C a e):FS X C fr (.Assign [.Tuple ts k p] a pos) (oo e (.tp is)) :=
 xH (tg:=.tp is) hm (λ_ _ _ z=>z) (zw (X:=X.nox) h (GO G hg) (by cases a<;>rfl) (by cases a<;>first|rfl|(cases hn;done)) rfl)
abbrev zD (sc:List (Str×mT))(t:Expr):Bool:=match t with
 | .Name x _=>!(Δ (sc.lookup x=Ψ .local))
 | _=>Ω
abbrev LV (env:Env) (l:Nat):Expr->Option Str
 | .Name id pos=>if env.kindOf id == Ψ .local && pos.line == l then Ψ id else Φ
 | _=>Φ
abbrev Km (ts vs:List Expr)(env:Env):Bool:=!(ts.length == 2 || ts.length == 3) || vs.length != ts.length || env.blockKind != .function
abbrev Kl (ts:List Expr)(ns:List Str):Bool:=ns.length != ts.length || ns.eraseDups.length != ns.length
abbrev Nc (ts:List Expr)(env:Env):List Str:=ts.filterMap (LV env ((ts.head?.map (·.pos.line)).getD 0))
def Gw (ts vs:List Expr) (k k2:Nat)(tp tp2:Pos)(env:Env):∃ z,swappedStores [.Tuple ts k tp] (.Tuple vs k2 tp2) env=if Km ts vs env then pure Φ else if vs.any qr then pure Φ else if Kl ts (Nc ts env) then pure Φ else if vs.all (foldedForSure 8) then pure Φ else if vs.all (constantsAlone 8) then z else pure (Ψ (Nc ts env)):=⟨_,rfl⟩
def K1 {ts vs:List Expr}{k k2:Nat}{tp tp2:Pos}{env:Env}(h:4<=ts.length ∨ ∃ t∈ts,zD env.scope.names t=Ω):swappedStores [.Tuple ts k tp] (.Tuple vs k2 tp2) env=pure Φ:=by
 let(z,e):=Gw ts vs k k2 tp tp2 env
 let c:Km ts vs env=Ω ∨ Kl ts (Nc ts env)=Ω:=by
  rcases h with h|⟨t,ht,hn⟩
  ·left
   let a:(ts.length == 2 || ts.length == 3)=Ξ:=by
    rw[Bool.or_eq_false_iff,beq_eq_false_iff_ne,beq_eq_false_iff_ne];lia
   unfold Km;rw[a];rfl
  ·right
   let lt:∀ (l:List Expr)(f:Expr->Option Str),t∈l->f t=Φ->(l.filterMap f).length<l.length:=by
    intro l f
    induction l with
    | nil=>intro h;cases h
    | cons a r ih =>
     intro hm hf
     let le:=List.length_filterMap_le f r
     rcases kj.mp hm with rfl|hm
     ·rw[da,hf,gC];show (jx f r).length<_;lia
     ·have:=ih hm hf
      rw[da,gC]
      cases f a with
      | none=>show (jx f r).length<_;lia
      | some b=>show (jx f r).length+1<_;lia
   have:=lt ts (LV env ((ts.head?.map (·.pos.line)).getD 0)) ht (by
    cases t with
    | Name x p =>
     let hx:(env.kindOf x == Ψ NameKind.local)=Ξ:=by
      rw[beq_eq_false_iff_ne]
      intro q
      have:(!(Δ (env.scope.names.lookup x=Ψ .local)))=Ω:=hn
      rw[show env.scope.names.lookup x=Ψ .local from q] at this
      exact absurd this (·)
     show (if env.kindOf x == Ψ .local && _ then Ψ x else Φ)=Φ
     rw[hx];rfl
    | _=>rfl)
   unfold Kl
   rw[iV,bne_iff_ne]
   exact .inl (kU this)
 rw[e]
 rcases c with c|c
 ·rw[if_pos c]
 ·rw[c];simp![if_true,ite_self]
def ND (G:Good X C n sp){ts vs:List Expr}{k2:Nat}{p2:Pos}(hm:qW C.md (.tp is)=Ω)(hn:(Δ (4<=ts.length) || ts.any λt=>zD C.sc t)=Ω)(hg:KH X ts is)(h:FE X C (.Tuple vs k2 p2) e):FS X C fr (.Assign [.Tuple ts k p] (.Tuple vs k2 p2) pos) (oo e (.tp is)) :=
 xH (tg:=.tp is) hm (λ_ _ _ z=>z) (zw (X:=X.nox) h (GO G hg) rfl (K1 (by
  show 4<=ts.length ∨ ∃ t∈ts,zD X.env.scope.names t=Ω
  rw[G.sc]
  simpa using hn)) rfl)
def Gv {ts vs:List Expr}{k k2:Nat}{tp tp2:Pos}{env:Env}{ns:List Str}(h1:Km ts vs env=Ξ)(h2:vs.any qr=Ξ)(h3:Nc ts env=ns)(h4:Kl ts ns=Ξ)(h5:vs.all (foldedForSure 8)=Ξ)(h6:vs.all (constantsAlone 8)=Ξ):swappedStores [.Tuple ts k tp] (.Tuple vs k2 tp2) env=pure (Ψ ns):=by
 let(z,e):=Gw ts vs k k2 tp tp2 env
 rw[e,h1,h2,h3,h4,h5,h6];rfl
def vc {env:Env}{l:Nat}{x:Str}{p:Pos}(hx:env.scope.names.lookup x=Ψ .local)(hl:(p.line == l)=Ω):LV env l (.Name x p)=Ψ x:=by
 show (if env.kindOf x == Ψ .local && p.line == l then Ψ x else Φ)=Ψ x
 rw[hl,show env.kindOf x=Ψ .local from hx];rfl
def AN {env:Env}(hk:env.scope.kind=.function):env.blockKind=.function:=by unfold kw;rw[hk];rfl
def sw2 {x y:Str}{px py pt pt2:Pos}{kt k2:Nat}{a b:Expr}{env:Env}(hk:env.scope.kind=.function)(hx:env.scope.names.lookup x=Ψ .local)(hy:env.scope.names.lookup y=Ψ .local)(hxy:x≠y)(hl:(py.line == px.line)=Ω)
  (sa:qr a=Ξ)(sb:qr b=Ξ)(hf:(foldedForSure 8 a && foldedForSure 8 b)=Ξ)(hc:(constantsAlone 8 a && constantsAlone 8 b)=Ξ) :
  swappedStores [.Tuple [.Name x px,.Name y py] kt pt] (.Tuple [a,b] k2 pt2) env=pure (Ψ [x,y]):=by
 exact Gv (by unfold Km;rw[AN hk];rfl) ?_ ?_ ?_ ?_ ?_
 ·show (qr a || (qr b || false))=Ξ;rw[sa,sb];rfl
 ·show jx (LV env px.line) [.Name x px,.Name y py]=_
  rw[da,vc hx (beq_self_eq_true _),da,vc hy hl];rfl
 ·unfold Kl;simp[db,mZ hxy]
 ·show (_ && (_ && Ω))=Ξ;rw[kD];exact hf
 ·show (_ && (_ && Ω))=Ξ;rw[kD];exact hc
abbrev Dg (C:CC) (i j:Nat)(x y:Str)(px py:Pos)(a b:Expr):Bool:=Δ (C.N[i]?=Ψ x) && Δ (C.N[j]?=Ψ y) && Δ (i≠j) && Δ (x≠y) && Δ (C.sc.lookup x=Ψ .local) && Δ (C.sc.lookup y=Ψ .local) && (py.line == px.line) && !qr a && !qr b && !(foldedForSure 8 a && foldedForSure 8 b) && !(constantsAlone 8 a && constantsAlone 8 b)
def CN {xo xi : Expr} {p : Pos} {env : Env} (h : qg xi = Ξ) : ∀ v, assign (.Subscript xo xi p) env v = (do
      let ov <- holding [v] (eval xo env)
      let iv <- holding [v,ov] (eval xi env)
      standAt p
      holding [v,ov,iv] (setItem ov iv v)
      release [v,ov,iv] []):=by
  intro v
  cases xi<;>first|rfl|(cases h;done)
def fs_ix (G:Good X C n sp)(hn:C.nm i nx=Ω)(m:nW C.md i=.own)(hc:(!rX a && !qg b)=Ω)(ha:FE X C a ea)(hb:FE X C b eb):FS X C fr (.Assign [.Subscript (.Name nx px) b p] a pos) (wQ i eb ea):=by
 let hc:=b2 hc
 exact PS.imp (zw (X:=X.nox) ha (HC (o7 (pos:=px) G hn) hb CO (CN (nb hc.2))) (CG (nb hc.1)) rfl rfl) λD σ H ⟨c,L,S,Q0,I,h,k⟩=>?_
 let mi:nW C.md i≠.imm:=λz=>by rw[m] at z;cases z
 let(v0,e,h):=oS h
 let(l,e1,_):=I.own i v0 mi ((oZ _ _ _).mp e)
 exact⟨c,L,S,_,I,h,λv L1 q x S1 H1 r1 I1 s1=>⟨_,e1,c,L1,S1,_,I1,q,λw L2 q y S2 H2 r2 I2 s2=>?_⟩⟩
 let(v1,e2,q2):=oS q
 let(z,e3,q3):=oS q2
 let e2:=(oZ _ _ _).mp e2
 let(l',f1,(o1,ps,us,e9,o2,o3),_):=I2.own i v1 mi e2
 rw[e1] at f1;cases f1
 let(xs,g1,e3):=p7 e3
 let(nn,g2,e3):=p7 e3
 let(pp,g3,rfl):=rW e3
 cases qe g1
 cases e9
 obtain rfl:w=.int nn:=by cases w<;>cases g2;rfl
 obtain rfl:y=.int nn:=r2
 exact⟨l,us,nn,pp,rfl,rfl,o2,by rw[<- o3.length];exact g3,?_⟩
 exact k .next _ q3 σ S2 _ (I2.write m e2 e1 (o3.set pp (r1.mono s2))) (s1.trans s2)
abbrev Eg (f:Int->Int->Int):FV->FV->Option FV
 | .int a,.int b=>Ψ (.int (f a b))
 | _,_=>Φ
def Gk {f:Int->Int->Int}{v w z:FV}(h:Eg f v w=Ψ z):∃ a b,v=.int a/\w=.int b/\z=.int (f a b):=by
 obtain⟨a,rfl⟩:∃ a,v=.int a:=by cases v<;>first|exact⟨_,rfl⟩|cases h
 cases w<;>first|(cases h;exact⟨_,_,rfl,rfl,rfl⟩)|cases h
def Kb {f:Int->Int->Int}(m:nW C.md i=.imm)(h:PS X.nox st (tAug i (lv X.K C.md e) (ipI f))):FS X C fr st (EL (Eg f) i e):=PS.imp h λD σ H q1=>by
 let(c,L,S,Q0,I,h,k):=q1
 let(v,e0,h):=oS h
 let(x,e1,r):=I.imm i v m ((oZ _ _ _).mp e0)
 exact⟨x,e1,c,L,S,_,I,h,λw L1 q y S1 H1 r1 I1 s1=>?_⟩
 let(z,e2,q):=oS q
 let(a,b,rfl,rfl,rfl):=Gk e2
 exact⟨a,b,r,r1,k .next _ q _ S1 H1 (I1.setI (v:=.int _) m rfl) s1⟩
def Pw (G:Good X C n sp)(ht:C.tn i nx=Ω)(m:nW C.md i=.imm)(h:FE X C a e):FS X C fr (.AugAssign (.Name nx px) .Add a pos) (EL (Eg λi j=>i+j) i e):=by
 let ht:=b2 ht
 let(l1,l2):=G.loc ht.2
 exact Kb m (C3 (X:=X.nox) G.nd' (G.ix ht.1) l1 h IC l2)
def F4 {J:It}{xs:List FV}{D:Ends}{Q0:FFl->nT->Prop}(I:Iv K c md L σ S H)(hJ:Cr K c md J xs S)(ht:qW md tg=Ω)(h:yE tg s xs L Q0)
  (k:∀ fl L',Q0 fl L'->∀ σ' S' H',Iv K c md L' σ' S' H'->Same S S'->M4 K c fr D σ' S' H' fl) :
  ∃ W:Nat->Nat->L2.St->Hp->Prop,(∃ m,W 0 m σ H)/\∀ i m σ H,W i m σ H ->
   (J.stop i H/\D.nx σ H) ∨ (J.go i H/\∃ N:L2.St->Hp->Prop,(∀ σ' H',N σ' H'->∃ m',m'<m/\W (i+1) m' σ' H')/\∀ x H',J.yld i H x H'->gT K tg x σ H' λσ2 H2=>ls K md fr s { D with nx:=N,ct:=N,bk:=D.nx } σ2 H2):=by
 let W:Nat->Nat->L2.St->Hp->Prop:=λi j σ1 H1=>∃ L S1,j=(xs.drop i).length/\Iv K c md L σ1 S1 H1/\Same S S1/\yE tg s (xs.drop i) L Q0
 exact⟨W,⟨_,L,S,rfl,I,Same.refl S,by rw[jy];exact h⟩,?_⟩
 rintro i m σ1 H1 ⟨L,S1,rfl,I,s1,h⟩
 let(j1,j2):=hJ i L σ1 S1 H1 I s1
 cases hd:xs.drop i with
 | nil =>
  rw[hd] at h
  exact .inl ⟨j1 (aS.mpr (cM.mp hd)),k .next L h σ1 S1 H1 I s1⟩
 | cons p rest =>
  right
  rw[hd] at h
  let hi:xs[i]?=Ψ p:=by
   have:=congrArg (·[0]?) hd
   simpa using this
  let hd':xs.drop (i+1)=rest:=by
   have:=congrArg mB hd
   simpa[jr] using this
  let(go,yl):=j2 p hi
  exact⟨go,λσ' H'=>∃ m',m'<rest.length+1/\W (i+1) m' σ' H',λσ' H' h=>h,λx H2 y=>?_⟩
  let(S2,s2,tr,rx):=yl x H2 y
  let I2:=tr _ _ _ _ I
  let(σ2,L2,g,q,I3,_):=zM ht I2 rx h
  exact g _ ⟨c,L2,S2,_,I3,q,λfl L3 q σ3 S3 H3 I4 s3=>?_⟩
  let ss:=s1.trans (s2.trans s3)
  cases fl with
  | next=>exact⟨_,gk _,L3,S3,by rw[hd'],I4,ss,by rw[hd'];exact q⟩
  | cont=>exact⟨_,gk _,L3,S3,by rw[hd'],I4,ss,by rw[hd'];exact q⟩
  | brk=>exact k .next L3 q σ3 S3 H3 I4 ss
  | ret v=>exact k (.ret v) L3 q σ3 S3 H3 I4 ss
def oC (G:Good X C n sp){body:List nL}(hc:(qW md' tg && !DH Z5)=Ω)(hi:FI X C md' ZY Z5 it)(hg:FG X ZY tg)(hb:Good X (C.wmd md') n sp->Bp X (C.wmd md') fr body s):FS X C fr (.For ZY Z5 body [] pos) (pT it tg s):=by
 let hc:=b2 hc
 exact PS.imp (Hx (X:=X.nox) il G.calm hi hg (hb (G.wmd md')) (vj (nb hc.2))) λD σ H q1=>?_;let(c,L,S,Q0,I,h,k):=q1
 exact⟨c,L,S,_,I,h,λxs L1 q J c' S1 H1 I1 un e0 hJ s1=>?_⟩
 exact F4 I1 hJ hc.1 q λfl L2 q σ2 S2 H2 I2 s2=>?_
 have:=k fl L2 q σ2 S2 H2 (un _ _ _ _ I2) (s1.trans s2)
 cases fl with
 | next=>exact this
 | brk=>exact this
 | cont=>exact this
 | ret v =>
  intro x r
  exact this x ?_
  cases fr with
  | false=>exact r
  | true =>
   let(a,r1,r2,r3):=r
   exact⟨a,r1,r2,by rw[<- e0];exact r3⟩
def Pq {body:List nL}(hc:FB X C a t)(hb:Bp X C fr body s):FS X C fr (.While a body [] pos) (zq t s):=by
 exact PS.imp (C2 (X:=X.nox) il hc hb) λD σ H q1=>?_;let(c,L,S,Q0,I,(m,h),k):=q1
 exact⟨λm σ1 H1=>∃ L S1,Iv X.K c C.md L σ1 S1 H1/\Same S S1/\Bu t s m L Q0,⟨m,L,S,I,Same.refl S,h⟩,?_⟩
 rintro m σ1 H1 ⟨L,S1,I1,s1,h⟩
 cases m with
 | zero=>exact h.elim
 | succ m =>
  exact⟨c,L,S1,_,I1,h,λv L1 q S2 H2 I2 s2=>?_⟩
  cases v with
  | false =>
   rw[if_neg dY] at q ⊢
   exact k .next L1 q σ1 S2 H2 I2 (s1.trans s2)
  | true =>
   rw[if_pos rfl] at q ⊢
   exact⟨λσ' H'=>∃ m',m'<m+1/\∃ L S1,Iv X.K c C.md L σ' S1 H'/\Same S S1/\Bu t s m' L Q0,λσ' H' h=>h,c,L1,S2,_,I2,q,λfl L3 q σ3 S3 H3 I4 s3=>?_⟩
   let ss:=s1.trans (s2.trans s3)
   cases fl with
   | next=>exact⟨m,gk _,L3,S3,I4,ss,q⟩
   | cont=>exact⟨m,gk _,L3,S3,I4,ss,q⟩
   | brk=>exact k .next L3 q σ3 S3 H3 I4 ss
   | ret v=>exact k (.ret v) L3 q σ3 S3 H3 I4 ss
end
structure Df where
 name:String
 st:nL
 ps:List Str
 N:List Str
 md:Md
structure Fns where
 f:List Str
 ms:List (Str×nP×Str)
 fl:List (nP×Str)
abbrev Df.cc (d:Df)(fns:Fns):CC:=⟨d.N,(oN d.st).names,fns.f,d.md,Ω,[],fns.ms,fns.fl⟩
abbrev Lz (io:Bool)(md:Md) (np:Nat):Bool:=(mm np).all λi=>Δ (nW md i=if (io && Δ (i=0))=Ω then .own else .imm)
abbrev Df.ok (d:Df) (np ns:Nat)(io:Bool):Bool :=
 Δ ((oN d.st).kind=.function) && !(oN d.st).isCoroutine && !(oN d.st).isGenerator && Δ (d.N.Nodup) && Δ (d.N.take d.ps.length=d.ps) && d.ps.all (λx=>Δ ((oN d.st).names.lookup x=Ψ .local ∨ (oN d.st).names.lookup x=Ψ .cell)) &&
 (oN d.st).names.all (λp=>Δ (p.2≠.free)) && Δ (np=d.ps.length) && Δ (ns=d.N.length) && Lz io d.md np
abbrev spT (K:kP)(tb:List FD)(call:CW) (f:Nat):Sp:=match tb[f]? with
 | some fd=>Eu K call fd.io fd.fr f
 | none=>λ_ _ _ _=>False
abbrev Hb (tb:List FD)(call:CW)(K:kP):Nat->Sp:=spT K tb call
def Df.sc {d:Df}{np ns:Nat}{io:Bool}(h:d.ok np ns io=Ω):FnScope d.N d.ps (oN d.st)/\np=d.ps.length/\ns=d.N.length/\∀ i,i<np->nW d.md i=if (io && Δ (i=0))=Ω then .own else .imm:=by
 let h0:=b2 h;let h1:=b2 h0.1;let h2:=b2 h1.1;let h3:=b2 h2.1;let h4:=b2 h3.1;let h5:=b2 h4.1;let h6:=b2 h5.1;let h7:=b2 h6.1;let h8:=b2 h7.1
 exact⟨⟨de h8.1,nb h8.2,nb h7.2,de h6.2,de h5.2,λx hx=>de (gK.mp h4.2 x hx),λy hy=>de (gK.mp h3.2 y hy)⟩,de h2.2,de h1.2,λi hi=>de (gK.mp h0.2 i (jv.mpr hi))⟩
section
variable {P:mX}{w:nC}{K:kP}{mg:Str->Option nE}{base:nM}{tb:List FD}{fns:Fns}
def ArgsOk.len {S H:Hp}{args:List FV}{vs:List V}{io:Bool}(h:ArgsOk K S H args vs io):args.length=vs.length:=by
 cases io with
 | false=>exact RVs.length h
 | true =>
  let(v,r,a,us,rfl,rfl,_,h):=h
  rw[gC,gC,h.length]
def DC {S H:Hp}{args:List FV}{vs:List V}{io:Bool}{md:Md}{N:List Str}{np ns:Nat}(h:ArgsOk K S H args vs io)(hs:Same S H)(hn:args.length=np)(hN:ns=N.length)(hm:∀ i,i<np->nW md i=if (io && Δ (i=0))=Ω then .own else .imm) :
  Iv K ⟨H,S,xf vs io,[],[],[]⟩ md (args.map Ψ++jt (ns-np) Φ) (L2.start N vs) S H:=by
 let hl:=h.len
 let look:∀ i v,(args.map Ψ++jt (ns-np) Φ)[i]?=Ψ (Ψ v)->args[i]?=Ψ v/\i<np:=λi v e=>by
  by_cases hi:i<args.length
  ·rw[aT (by rw[iK];exact hi),fw] at e
   cases ea:args[i]? with
   | none=>rw[ea] at e;cases e
   | some q=>rw[ea] at e;cases e;exact⟨rfl,⋯⟩
  ·rw[aE (by rw[iK];lia),bA] at e
   split at e<;>cases e
 let st:∀ i,i<np->(L2.start N vs)[i]?=vs[i]?.map Ψ:=λi hi=>by
  unfold L2.start
  rw[aT (by rw[iK];lia),fw]
 let own:∀ i v,nW md i≠.imm->(args.map Ψ++jt (ns-np) Φ)[i]?=Ψ (Ψ v)->i=0/\io=Ω/\nW md 0=.own:=λi v hm' e=>by
  let(_,hi):=look i v e
  have:=hm i hi
  cases io with
  | false=>exact absurd (by simpa using this) hm'
  | true =>
   by_cases h0:i=0
   ·subst h0;exact⟨rfl,rfl,by simpa using this⟩
   ·exact absurd (by simpa[h0] using this) hm'
 let lent:∀ a,xf vs io=Ψ a->io=Ω/\0<np/\nW md 0=.own/\vs[0]?=Ψ (.ref a)/\∃ v,args[0]?=Ψ v/\OwnAt K S H a v:=λa e=>by
  cases io with
  | false=>cases e
  | true =>
   let(v,r,a',us,rfl,rfl,o,_):=h
   cases e
   let hp:0<np:=by rw[<- hn];exact kS _
   exact⟨rfl,hp,by simpa using hm 0 hp,rfl,v,rfl,o⟩
 exact⟨?_,λi v hm' e=>?_,λi v hm' e=>?_,λi j v w a m1 m2 e1 e2 _ _=>?_,hs,λa o e _ _=>e,Same.refl S,λa o e=>.inl e,λa e=>?_,λp hp=>absurd hp gu,λi v hf e=>?_,λp hp=>absurd hp gu,λp hp=>absurd hp gu,λp hp=>absurd hp gu,λq hq=>absurd hq gu,λj i x C dx fs v h1 h2 h3 h4=>?_⟩
 ·unfold L2.start
  rw[dP,dP,iK,iK,cp,cp,hN]
  lia
 ·let(ea,hi):=look i v e
  rw[st i hi]
  cases io with
  | false =>
   let(x,e1,r):=RVs.get (show RVs K S args vs from h) ea
   exact⟨x,by rw[e1];rfl,r⟩
  | true =>
   let(v0,r,a',us,rfl,rfl,o,hr):=h
   cases i with
   | zero=>rw[show nW md 0=.own by simpa using hm 0 hi] at hm';cases hm'
   | succ i =>
    let(x,e1,r1):=RVs.get hr (by simpa using ea)
    exact⟨x,by simp[e1],r1⟩
 ·let(rfl,rfl,m0):=own i v hm' e
  let(ea,hi):=look 0 v e
  let(v0,r,a',us,rfl,rfl,o,hr):=h
  cases ea
  exact⟨a',by rw[st 0 hi];rfl,o,.inl rfl⟩
 ·rw[(own i v m1 e1).1,(own j w m2 e2).1]
 ·let(rfl,hp,m0,e1,v,ea,_):=lent a e
  exact⟨λz=>(nomatch (m0.symm.trans z)),by rw[st 0 hp,e1];rfl,v,?_⟩
  rw[aT (by rw[iK];lia),fw,ea];rfl
 ·have:=own i v (λz=>by rw[z] at hf;cases hf) e
  rw[this.1,this.2.2] at hf;cases hf
 ·have:=own j v (λz=>by rw[z] at h1;cases h1) h4
  rw[this.1,this.2.2] at h1;cases h1
def xr {d f:Nat}{fa:nP}{fdd:mV}{df:Df}{fd:FD}{nm qu:Str}(F:Fun K nm qu df.st fa fdd)(hf:tb[f]?=Ψ fd)(hok:df.ok fd.np fd.ns fd.io=Ω)
  (hb:∀ X call n,Good X (df.cc fns) n (Hb tb call)->Bp X (df.cc fns) fd.fr (pV df.st) (fd.body call))
  (fnsOk:∀ (f:Nat)(x:Str),fns.f[f]?=Ψ x->∃ fa fd ps,mg x=Ψ (.ref fa)/\jm K (.ref fa)=Ω/\Binds K fd ps []/\FnOk P w K mg base Et d fa fd ps (spT K tb (callW tb d) f))
  (blt:∀ b∈bltNames,mg (kL b)=Φ)(mtsOk:∀ (k:Nat)(c:Str)(Ca:nP)(m:Str),fns.ms[k]?=Ψ (c,Ca,m)->MtOk P w K mg base d (spT K tb (callW tb d) (fns.f.length+k)) c Ca m)(fl:∀ p∈fns.fl,Cls K p.1/\xM K p.1 p.2):FnOk P w K mg base Et (d+1) fa fdd df.ps (spT K tb (callW tb (d+1)) f):=by
 let(S,hnp,hns,hmd):=Df.sc hok
 let e0:spT K tb (callW tb (d+1)) f=Eu K (callW tb (d+1)) fd.io fd.fr f:=by unfold spT;rw[hf]
 let run:∀ {args:List FV}{Q:FV×FV->Prop},callW tb (d+1) f args Q->args.length=fd.np/\fd.body (callW tb d) (args.map Ψ++jt (fd.ns-fd.np) Φ) (vL fd.io fd.fr Q):=λ{args Q} h=>by
  let h:(match tb[f]? with
   | none=>False
   | some fd=>args.length=fd.np/\fd.body (callW tb d) (args.map Ψ++jt (fd.ns-fd.np) Φ) (vL fd.io fd.fr Q)):=h
  rw[hf] at h;exact h
 rw[e0]
 exact F.ok S (λvs H Q E h=>?_) (λcdv A outer s H vs Q E hr h=>?_)
 ·let(S0,args,Q0,_,ao,hc,_):=h
  rw[<- ao.len,(run hc).1,hnp]
 ·let(S0,args,Q0,hs,ao,hc,k):=h
  let(hl,hc):=run hc
  let G:Good (zX Et P w K mg base df.N qu (oN df.st) fa cdv A outer s H E) (df.cc fns) d (Hb tb (callW tb d)) :=
   ⟨rfl,rfl,S.kind,S.nd,rfl,λ_ _=>rfl,hr,fnsOk,blt,mtsOk,fl⟩
  exact⟨_,hb _ _ _ G,_,_,S0,_,DC ao hs hl hns hmd,hc,λfl L' q σ' S' H' I s'=>?_⟩
  let kp:∀ w,(fd.io=Ω->lk L' 0=Ψ w)->Kept K S0 H S' H' (xf vs fd.io) w:=λw hw=>⟨s',I.sub,I.grow,λa o e n=>I.frame a o e n (λ_=>gu),λa e=>by
   let hio:fd.io=Ω:=by
    cases z:fd.io with
    | true=>rfl
    | false=>rw[z] at e;cases e
   let(m0,e1,v,e2):=I.lent a e
   let(b,e3,o,_):=I.own 0 v m0 e2
   rw[e1] at e3;cases e3
   have:=(oZ _ _ _).mp (hw hio)
   rw[e2] at this;cases this
   exact o⟩
  let fin:∀ v x,vL fd.io fd.fr Q0 (.ret v) L'->En K S' H' H v x fd.fr->Q x H':=λv x q r=>by
   cases hio:fd.io with
   | true =>
    rw[hio] at q
    let(w,e1,q):=oS q
    exact k _ q x S' H' (kp w λ_=>e1) r
   | false =>
    rw[hio] at q
    exact k (v,.non) q x S' H' (kp .non λz=>by rw[hio] at z;cases z) r
  cases fl with
  | next =>
   cases hfr:fd.fr with
   | true=>rw[hfr] at q;exact q.elim
   | false=>rw[hfr] at q;exact fin .non .non (by rw[hfr];exact q) (by rw[hfr];exact rfl)
  | ret v =>
   intro x r
   exact fin v x q ?_
   cases hfr:fd.fr with
   | true=>rw[hfr] at r;exact r
   | false=>rw[hfr] at r;exact r
  | brk=>exact q.elim
  | cont=>exact q.elim
def Bm (blt:∀ b∈bltNames,mg (kL b)=Φ)(fl:∀ p∈fns.fl,Cls K p.1/\xM K p.1 p.2)
  (D:∀ (f:Nat)(x:Str),fns.f[f]?=Ψ x->∃ df fd fa fdd,tb[f]?=Ψ fd/\Df.ok df fd.np fd.ns fd.io=Ω/\(∀ X call n,Good X (df.cc fns) n (Hb tb call)->Bp X (df.cc fns) fd.fr (pV df.st) (fd.body call))/\Fun K (kL df.name) (kL df.name) df.st fa fdd/\mg x=Ψ (.ref fa)/\Binds K fdd df.ps [])
  (DM:∀ (k:Nat)(c:Str)(Ca:nP)(m:Str),fns.ms[k]?=Ψ (c,Ca,m)->∃ df fd fa fdd nm qu,tb[fns.f.length+k]?=Ψ fd/\Df.ok df fd.np fd.ns fd.io=Ω/\(∀ X call n,Good X (df.cc fns) n (Hb tb call)->Bp X (df.cc fns) fd.fr (pV df.st) (fd.body call))/\Fun K nm qu df.st fa fdd/\mg c=Ψ (.ref Ca)/\Cls K Ca/\(m=("__init__":Str)->Mk K Ca fa)/\(m≠("__init__":Str)->Meth K Ca m fa)/\Binds K fdd df.ps []) :
  ∀ d:Nat,(∀ (f:Nat)(x:Str),fns.f[f]?=Ψ x->∃ fa fd ps,mg x=Ψ (.ref fa)/\jm K (.ref fa)=Ω/\Binds K fd ps []/\FnOk P w K mg base Et d fa fd ps (spT K tb (callW tb d) f))/\∀ (k:Nat)(c:Str)(Ca:nP)(m:Str),fns.ms[k]?=Ψ (c,Ca,m)->MtOk P w K mg base d (spT K tb (callW tb d) (fns.f.length+k)) c Ca m
 | 0=>by
  let no:∀ {f fd} vs H Q E,tb[f]?=Ψ fd->¬ spT K tb (callW tb 0) f vs H Q E:=λvs H Q E h1 z=>by
   unfold spT at z
   rw[h1] at z
   let(_,_,_,_,_,k,_):=z
   exact k
  exact⟨λf x h=>?_,λk c Ca m h=>?_⟩
  ·let(df,fd,fa,fdd,h1,h2,h6,h3,h4,h5):=D f x h
   exact⟨fa,fdd,df.ps,h4,h3.kp,h5,λvs H Q E z=>absurd z (no vs H Q E h1),λA outer s H args us vs Q E _ _ _ _ z=>absurd z (no vs H Q E h1)⟩
  ·let(df,fd,fa,fdd,nm,qu,h1,h2,h6,h3,h4,h5,h7,h8,h9):=DM k c Ca m h
   exact⟨fa,fdd,df.ps,h4,h5,h7,h8,h9,λvs H Q E z=>absurd z (no vs H Q E h1),λA outer s H args us vs Q E _ _ _ _ z=>absurd z (no vs H Q E h1)⟩
 | d+1=>by
  let(r1,r2):=Bm blt fl D DM d
  exact⟨λf x h=>?_,λk c Ca m h=>?_⟩
  ·let(df,fd,fa,fdd,h1,h2,h6,h3,h4,h5):=D f x h
   exact⟨fa,fdd,df.ps,h4,h3.kp,h5,xr h3 h1 h2 h6 r1 blt r2 fl⟩
  ·let(df,fd,fa,fdd,nm,qu,h1,h2,h6,h3,h4,h5,h7,h8,h9):=DM k c Ca m h
   exact⟨fa,fdd,df.ps,h4,h5,h7,h8,h9,xr h3 h1 h2 h6 r1 blt r2 fl⟩
def law_sp {d f:Nat}{H:Hp}{a:nP}{ns:List Int}{fd:FD}(hf:tb[f]?=Ψ fd)(hio:fd.io=Ξ)(hfr:fd.fr=Ξ)(hO:Gr H)(hS:SqL K H a (ns.map V.int))(h:callW tb d f [.scr ns] λz=>z.1=.bl Ω) :
  spT K tb (callW tb d) f [.ref a] H (λv _=>v=.bl Ω) λ_ _ _=>False:=by
 let e0:spT K tb (callW tb d) f=Eu K (callW tb d) Ξ Ξ f:=by unfold spT;rw[hf];show Eu K (callW tb d) fd.io fd.fr f=_;rw[hio,hfr]
 rw[e0]
 exact⟨H,[.scr ns],_,Same.refl H,RVs.one ⟨a,rfl,?_⟩,h,λz e x S' H' _ r=>?_⟩
 ·rcases hS with (h|⟨o,h⟩)|h
  ·rcases hO a with z|⟨o,xs,z⟩
   ·rw[z] at h;cases h
   ·rw[z] at h;cases h
  ·exact .inl ⟨o,h⟩
  ·exact .inr (.inr h)
 ·let r:RV K S' z.1 x:=r
  rw[e] at r;exact r
end
abbrev EachI {α:Type}(P:Nat->α->Prop):Nat->List α->Prop
 | _,[]=>True
 | i,x :: xs=>P i x/\EachI P (i+1) xs
def EachI.get {α:Type}{P:Nat->α->Prop}:∀ {xs:List α}{k:Nat},EachI P k xs->∀ (f:Nat)(x:α),xs[f]?=Ψ x->P (k+f) x
 | _ :: _,_,h,0,x,e=>(ip e) ▸ h.1
 | _ :: xs,k,h,f+1,x,e=>by
  have:=EachI.get h.2 f x e
  rw[ka,Nat.add_comm 1 f] at this
  exact this
def KL {P:List nE->Prop}{us:List nE}{n:Nat}(h:us.length=n+1)(H:∀ a r,r.length=n->P (a :: r)):P us:=by
 cases us with
 | nil=>cases h
 | cons a r=>exact H a r (Nat.succ.inj h)
def EC {P:List nE->Prop}{us:List nE}(h:us.length=1)(H:∀ a,P [a]):P us:=KL h λa r hr=>by rw[List.length_eq_zero_iff.mp hr];exact H a
def sZ {P:List nE->Prop}{us:List nE}(h:us.length=2)(H:∀ a b,P [a,b]):P us:=KL h λa r hr=>EC (P:=λr=>P (a :: r)) hr λb=>H a b
def OB {P:List nE->Prop}{us:List nE}(h:us.length=3)(H:∀ a b c,P [a,b,c]):P us:=KL h λa r hr=>sZ (P:=λr=>P (a :: r)) hr λb c=>H a b c
def us4 {P:List nE->Prop}{us:List nE}(h:us.length=4)(H:∀ a b c d,P [a,b,c,d]):P us:=KL h λa r hr=>OB (P:=λr=>P (a :: r)) hr λb c d=>H a b c d
def us5 {P:List nE->Prop}{us:List nE}(h:us.length=5)(H:∀ a b c d e,P [a,b,c,d,e]):P us:=KL h λa r hr=>us4 (P:=λr=>P (a :: r)) hr λb c d e=>H a b c d e
end Kq
namespace Kq
open PySem PySem.Spec PySem.Calls PyProof.Rows L2 PySem.W
def u6:∀ {K:nN}{a:nP}{o:Obj},K.lookup a=Ψ o->(a,o)∈K
 | [],a,o,h=>by simp at h
 | (b,u) :: K,a,o,h=>by
  rw[gy] at h
  split at h
  ·rename_i e;cases h;rw[beq_iff_eq.mp e];exact dO
  ·exact cJ _ (u6 h)
def BQ {K:nN}{a:nP}{o:Obj}(h:(a,o)∈K):∃ u,K.lookup a=Ψ u:=by
 induction K with
 | nil=>exact absurd h gu
 | cons p K ih =>
  let(b,u):=p
  rw[gy]
  split
  ·exact⟨_,rfl⟩
  ·rename_i e
   rcases kj.mp h with z|z
   ·rw[(Prod.mk.inj z).1,beq_self_eq_true] at e;cases e
   ·exact ih z
abbrev AllIn (K:nN)(h:nM):Prop:=∀ p∈K,h.get? p.1=Ψ p.2
def AllIn.to {K:nN}{h:nM}(x:AllIn K h):K.In h:=λa o e=>x _ (u6 e)
def AllIn.look {K:nN}{h:nM}(x:AllIn K h){a:nP}{o:Obj}(m:(a,o)∈K):K.lookup a=Ψ o:=by
 let(u,e):=BQ m
 let h1:=x _ (u6 e)
 rw[show h.get? a=Ψ o from x _ m] at h1
 cases h1;exact e
abbrev CIn (K:nN)(cd:nE)(q:Str):Prop:=∃ c oc vs t,cd=.ref c/\(c,oc)∈K/\oc.data=.fields vs/\vs[1]?=Ψ (.str q t)
abbrev DIn (K:nN)(mg:Str->Option nE)(d:nA):Prop:=∃ fa o pm cd doc,mg d.name=Ψ (.ref fa)/\(fa,o)∈K/\o.data=.func (docDef d.name d.params d.body d.scope pm cd doc)/\CIn K cd d.name
def DIn.more {K K':nN}{mg:Str->Option nE}{d:nA}(s:∀ p∈K,p∈K')(x:DIn K mg d):DIn K' mg d:=by
 let(fa,o,pm,cd,doc,h1,h2,h3,c,oc,vs,t,h4,h5,h6):=x
 exact⟨fa,o,pm,cd,doc,h1,s _ h2,h3,c,oc,vs,t,h4,s _ h5,h6⟩
def Bb {q:mX}{loose:List Str}{mean:ExcName->Option nE}{mg mb:Str->Option nE}{h:nM}(T:Top q loose mean mg mb h):∀ ds:List nA,(∀ d∈ds,d∈recsOf q)->∃ K:nN,AllIn K h/\∀ d∈ds,DIn K mg d
 | [],_=>⟨[],λ_ m=>absurd m gu,λ_ m=>absurd m gu⟩
 | d :: ds,hm=>by
  let(K,h1,h2):=Bb T ds λe m=>hm e (cJ _ m)
  let(a,o,pm,cd,doc,g1,g2,g3,c,oc,vs,t,g4,g5,g6):=T.fn d (hm d dO)
  exact⟨(a,o) :: (c,oc) :: K,λp m=>?_,λe m=>?_⟩
  ·rcases kj.mp m with z|z
   ·cases z;exact g2
   ·rcases kj.mp z with z|z
    ·cases z;exact g5
    ·exact h1 p z
  ·rcases kj.mp m with z|z
   ·cases z
    exact⟨a,o,pm,cd,doc,g1,dO,g3,c,oc,vs,t,g4,cJ _ dO,g6⟩
   ·exact (h2 e z).more λp m=>cJ _ (cJ _ m)
def DIn.fn {K:nN}{h:nM}(A:AllIn K h){mg:Str->Option nE}{x:Str}{st:nL}{pos:Pos}(D:DIn K mg ⟨x,sA st,pV st,oN st,pos⟩):∃ fa fd,mg x=Ψ (.ref fa)/\Fun K x x st fa fd:=by
 let(fa,o,pm,cd,doc,h1,h2,h3,c,oc,vs,t,rfl,h5,h6,h7):=D
 let l:=A.look h2
 let lc:=A.look h5
 let(k1,k2,k3,k4):=o
 let(j1,j2,j3,j4):=oc
 cases h3;cases h6
 exact⟨fa,_,h1,IL (kV:=.none) (doc:=doc) (pm:=pm) (an:=Φ) (cdv:=.ref c) (ct:=.none) l ?_ ?_⟩
 ·show (match K.lookup c with|some ⟨_,_,.fields vs,_⟩=>_|_=>_)=Ω
  rw[lc]
  let⟨l⟩:=vs
  match l,h7 with
  | [],h7=>simp at h7
  | [a],h7=>simp at h7
  | a :: b :: r,h7 =>
   simp at h7;subst h7
   exact beq_self_eq_true _
 ·show (match K.lookup fa with|some ⟨_,_,.func _,_⟩=>Ω|some ⟨_,_,.cls _,_⟩=>_|_=>Ξ)=Ω
  rw[l]
def F3 {q:mX}{loose:List Str}{mean:ExcName->Option nE}{mg mb:Str->Option nE}{h:nM}(T:Top q loose mean mg mb h){x:Str}(e:freeIn q loose x=Ω):mg x=Φ:=by
 unfold freeIn at e
 simp![gR,fN,List.contains_eq_mem,decide_eq_false_iff_not] at e
 exact T.free x e.1.1.1.1 e.1.1.1.2 e.1.1.2 e.1.2 e.2
def walk2 {l:mY}{n k:Nat}{q:mX}{XP:(Str->Option nE)->nM->Prop}{YP:nC->nM->Prop}{d:nA}{ds:List nA}{x:Str}{sp:nN->Sp}
  (hn:l.most=Ψ n)(hn2:n<=sizeLine)(hdf:d.params.defaults=[])(hr:Room k callerA)(hds:ds=recsOf q)(hfree:(bltNames.all λb=>freeIn q (looseW q []) (kL b))=Ω)
  (F:∀ (w:nC)(K:nN)(mg:Str->Option nE)(fa:nP)(h:nM),AllIn K h->(∀ d∈ds,DIn K mg d)->(∀ b∈bltNames,mg (kL b)=Φ)->mg d.name=Ψ (.ref fa) ->
   ∃ fd:mV,(∀ (s:nh)(u:nE),m8 s fd ⟨[u],[]⟩ [(x,u)])/\∀ base:nM,FnOk l.prog w K mg base Et k fa fd [x] (sp K))
  (hsp:∀ (K:nN)(H:Hp)(a:nP)(ns:List Int),ns.length<=n->Gr H->SqL K H a (ns.map V.int)->sp K [.ref a] H (λv _=>v=.bl Ω) λ_ _ _=>False) :
  WalkO q [] XP YP l.row.toRowW d [] (λf vs=>lZ f vs):=by
 exact Att.attach_call hn hdf λw s₀ s₁ mg mb fa o pm cd doc a vs ns G Y ho hd hcd hmg hobj hints hlen hg=>?_
 let(K,hK,hD):=Bb G.T ds λd m=>hds ▸ m
 let(fd,hb,hF):=F w K mg fa _ hK hD (λb hb=>F3 G.T (gK.mp hfree b hb)) hmg
 exact Dz hK.to G.T.g G.T.b G.T.builtins G.T.nolimit hg hobj hints (kX hlen hn2) hr (λbase _ _=>hF base) hb (λH hO hS=>hsp K H a ns hlen hO hS) λH e s' z=>z
def row_holds {l:mY}{q:mX}{d:nA}{N:Nat}(said:l.wellSaid=Ω)(left:LeftO l.prog q [] (λs=>xlAt q [] s && recOk (RowW.records l.row.toRowW) s) (λ_=>()) (λ_=>()) N)
  (hdef:defOf q l.name=Ψ (d,[]))(hp:l.prog.theDef l.name=Ψ (d.params,d.body,d.scope))(hk:kwWritten? d.params.kwonlyargs d.params.kw_defaults=Ψ [])(hwr:(!l.writes || l.row.records.isEmpty)=Ω)
  (ok:(chainsOk q && opensWell l.prog && (frees l.row.toRowW && l.row.within.isEmpty))=Ω)(hb:l.prog.bare)(hw:l.row.toRowW.promised)
  (call:WalkO q [] (XL q []) (λ_ _=>True) l.row.toRowW d [] λf vs=>lZ f vs):l.Holds :=
 holds_law said λk1=>holds_open (r:=l.row) left (λ_ _ _=>trivial) (λ_ _ _ _ _=>trivial) (λs e=>xl_of s (cN.mp e).1) XL.keeps hdef hp hk (λs e=>recFacts_of (cN.mp e).2) hwr k1 ok hb hw call
end Kq
set_option maxHeartbeats 1000000
namespace Kq
nonrec def pA {α:Type}(x:α)(Q:α->Prop):wp (Ψ x) Q=Q x:=propext m6
nonrec def M8 {α:Type}(Q:α->Prop):wp (Φ:Option α) Q=False:=propext m6
def p6 {α β:Type}(r:Option α)(f:α->Option β)(Q:β->Prop):wp (r.bind f) Q↔wp r (λx=>wp (f x) Q):=by cases r<;>rfl
nonrec def pF {α β:Type}(r:Option α)(f:α->β)(Q:β->Prop):wp (r.map f) Q↔wp r (λx=>Q (f x)):=by cases r<;>rfl
nonrec def qO {α:Type}(c:Prop) [Decidable c] (a:α)(Q:α->Prop):wp (if c then Ψ a else Φ) Q↔c/\Q a:=by
 by_cases h:c<;>simp[h]
nonrec def N9 (i:Nat)(L:nT)(Q:FV->nT->Prop):nQ i L Q=(wp (lk L i) λx=>Q x L):=propext m6
nonrec def eC_eq (v:FV)(L:nT)(Q:FV->nT->Prop):eC v L Q=(Q v L):=propext m6
nonrec def QR (f:FV->Option FV)(a:EW)(L:nT)(Q:FV->nT->Prop):oH f a L Q=(a L λx L1=>wp (f x) λz=>Q z L1):=propext m6
nonrec def QT (f:FV->FV->Option FV)(a b:EW)(L:nT)(Q:FV->nT->Prop):n6 f a b L Q=(a L λx L1=>b L1 λy L2=>wp (f x y) λz=>Q z L2):=propext m6
nonrec def Oe (f:FV->FV->Option FV) (i:Nat)(b:EW)(L:nT)(Q:FV->nT->Prop):qk f i b L Q=(wp (lk L i) λ_=>b L λy L1=>wp (lk L1 i) λx=>wp (f x y) λz=>Q z L1):=propext m6
nonrec def Ky (f g:FV->FV->Option FV)(a b c:EW)(L:nT)(Q:FV->nT->Prop):vt f g a b c L Q=(a L λx L1=>b L1 λy L2=>wp (f x y) λr=>wp (MO r) λr=>if r=Ω then c L2 λz L3=>wp (g y z) λq=>Q q L3 else Q (.bl Ξ) L2):=propext m6
nonrec def Og (a b:EW)(L:nT)(Q:FV->nT->Prop):tS a b L Q=(a L λx L1=>wp (vG x) λr=>if r=Ω then b L1 Q else Q x L1):=propext m6
nonrec def QV (c:BW)(a b:EW)(L:nT)(Q:FV->nT->Prop):Jw c a b L Q=(c L λr L1=>if r=Ω then a L1 Q else b L1 Q):=propext m6
nonrec def Oo (a:EW)(L:nT)(Q:Bool->nT->Prop):n8 a L Q=(a L λx L1=>wp (vG x) λb=>Q b L1):=propext m6
nonrec def Oq (a b:BW)(L:nT)(Q:Bool->nT->Prop):rM a b L Q=(a L λr L1=>if r=Ω then b L1 Q else Q Ξ L1):=propext m6
nonrec def Sg (a b:BW)(L:nT)(Q:Bool->nT->Prop):yZ a b L Q=(a L λr L1=>if r=Ω then Q Ω L1 else b L1 Q):=propext m6
nonrec def Op (a:BW)(L:nT)(Q:Bool->nT->Prop):qp a L Q=(a L λr L1=>Q (!r) L1):=propext m6
nonrec def MR (L:nT)(Q:Bool->nT->Prop):o6  L Q=(Q Ω L):=propext m6
nonrec def Ov (L:nT)(Q:List FV->nT->Prop):nU  L Q=(Q [] L):=propext m6
nonrec def MS (a:EW)(r:AW)(L:nT)(Q:List FV->nT->Prop):nR a r L Q=(a L λx L1=>r L1 λxs L2=>Q (x :: xs) L2):=propext m6
nonrec def Oa (a:AW)(L:nT)(Q:FV->nT->Prop):o9 a L Q=(a L λxs L1=>xs.length<=big/\Q (.tup xs) L1):=propext m6
nonrec def Of (a:AW)(L:nT)(Q:FV->nT->Prop):pK a L Q=(a L λxs L1=>xs.length<=big/\Q (.lst xs) L1):=propext m6
nonrec def LM (L:nT)(Q:Option Int->nT->Prop):uZ  L Q=(Q Φ L):=propext m6
nonrec def LL (a:EW)(L:nT)(Q:Option Int->nT->Prop):rf a L Q=(a L λx L1=>wp (qx x) λi=>Q (Ψ i) L1):=propext m6
nonrec def QS (a:EW)(l h:OW)(L:nT)(Q:FV->nT->Prop):Mx a l h L Q=(a L λx L1=>l L1 λi L2=>h L2 λj L3=>wp (rS x i j) λz=>Q z L3):=propext m6
nonrec def Ob (k:Nat)(l h:OW)(L:nT)(Q:FV->nT->Prop):B8 k l h L Q=(wp (lk L k) λ_=>l L λi L2=>h L2 λj L3=>wp (lk L3 k) λx=>wp (rS x i j) λz=>Q z L3):=propext m6
nonrec def MA (call:CW) (f:Nat)(a:AW)(L:nT)(Q:FV->nT->Prop):ox call f a L Q=(a L λxs L1=>call f xs λz=>Q z.1 L1):=propext m6
nonrec def Kz (call:CW) (f i:Nat)(a:AW)(L:nT)(Q:FV->nT->Prop):og call f i a L Q=(wp (lk L i) λ_=>a L λxs L1=>wp (lk L1 i) λx=>call f (x :: xs) λz=>Q z.1 (L1.set i (Ψ z.2))):=propext m6
nonrec def My (f:FV->FV->Option FV) (i:Nat)(a:EW)(L:nT)(Q:FV->nT->Prop):rN f i a L Q=(wp (lk L i) λv=>wp (rQ v) λ_=>a L λy L1=>wp (lk L1 i) λx=>wp (f x y) λz=>Q .non (L1.set i (Ψ z))):=propext m6
nonrec def Nw (a:EW)(L:nT)(Q:List FV->nT->Prop):qb a L Q=(a L λx L1=>wp (qa x) λxs=>Q xs L1):=propext m6
nonrec def Nx (a:EW)(L:nT)(Q:List FV->nT->Prop):qE a L Q=(a L λx L1=>wp (qx x) λj=>qJ j=Ω/\Q (uq 0 j.toNat) L1):=propext m6
nonrec def LY (a b:EW)(L:nT)(Q:List FV->nT->Prop):iRng2 a b L Q=(a L λx L1=>b L1 λy L2=>wp (qx x) λi=>wp (qx y) λj=>(qJ i && qJ j)=Ω/\Q (uq i (j-i).toNat) L2):=propext m6
nonrec def Nv (a b:EW)(L:nT)(Q:List FV->nT->Prop):IE a b L Q=(a L λx L1=>b L1 λy L2=>wp (qa x) λxs=>wp (qa y) λys=>Q (pO xs ys) L2):=propext m6
nonrec def L0 (a:EW)(L:nT)(Q:List FV->nT->Prop):rh a L Q=(a L λx L1=>wp (qa x) λxs=>Q (pO (uq 0 xs.length) xs) L1):=propext m6
nonrec def Mz (n m:Nat)(it:AW)(tg:Tg)(t:BW)(e:EW)(L:nT)(Q:FV->nT->Prop):oW n m it tg t e L Q=(it L λxs L1=>L1.length=n/\xs.length<=big/\rA n m tg t e xs [] L1 λys L2=>Q (.lst ys) L2):=propext m6
nonrec def Nk (L:nT)(Q:FFl->nT->Prop):pD  L Q=(Q .next L):=propext m6
nonrec def Ni (s r:SW)(L:nT)(Q:FFl->nT->Prop):nY s r L Q=(s L (Os (λL1=>r L1 Q) Q)):=propext m6
nonrec def Np (e:EW)(tg:Tg)(L:nT)(Q:FFl->nT->Prop):oo e tg L Q=(e L λx L1=>gW tg x L1 λL2=>Q .next L2):=propext m6
nonrec def Nh (k:Nat)(i e:EW)(L:nT)(Q:FFl->nT->Prop):wQ k i e L Q=(wp (lk L k) λ_=>e L λx L1=>i L1 λj L2=>wp (lk L2 k) λy=>wp (He y j x) λz=>Q .next (L2.set k (Ψ z))):=propext m6
nonrec def No (f:FV->FV->Option FV) (i:Nat)(e:EW)(L:nT)(Q:FFl->nT->Prop):EL f i e L Q=(wp (lk L i) λa=>e L λx L1=>wp (f a x) λz=>Q .next (L1.set i (Ψ z))):=propext m6
nonrec def Nj (e:EW)(L:nT)(Q:FFl->nT->Prop):ou e L Q=(e L λx L1=>Q (.ret x) L1):=propext m6
nonrec def Nn (e:EW)(L:nT)(Q:FFl->nT->Prop):rT e L Q=(e L λ_ L1=>Q .next L1):=propext m6
nonrec def OS (c:BW)(a b:SW)(L:nT)(Q:FFl->nT->Prop):rD c a b L Q=(c L λr L1=>if r=Ω then a L1 Q else b L1 Q):=propext m6
nonrec def Nm (it:AW)(tg:Tg)(b:SW)(L:nT)(Q:FFl->nT->Prop):pT it tg b L Q=(it L λxs L1=>yE tg b xs L1 Q):=propext m6
nonrec def Nf (c:BW)(b:SW)(L:nT)(Q:FFl->nT->Prop):zq c b L Q=(∃ n,Bu c b n L Q):=propext m6
nonrec def lk_z (x:Option FV)(L:nT)(Q:FV->Prop):wp (lk (x :: L) 0) Q=wp x Q:=propext m6
nonrec def gw_nm (i:Nat)(v:FV)(L:nT)(Q:nT->Prop):gW (.nm i) v L Q=Q (L.set i (Ψ v)):=propext m6
nonrec def gw_tp (is:List Nat)(v:FV)(L:nT)(Q:nT->Prop):gW (.tp is) v L Q=wp (qP v) λxs=>wp (tw L is xs) Q:=propext m6
nonrec def sa_n (L:nT)(Q:nT->Prop):wp (tw L [] []) Q=Q L:=propext m6
nonrec def sa_c (L:nT) (i:Nat)(is:List Nat)(v:FV)(vs:List FV)(Q:nT->Prop):wp (tw L (i :: is) (v :: vs)) Q=wp (tw (L.set i (Ψ v)) is vs) Q:=propext m6
section
variable (L:nT)(k:nT->Prop)(Q:FFl->nT->Prop)
nonrec def Ot:Os k Q .next L=k L:=propext m6
nonrec def Sh (v:FV):Os k Q (.ret v) L=Q (.ret v) L:=propext m6
nonrec def tq_n:uH k Q .next L=k L:=propext m6
nonrec def tq_r (v:FV):uH k Q (.ret v) L=Q (.ret v) L:=propext m6
end
nonrec def en_rt (fr:Bool)(Q:FV×FV->Prop)(v:FV)(L:nT):vL Ω fr Q (.ret v) L=wp (lk L 0) λx=>Q (v,x):=propext m6
nonrec def en_rf (fr:Bool)(Q:FV×FV->Prop)(v:FV)(L:nT):vL Ξ fr Q (.ret v) L=Q (v,.non):=propext m6
section
variable (Q:FV->Prop)(B:Bool->Prop)(i j:Int)
nonrec def tr_b (b:Bool):wp (vG (.bl b)) B=B b:=propext m6
nonrec def tr_t (xs:List FV):wp (vG (.tup xs)) B=B (!xs.isEmpty):=propext m6
nonrec def tr_l (xs:List FV):wp (vG (.lst xs)) B=B (!xs.isEmpty):=propext m6
nonrec def in_i (Q:Int->Prop):wp (qx (.int i)) Q=Q i:=propext m6
nonrec def bl_b (b:Bool):wp (MO (.bl b)) B=B b:=propext m6
nonrec def tp_t (xs:List FV)(Q:List FV->Prop):wp (qP (.tup xs)) Q=Q xs:=propext m6
nonrec def ls_l (xs:List FV)(Q:List FV->Prop):wp (rQ (.lst xs)) Q=Q xs:=propext m6
nonrec def sq_t (xs:List FV)(Q:List FV->Prop):wp (qa (.tup xs)) Q=Q xs:=propext m6
nonrec def OP (xs:List FV)(Q:List FV->Prop):wp (qa (.lst xs)) Q=Q xs:=propext m6
nonrec def li_l (xs:List FV)(Q:List FV->Prop):wp (pX (.lst xs)) Q=Q xs:=propext m6
nonrec def b_add:wp (pG (.int i) (.int j)) Q=Q (.int (i+j)):=propext m6
nonrec def b_sub:wp (xR (.int i) (.int j)) Q=Q (.int (i-j)):=propext m6
nonrec def b_mul:wp (qR (.int i) (.int j)) Q↔(pR i || pR j)=Ω/\Q (.int (i*j)):=qO _ _ _
nonrec def Se:wp (yH (.int i) (.int j)) Q↔(0<j/\j<1073741824)/\Q (.int (i / j)):=qO _ _ _
nonrec def b_mod:wp (vK (.int i) (.int j)) Q↔0<j/\Q (.int (i % j)):=qO _ _ _
nonrec def b_pow:wp (BD (.int i) (.int j)) Q↔(0<=j/\j<=1000/\pR i=Ω)/\Q (.int (i ^ j.toNat)):=qO _ _ _
nonrec def Sf (xs ys:List FV):wp (pG (.lst xs) (.lst ys)) Q↔xs.length+ys.length<=big/\Q (.lst (xs++ys)):=qO _ _ _
nonrec def b_rep (xs:List FV) (k:Int):wp (qR (.lst xs) (.int k)) Q↔(-(2 ^ 63)<=k/\k<2 ^ 63/\xs.length*k.toNat<=big)/\Q (.lst (jt k.toNat xs).flatten):=qO _ _ _
nonrec def Nt {f:FV->FV->Option FV}(v w:FV):wp (qK f v w) Q↔wp (f v w) λz=>wp (rQ z) λxs=>Q (.lst xs):=by unfold qK;rw[p6];simp![pF]
nonrec def k_eq (a b:FV):wp (vn a b) Q↔wp (sJ a b) λr=>Q (.bl r):=pF _ _ _
nonrec def k_ne (a b:FV):wp (BN a b) Q↔wp (sJ a b) λr=>Q (.bl (!r)):=pF _ _ _
nonrec def k_gt:wp (B2 (.int i) (.int j)) Q=Q (.bl (Δ (j<i))):=propext m6
nonrec def k_ge:wp (Kp (.int i) (.int j)) Q=Q (.bl (Δ (j<=i))):=propext m6
nonrec def e_ii:wp (sJ (.int i) (.int j)) B=B (i == j):=propext m6
nonrec def e_ss (a b:String):wp (sJ (.str a) (.str b)) B=B (a == b):=propext m6
nonrec def e_bb (a b:Bool):wp (sJ (.bl a) (.bl b)) B=B (a == b):=propext m6
nonrec def e_sh (d:D):wp (sJ (.shn d) (.shn d)) B=B Ω:=by rw[show sJ (.shn d) (.shn d) = @ite _ (d=d) (bD _) (Ψ Ω) Φ from rfl,if_pos rfl];rfl
nonrec def ix_eq (v:FV):wp (pY v (.int i)) Q↔wp (qa v) λxs=>wp (Cp xs i) Q:=by
 show wp ((qa v).bind _) Q↔_;rw[p6]
nonrec def f_max:wp (yr (.int i) (.int j)) Q=Q (.int (if j > i then j else i)):=propext m6
nonrec def f_not (b:Bool):wp (Fl (.bl b)) Q=Q (.bl (!b)):=propext m6
nonrec def f_neg:wp (BM (.int i)) Q=Q (.int (-i)):=propext m6
nonrec def f_len (v:FV):wp (qI v) Q↔wp (qa v) λxs=>Q (.int xs.length):=pF _ _ _
nonrec def f_abs:wp (Em (.int i)) Q=Q (.int (if i<0 then -i else i)):=propext m6
nonrec def QM (b:Bool):wp (qQ (.bl b)) Q=Q (.int (if b then 1 else 0)):=propext m6
nonrec def f_sum (v:FV):wp (wN v) Q↔wp (pX v) λxs=>wp (zk xs) λn=>Q (.int n):=by
 show wp ((pX v).bind _) Q↔_;rw[p6];simp![pF]
nonrec def f_all (v:FV):wp (xK v) Q↔wp (pX v) λxs=>wp (si xs) λbs=>Q (.bl (bs.all id)):=by
 show wp ((pX v).bind _) Q↔_;rw[p6];simp![pF]
nonrec def QK (v:FV):wp (AB v) Q↔wp (pX v) λxs=>wp (Fp xs) Q:=p6 _ _ _
nonrec def N7 (v:FV):wp (pQ v) Q↔wp (qa v) λxs=>Q (.tup xs):=pF _ _ _
nonrec def QL (v:FV):wp (qL v) Q↔wp (qa v) λxs=>Q (.lst xs):=pF _ _ _
nonrec def f_isi (t:Ty)(v:FV):wp (t5 t v) Q↔wp (ve v t) λb=>Q (.bl b):=pF _ _ _
nonrec def y_bl (b:Bool)(t:Ty):wp (ve (.bl b) t) B=B (t == .int || t == .bool):=propext m6
nonrec def y_int (t:Ty):wp (ve (.int i) t) B=B (t == .int):=propext m6
nonrec def y_tup (b:List FV)(t:Ty):wp (ve (.tup b) t) B=B (t == .tuple):=propext m6
nonrec def y_lst (b:List FV)(t:Ty):wp (ve (.lst b) t) B=B (t == .list):=propext m6
nonrec def iN_n:wp (qN .non) Q=Q (.bl Ω):=propext m6
nonrec def iN_i:wp (qN (.int i)) Q=Q (.bl Ξ):=propext m6
nonrec def nN_n:wp (pB .non) Q=Q (.bl Ξ):=propext m6
nonrec def nN_i:wp (pB (.int i)) Q=Q (.bl Ω):=propext m6
nonrec def m_app (xs:List FV)(v:FV):wp (um (.lst xs) v) Q↔xs.length<big/\Q (.lst (xs++[v])):=qO _ _ _
nonrec def s_t (xs:List FV)(lo hi:Option Int):wp (rS (.tup xs) lo hi) Q=Q (.tup (qi xs lo hi)):=propext m6
nonrec def s_l (xs:List FV)(lo hi:Option Int):wp (rS (.lst xs) lo hi) Q=Q (.lst (qi xs lo hi)):=propext m6
nonrec def st_l (xs:List FV)(v:FV):wp (He (.lst xs) (.int j) v) Q↔wp (ixN xs.length j) λp=>Q (.lst (xs.set p v)):=pF _ _ _
nonrec def au_f (f:Int->Int->Int):wp (Eg f (.int i) (.int j)) Q=Q (.int (f i j)):=propext m6
end
def p9 {xs:List FV}{i:Int}{n:Nat}{v:FV}{Q:FV->Prop}(h:i=n)(hv:xs[n]?=Ψ v):wp (Cp xs i) Q↔Q v:=by
 subst h
 have:=(aR.mp hv).1
 simp![Cp,ixN,Int.natCast_nonneg,if_true,Int.ofNat_lt,this,gc,fG,hv,pA]
nonrec def at_0 (x:FV)(r:List FV)(Q:FV->Prop):wp (Cp (x :: r) 0) Q↔Q x:=p9 (n:=0) rfl rfl
nonrec def at_1 (x y:FV)(r:List FV)(Q:FV->Prop):wp (Cp (x :: y :: r) 1) Q↔Q y:=p9 (n:=1) rfl rfl
nonrec def at_2 (x y z:FV)(r:List FV)(Q:FV->Prop):wp (Cp (x :: y :: z :: r) 2) Q↔Q z:=p9 (n:=2) rfl rfl
def vd {n:Nat}{i:Int}{j:Nat}{Q:Nat->Prop}(h:i=j)(hj:j<n):wp (ixN n i) Q↔Q j:=by
 subst h;simp[ixN,hj]
def t8 {xs:List FV}{u:Int}{Q:FV->Prop}(h0:0<=u)(h1:u<xs.length)(h:∀ x∈xs,Q x):wp (Cp xs u) Q:=by
 let hu:u.toNat<xs.length:=⋯
 rw[p9 (show u=u.toNat by lia) (bo hu)]
 exact h _ (gD hu)
def rB {α:Type}(p:α->Bool):∀ xs:List α,si (xs.map λx=>.bl (p x))=Ψ (xs.map p)
 | []=>rfl
 | x :: r=>by show (si (r.map λx=>.bl (p x))).map (p x :: ·)=_;rw[rB p r];rfl
def ints_map:∀ ns:List Int,oM (ns.map .int)=Ψ ns
 | []=>rfl
 | x :: r=>by show (oM (r.map .int)).map (x :: ·)=_;rw[ints_map r];rfl
@[scoped simp] theorem ty_10:(Ty.bool == Ty.int)=Ξ:=(·)
def oq {tb:List FD}{d f:Nat}{args:List FV}{fd:FD}{Q:FV×FV->Prop}(h:tb[f]?=Ψ fd)(hl:args.length=fd.np)
  (H:fd.body (callW tb d) (args.map Ψ++jt (fd.ns-fd.np) Φ) (vL fd.io fd.fr Q)):callW tb (d+1) f args Q:=by
 show (match tb[f]? with
  | none=>False
  | some fd=>args.length=fd.np/\fd.body (callW tb d) (args.map Ψ++jt (fd.ns-fd.np) Φ) (vL fd.io fd.fr Q))
 rw[h];exact⟨hl,H⟩
def sh {tb:List FD}{d f:Nat}{args:List FV}{fd:FD}{Q:FV×FV->Prop}(h:tb[f]?=Ψ fd)(hl:args.length=fd.np) :
  callW tb (d+1) f args Q↔fd.body (callW tb d) (args.map Ψ++jt (fd.ns-fd.np) Φ) (vL fd.io fd.fr Q):=by
 show (match tb[f]? with
  | none=>False
  | some fd=>args.length=fd.np/\fd.body (callW tb d) (args.map Ψ++jt (fd.ns-fd.np) Φ) (vL fd.io fd.fr Q))↔_
 rw[h];exact⟨λz=>z.2,λz=>⟨hl,z⟩⟩
def pf {α:Type}{tg:Tg}{b:SW}{f:α->FV}{I:List α->nT->Prop}{Q:FFl->nT->Prop}(all:List α) :
  ∀ (rest done:List α)(L:nT),all=done++rest->I done L ->
  (∀ d x r L (K:nT->Prop),all=d++x :: r->I d L->(∀ L',I (d++[x]) L'->K L')->gW tg (f x) L λL1=>b L1 (uH K Q)) ->
  (∀ L,I all L->Q .next L)->yE tg b (rest.map f) L Q
 | [],done,L,e,h,_,E=>by
  rw[iQ] at e
  exact E L (e ▸ h)
 | x :: rest,done,L,e,h,B,E=>B done x rest L _ e h λL' h'=>pf all rest (done++[x]) L' (by simp[e]) h' B E
def oO {tg:Tg}{b:SW}{I:Nat->nT->Prop}{Q:FFl->nT->Prop}:∀ (n i:Nat)(L:nT),I i L ->
  (∀ j L (K:nT->Prop),i<=j->j<i+n->I j L->(∀ L',I (j+1) L'->K L')->gW tg (.int (j:Int)) L λL1=>b L1 (uH K Q)) ->
  (∀ L,I (i+n) L->Q .next L)->yE tg b (uq (i:Int) n) L Q
 | 0,i,L,h,_,E=>E L h
 | n+1,i,L,h,B,E=>B i L _ (lJ _) ⋯ h λL' h'=>by
  have:=oO n (i+1) L' h' (λj L K hj hj'=>B j L K ⋯ ⋯) (λL h=>E L (by rw[show i+(n+1)=i+1+n by lia];exact h))
  simpa using this
def tj {c:BW}{b:SW}{I:Nat->nT->Prop}{Q:FFl->nT->Prop}(B:∀ m L (K:nT->Prop),I m L->(∀ m' L',m'<m->I m' L'->K L')->c L λt L1=>if t=Ω then b L1 (uH K Q) else Q .next L1){m:Nat}{L:nT}(h:I m L):zq c b L Q:=by
 let go:∀ n m L,m<n->I m L->Bu c b n L Q:=by
  intro n
  induction n with
  | zero=>intro m L hm;lia
  | succ n ih=>intro m L hm h;exact B m L _ h λm' L' h1 h2=>ih m' L' ⋯ h2
 exact⟨m+1,go _ m L (gk _) h⟩
def wz {α:Type}{tg:Tg}{n m:Nat}{t:BW}{e:EW}{f:α->FV}{I:List α->List FV->nT->Prop}{Q:List FV->nT->Prop}(all:List α) :
  ∀ (rest done:List α)(Z8:List FV)(L:nT),all=done++rest->I done Z8 L ->
  (∀ d x r Z8 L (K:List FV->nT->Prop),all=d++x :: r->I d Z8 L->(∀ acc' L',I (d++[x]) acc' L'->K acc' L')->gW tg (f x) (L++jt m Φ) λL1=>t L1 λb L2=>if b=Ω then e L2 λv L3=>K (Z8++[v]) (L3.take n) else K Z8 (L2.take n)) ->
  (∀ ys L,I all ys L->Q ys L)->rA n m tg t e (rest.map f) Z8 L Q
 | [],done,Z8,L,e,h,_,E=>by
  rw[iQ] at e
  exact E Z8 L (e ▸ h)
 | x :: rest,done,Z8,L,e,h,B,E=>B done x rest Z8 L (λacc' L'=>rA _ _ _ _ _ (rest.map f) acc' L' Q) e h λacc' L' h'=>wz all rest (done++[x]) acc' L' (by simp[e]) h' B E
def pC {α:Type}{tg:Tg}{n m:Nat}{e:EW}{f:α->FV}{g:α->FV}{Q:List FV->nT->Prop}{L:nT}:∀ (xs:List α)(Z8:List FV),
  (∀ x∈xs,∀ K:FV->nT->Prop,K (g x) L->gW tg (f x) (L++jt m Φ) λL1=>e L1 λv L3=>K v (L3.take n))->Q (Z8++xs.map g) L->rA n m tg o6 e (xs.map f) Z8 L Q
 | [],Z8,_,E=>by
  show Q Z8 L
  simpa using E
 | x :: xs,Z8,B,E=>B x dO (λv L'=>rA n m tg o6 e (xs.map f) (Z8++[v]) L' Q) (pC xs (Z8++[g x]) (λy hy=>B y (cJ _ hy)) (by simpa using E))
def oP {α:Type}{tg:Tg}{n m:Nat}{t:BW}{e:EW}{f:α->FV}{g:α->FV}{p:α->Bool}{Q:List FV->nT->Prop}{L:nT}:∀ (xs:List α)(Z8:List FV),
  (∀ x∈xs,∀ (K:FV->nT->Prop)(N:nT->Prop),(p x=Ω->K (g x) L)->(p x=Ξ->N L)->gW tg (f x) (L++jt m Φ) λL1=>t L1 λb L2=>if b=Ω then e L2 λv L3=>K v (L3.take n) else N (L2.take n))->Q (Z8++(xs.filter p).map g) L->rA n m tg t e (xs.map f) Z8 L Q
 | [],Z8,_,E=>by
  show Q Z8 L
  simpa using E
 | x :: xs,Z8,B,E=>B x dO (λv L'=>rA n m tg t e (xs.map f) (Z8++[v]) L' Q) (λL'=>rA n m tg t e (xs.map f) Z8 L' Q)
   (λhp=>oP xs (Z8++[g x]) (λy hy=>B y (cJ _ hy)) (by rw[List.filter_cons_of_pos hp] at E;simpa using E))
   (λhp=>oP xs Z8 (λy hy=>B y (cJ _ hy)) (by rw[List.filter_cons_of_neg (by simp[hp])] at E;exact E))
def Ct:∀ n lo:Nat,uq (lo:Int) n=(List.range' lo n).map λi:Nat=>FV.int i
 | 0,lo=>rfl
 | n+1,lo=>by simp![uq,List.range'_succ,kn];rw[<- Ct n (lo+1)];simp
def pH (n:Nat):uq 0 n=(mm n).map λi:Nat=>FV.int i:=by
 have:=Ct n 0
 rw[List.range_eq_range'];exact_mod_cast this
def pq {c A B:Prop} [Decidable c] (h1:c->A)(h2:¬ c->B):if c then A else B:=by
 by_cases h:c
 ·rw[if_pos h];exact h1 h
 ·rw[if_neg h];exact h2 h
end Kq
set_option maxHeartbeats 4000000
namespace Kq
open PySem PySem.Spec PyProof.Rows L2
section
variable {X:Cx}{C:CC}{n:Nat}{sp:kP->Nat->Sp}{a b:Expr}{pos px py pt p2:Pos}{i j kt k2:Nat}{nx ny:Str}
def HM (G:Good X C n sp){ta:TA}(h:Dg C i j nx ny px py a b=Ω)(ha:PA X.nox [a,b] ta):PS X.nox (.Assign [.Tuple [.Name nx px,.Name ny py] kt pt] (.Tuple [a,b] k2 p2) pos) (KQ i j ta):=by
 let g0:=b2 h;let g1:=b2 g0.1;let g2:=b2 g1.1;let g3:=b2 g2.1;let g4:=b2 g3.1;let g5:=b2 g4.1;let g6:=b2 g5.1;let g7:=b2 g6.1;let g8:=b2 g7.1;let g9:=b2 g8.1
 let lx:X.env.scope.names.lookup nx=Ψ .local:=by rw[G.sc];exact de g6.2
 let ly:X.env.scope.names.lookup ny=Ψ .local:=by rw[G.sc];exact de g5.2
 exact Hw (X:=X.nox) G.calm G.nd' (G.ix g9.1) (G.ix g9.2) (de g8.2) lx ly ha (sw2 (env:=X.env) G.kind lx ly (de g7.2) g4.2 (nb g3.2) (nb g2.2) (nb g1.2) (nb g0.2))
def HL (h:Dg C i j nx ny px py a b=Ω):oh a=Ξ/\oh b=Ξ/\i≠j:=by
 let g0:=b2 h;let g1:=b2 g0.1;let g2:=b2 g1.1;let g3:=b2 g2.1;let g4:=b2 g3.1;let g5:=b2 g4.1;let g6:=b2 g5.1;let g7:=b2 g6.1;let g8:=b2 g7.1
 exact⟨by cases a<;>first|rfl|(exact nb g3.2),by cases b<;>first|rfl|(exact nb g2.2),de g8.2⟩
end
abbrev oB {κ α:Type} [DecidableEq κ] (ks:List κ)(vs:List α)(k:κ)(v:α):List κ×List α :=
 if k∈ks then (ks,k5 (λk' v'=>if k'=k then v else v') ks vs) else (ks++[k],vs++[v])
abbrev pv {κ α:Type} [DecidableEq κ]:List κ->List α->κ->Option α
 | k' :: ks,v :: vs,k=>if k'=k then Ψ v else pv ks vs k
 | _,_,_=>Φ
def AU {a b:List Int}(h:a.map (Sum.inl:Int->Int ⊕ Option Str)=b.map Sum.inl):a=b:=by
 induction a generalizing b with
 | nil=>cases b with|nil=>rfl|cons=>cases h
 | cons x r ih=>cases b with
  | nil=>cases h
  | cons y q =>
   simp![kn,iP,Sum.inl.injEq] at h
   rw[h.1,ih h.2]
def tM:∀ (ks:List (List Int))(us:List V)(k:List Int),rO ((pk ks).zip us) (k.map Sum.inl)=pv ks us k
 | [],us,k=>by cases us<;>rfl
 | k' :: ks,[],k=>rfl
 | k' :: ks,u :: us,k=>by
  show rO ((k'.map Sum.inl,u) :: (pk ks).zip us) (k.map Sum.inl)=if k'=k then Ψ u else pv ks us k
  by_cases e:k'=k
  ·subst e;rw[qU rfl,if_pos rfl]
  ·rw[qV λz=>e (AU z),if_neg e];exact tM ks us k
def p5 {κ α:Type} [DecidableEq κ]:∀ {ks:List κ}{vs:List α}(k:κ),ks.length=vs.length->((pv ks vs k).isSome=Ω↔k∈ks)
 | [],vs,k,h=>⟨λz=>gQ (show Ξ=Ω from z),λz=>nomatch z⟩
 | k' :: ks,[],k,h=>by simp at h
 | k' :: ks,v :: vs,k,h=>by
  show (if k'=k then Ψ v else pv ks vs k).isSome=Ω↔_
  by_cases e:k'=k
  ·simp[e]
  ·simp![e,if_false,kj,mZ e,false_or]
   rw[p5 k (by simpa using h)]
def wT (ks:List (List Int))(us:List V)(k:List Int)(u:V)(hl:ks.length=us.length):qm ((pk ks).zip us) (k.map Sum.inl) u=(pk (oB ks us k u).1).zip (oB ks us k u).2:=by
 let hany:(((pk ks).zip us).any λkv=>Δ (kv.1=k.map Sum.inl))=Ω↔k∈ks:=by
  rw[rR,tM,p5 k hl]
 unfold qm oB
 by_cases e:k∈ks
 ·rw[if_pos (hany.mpr e),if_pos e]
  clear e hany
  induction ks generalizing us with
  | nil=>cases us<;>rfl
  | cons k' ks ih=>cases us with
   | nil=>rfl
   | cons u' us =>
    have:=ih us (by simpa using hl)
    show (if k'.map Sum.inl=k.map Sum.inl then (k'.map Sum.inl,u) else (k'.map Sum.inl,u')) :: ((pk ks).zip us).map _=(k'.map Sum.inl,if k'=k then u else u') :: (pk ks).zip _
    rw[this]
    congr 1
    by_cases e:k'=k
    ·subst e;simp
    ·rw[if_neg λz=>e (AU z),if_neg e]
 ·rw[if_neg λz=>e (hany.mp z),if_neg e]
  show _=(pk (ks++[k])).zip (us++[u])
  have:pk (ks++[k])=pk ks++[k.map Sum.inl]:=by simp[pk]
  rw[this,iw (by simpa[pk] using hl)];rfl
def qG {κ α:Type} [DecidableEq κ] (ks:List κ)(vs:List α)(k:κ)(v:α)(h:ks.length=vs.length):(oB ks vs k v).1.length=(oB ks vs k v).2.length/\(oB ks vs k v).1.length<=ks.length+1:=by
 unfold oB
 split
 ·simp[h]
 ·simp[h]
section
variable {K:kP}{S H:Hp}
def Ap {κ:Type} [DecidableEq κ] {k:κ}{v:FV}{u:V}(r2:RV K S v u):∀ {ks:List κ}{vs:List FV}{us:List V},RVs K S vs us->RVs K S (k5 (λk' v'=>if k'=k then v else v') ks vs) (k5 (λk' v'=>if k'=k then u else v') ks us)
 | [],vs,us,_=>rfl
 | k' :: ks,[],us,r=>by cases (show us=[] from r);rfl
 | k' :: ks,p :: vs,us,q1=>by
  let(x,q,e,h1,h2):=q1
  subst e
  exact⟨_,_,rfl,?_,Ap r2 h2⟩
  by_cases e:k'=k
  ·simp![e,if_true];exact r2
  ·simp![e,if_false];exact h1
def qY {κ:Type} [DecidableEq κ] {ks:List κ}{vs:List FV}{us:List V}{k:κ}{v:FV}{u:V}(r:RVs K S vs us)(r2:RV K S v u):(oB ks vs k v).1=(oB ks us k u).1/\RVs K S (oB ks vs k v).2 (oB ks us k u).2:=by
 unfold oB
 split
 ·exact⟨rfl,Ap r2 r⟩
 ·exact⟨rfl,r.append (RVs.one r2)⟩
def tN {κ:Type} [DecidableEq κ]:∀ {ks:List κ}{vs:List FV}{us:List V}{k:κ}{v:FV},RVs K S vs us->pv ks vs k=Ψ v->∃ u,pv ks us k=Ψ u/\RV K S v u
 | [],vs,us,k,v,r,e=>by cases (show Φ=Ψ v from e)
 | k' :: ks,[],us,k,v,r,e=>by cases (show Φ=Ψ v from e)
 | k' :: ks,p :: vs,us,k,v,q1,e=>by
  let(x,q,e',h1,h2):=q1
  subst e'
  replace e:(if k'=k then Ψ p else pv ks vs k)=Ψ v:=e
  show ∃ u,(if k'=k then Ψ x else pv ks q k)=Ψ u/\_
  by_cases e0:k'=k
  ·rw[if_pos e0] at e ⊢;cases e;exact⟨x,rfl,h1⟩
  ·rw[if_neg e0] at e ⊢;exact tN h2 e
def tZ {ps:List FV}{k:List Int}{x:V}(r:RV K S (.tup ps) x)(e:oM ps=Ψ k):∃ b,x=.ref b/\S b=Ψ (.tup ((k.map (Sum.inl:Int->Int ⊕ Option Str)).map kV)):=by
 let(b,xs,rfl,h1,h2):=r
 exact⟨b,rfl,?_⟩
 rw[h1,qo h2 e,k9];rfl
variable {c:Cn}{md:Md}{L:nT}{σ:L2.St}
def Fn {q:nP}{ks:List (List Int)}{vs:List FV}{us:List V}(I:Iv K c md L σ S H)(h1:S q=Φ)(h2:H q=Ψ (.dT ((pk ks).zip us)))(hl:ks.length=vs.length)(h3:RVs K S vs us)(fr:sk c md L σ q):∃ u,H q=Ψ u/\Iv K c md L σ (oT S q u) H/\RV K (oT S q u) (.dct ks vs) (.ref q):=by
 let s:=oA (o:=.dT ((pk ks).zip us)) h1
 exact⟨_,h2,⟨I.len,λi v h e=>let ⟨x,e1,r⟩:=I.imm i v h e;⟨x,e1,r.mono s⟩,λi v h e=>?_,I.dis,λa u e=>?_,I.frame,I.s0.trans s,λa u e=>?_,I.lent,I.fzs,I.fzm,I.fzp,λp hp=>let ⟨g1,g2,g3⟩:=I.prs p hp;⟨g1,by rw[nZ (fr.2.1 p hp)];exact g2,g3⟩,I.ntp,I.lnt1,I.tie⟩,q,us,rfl,hl,n5,h3.mono s⟩
 ·let(b,e1,(g1,rs,zs,g2,g3,g4),g5):=I.own i v h e
  let hb:b≠q:=λz=>by subst z;exact fr.2.2 i v h e e1
  exact⟨b,e1,⟨by rw[nZ hb];exact g1,rs,zs,g2,g3,g4.mono s⟩,g5⟩
 ·by_cases z:a=q
  ·subst z;rw[n5] at e;cases e;exact h2
  ·rw[nZ z] at e;exact I.sub a u e
 ·by_cases z:a=q
  ·subst z;exact .inr (.inl fr.1)
  ·rw[nZ z] at e;exact I.grow a u e
end
abbrev se (n m:Nat)(tg:Tg)(t:BW)(ek ev:EW):List FV->List (List Int)->List FV->nT->(List (List Int)->List FV->nT->Prop)->Prop
 | [],ks,vs,L,Q=>Q ks vs L
 | x :: xs,ks,vs,L,Q=>gW tg x (L++jt m Φ) λL1=>t L1 λb L2=>if b=Ω then ek L2 λkx L3=>wp (qP kx) λps=>wp (oM ps) λk=>ev L3 λv L4=>se n m tg t ek ev xs (oB ks vs k v).1 (oB ks vs k v).2 (L4.take n) Q else se n m tg t ek ev xs ks vs (L2.take n) Q
abbrev zT (n m:Nat)(it:AW)(tg:Tg)(t:BW)(ek ev:EW):EW:=λL Q=>it L λxs L1=>L1.length=n/\xs.length<=big/\se n m tg t ek ev xs [] [] L1 λks vs L2=>Q (.dct ks vs) L2
section
variable {K:kP}{c:Cn}{md:Md}{L:nT}{σ:L2.St}{S H:Hp}
def Ce {J:It}{xs:List FV}{n m:Nat}{tg:Tg}{t:BW}{ek ev:EW}{Q:VK}{Q1:List (List Int)->List FV->nT->Prop}(I:Iv K c md L σ S H)(hJ:Cr K c md J xs S)(hL:L.length=n)(hmd:md.length<=n)(ht:qW md tg=Ω)(hg:uI n tg=Ω)(hb:xs.length<=big)(h:se n m tg t ek ev xs [] [] L Q1)
  (k:∀ Z8 ks vs us L' S' H',H Z8=Φ->Q1 ks vs L'->S' Z8=Φ->H' Z8=Ψ (.dT ((pk ks).zip us))->ks.length=vs.length->RVs K S' vs us->sk c md L' σ Z8->Iv K c md L' σ S' H'->Same S S'->Q (.ref Z8) H') :
  ∀ Z8,H Z8=Φ->∃ W:Nat->Nat->Hp->Prop,(∃ m,W 0 m (oT H Z8 (.dT [])))/\∀ i j H,W i j H ->
   (J.stop i H/\Q (.ref Z8) H) ∨ (J.go i H/\∀ x H',J.yld i H x H'->gT K tg x (σ++jt m Φ) H' λσ2 H2=>Wk (σ++jt m Φ) σ2/\lb K md t σ2 H2 λb H3 =>
    if b=Ω then N8 (lv K md ek) (lv K md ev) Z8 σ2 H3 λH4=>∃ m',m'<j/\W (i+1) m' H4 else ∃ m',m'<j/\W (i+1) m' H3):=by
 intro Z8 hacc
 let h0:=I.h0 hacc
 let hp:∀ p∈c.pr,p.1≠Z8:=(I.fresh hacc).2.1
 let hz:=I.fzp
 let hbl:=ph
 exact sC (α:=List (List Int)×List FV) (β:=List (List Int)×List V) (fr:=λb=>{ c with pr:=(Z8,.dT ((pk b.1).zip b.2)) :: c.pr }) (P:=λa b S=>a.1=b.1/\a.1.length=a.2.length/\RVs K S a.2 b.2) (N:=λa=>a.1.length) (Cm:=λxs a L=>se n m tg t ek ev xs a.1 a.2 L Q1) (em:=λa L3 K'=>ek L3 λkx L4=>wp (qP kx) λps=>wp (oM ps) λk=>ev L4 λv L5=>K' (oB a.1 a.2 k v) L5) (a0:=([],[])) (b0:=([],[])) ((I.lay hacc _).prot n5 (I.sn hacc) λj w hm hj=>(I.fresh hacc).2.2 j w (Mo.w_imm hm) hj) hJ hL hmd ht hg ⟨rfl,rfl,rfl⟩ rfl h (λ_ _ _ _ _ _ I _=>I.unprot hz) (λ_ _ _ _ ⟨e,l,r⟩ s=>⟨e,l,r.mono s⟩) (λ_ _ _ _ h=>h) (λ⟨ks,vs⟩ ⟨ks',us⟩ L3 σ2 S3 H3 K' Z hn I3 ⟨e,hkl,r⟩ hv kz=>?_) λ⟨ks,vs⟩ ⟨ks',us⟩ L' S' H' q I' ⟨e,hkl,r⟩ s'=>?_
 ·cases (show ks=ks' from e)
  dsimp only at hn hkl r
  exact⟨_,L3,S3,_,I3,hv,λkx L4 hk u S4 H4 r4 I4 s4=>?_⟩
  let(ps,e1,hk1):=oS hk
  let(kk,e2,hk2):=oS hk1
  cases pN e1
  let(b,rfl,hb4):=tZ r4 e2
  exact⟨_,L4,S4,_,I4,hk2,λv L5 hv u S5 H5 r5 I5 s5=>?_⟩
  let lr:=r.length
  let(pe,pr):=qY (ks:=ks) (k:=kk) (r.mono (s4.trans s5)) r5
  let(pl1,pl2):=qG ks vs kk v hkl
  exact⟨_,kk.map Sum.inl,b,(I5.prs (Z8,_) dO).1,rfl,I5.sub _ _ (s5 _ _ hb4),by rw[iH,show (pk ks).length=ks.length by simp[pk]];lia,?_⟩
  rw[wT ks us kk u ⋯]
  exact kz _ (oB ks us kk u) L5 S5 _ hv (I5.regrow h0 hp hz) ⟨pe,pl1,pr⟩ (s4.trans s5) pl2
 ·cases (show ks=ks' from e)
  let(g1,g2,f):=I'.newPr h0 hp hz
  exact k Z8 ks vs us L' S' H' hacc q g2 g1 hkl r f (I'.unprot hz) s'
end
section
variable {X:Cx}{C:CC}{n:Nat}{sp:kP->Nat->Sp}{pos:Pos}{scope:nF}{own:List Str}{kx vx ZY Z5:Expr}{Z4:List Expr}{it:AW}{tg:Tg}{t:BW}{ek ev:EW}{nn m:Nat}{md':Md}
def DS (G:Good X C n sp)(h:CompOk X C n sp scope own kx ZY Z5 Z4 nn m md' it tg t ek)(hv:∀ X',Good X' (C.sub scope own md') n sp->FE X' (C.sub scope own md') vx ev):FE X C (.DictComp kx vx [⟨ZY,Z5,Z4,0⟩] scope pos) (zT nn m it tg t ek ev):=by
 let h0:=b2 h.st;let h1:=b2 h0.1;let h2:=b2 h1.1;let h3:=b2 h2.1;let h4:=b2 h3.1;let h5:=b2 h4.1;let h6:=b2 h5.1
 let(s1,s2):=G.sub h6.1 md'
 let hu:X.A.units+1<cLine:=by have:=G.room.units;lia
 let blk:∀ fp D s H,PG (rn X scope own fp D s H) ZY (gT X.K tg)/\PTs (rn X scope own fp D s H) Z4 (lb X.K md' t)/\PE (rn X scope own fp D s H) kx (lv X.K md' ek)/\PE (rn X scope own fp D s H) vx (lv X.K md' ev):=λfp D s H=>⟨h.tg _ (s2 fp D s H),h.ts _ (s2 fp D s H),h.el _ (s2 fp D s H),hv _ (s2 fp D s H)⟩
 exact PE.imp (yf (X:=X) hu G.calm s1 h.it blk (vj (nb h0.2))) λσ H Q q1=>?_;let(c,L,S,Q0,I,hh,k):=q1
 exact⟨c,L,S,_,I,hh,λxs L1 hx J c' S1 H1 I1 un e0 hJ s1=>?_⟩
 let(hl,hb,hc):=hx
 rw[de h5.2]
 exact Ce I1 hJ hl (de h4.2) h2.2 h1.2 hb hc λZ8 ks vs us L' S' H' hn q g1 g2 g3 g4 fr I' s'=>?_
 let(u,hu,I2,r):=Fn (un _ _ _ _ I') g1 g2 g3 g4 ⟨by rw[<- e0];exact fr.1,((un _ _ _ _ I1).fresh hn).2.1,λj w hm=>fr.2.2 j w (tG h3.2 j hm)⟩
 exact k _ L' q _ _ H' r I2 ((s1.trans s').trans (oA g1))
end
abbrev rY (a b:FV):Option FV:=match b with
 | .dct ks _=>(qP a).bind λps=>(oM ps).bind λk=>Ψ (.bl (Δ (k∈ks)))
 | .dci ks _=>(qx a).bind λk=>Ψ (.bl (Δ (k∈ks)))
 | b=>inB a b
abbrev sP (a b:FV):Option FV:=match b with
 | .dct ks _=>(qP a).bind λps=>(oM ps).bind λk=>Ψ (.bl (!Δ (k∈ks)))
 | .dci ks _=>(qx a).bind λk=>Ψ (.bl (!Δ (k∈ks)))
 | b=>niB a b
abbrev Ba (v w:FV):Option FV:=match v with
 | .dct ks vs=>(qP w).bind λps=>(oM ps).bind λk=>pv ks vs k
 | _=>Φ
section
variable {X:Cx}
def RH.dct {K:kP}{S H:Hp}{ks:List (List Int)}{vs:List FV}{y:V}(hs:Same S H)(rq:RH K S H (.dct ks vs) y):∃ a us,y=.ref a/\ks.length=vs.length/\H a=Ψ (.dT ((pk ks).zip us))/\RVs K S vs us:=by
 rcases rq with⟨a,us,e,hl,h1,h2⟩|⟨a,e,_,ps,us,e9,h1,h2⟩
 ·exact⟨a,us,e,hl,hs _ _ h1,h2⟩
 ·let(hl,rfl):=qM e9
  exact⟨a,us,e,hl,h1,h2⟩
def vz {S H:Hp}{ks:List (List Int)}{vs:List FV}{ps:List FV}{k:List Int}{x y:V}(hs:Same S H)(rp:RH X.K S H (.tup ps) x)(rq:RH X.K S H (.dct ks vs) y)(e:oM ps=Ψ k):∃ a us,y=.ref a/\ks.length=us.length/\RVs X.K S vs us/\L2.DGet H a x (pv ks us k):=by
 let(a,us,rfl,hl,h1,h2):=rq.dct hs
 let(b,rfl,hb):=tZ (rp.val rfl) e
 exact⟨a,us,rfl,by rw[hl,h2.length],h2,?_⟩
 rw[<- tM]
 exact .t h1 (hs _ _ hb)
def tL:∀ (ks:List Int)(us:List V) (k:Int),rO ((ql ks).zip us) (Sum.inl k)=pv ks us k
 | [],us,k=>by cases us<;>rfl
 | k' :: ks,[],k=>rfl
 | k' :: ks,u :: us,k=>by
  show rO ((Sum.inl k',u) :: (ql ks).zip us) (Sum.inl k)=if k'=k then Ψ u else pv ks us k
  by_cases e:k'=k
  ·subst e;rw[qU rfl,if_pos rfl]
  ·rw[qV λz=>e (lF z),if_neg e];exact tL ks us k
def RH.dci {K:kP}{S H:Hp}{ks:List Int}{vs:List FV}{y:V}(hs:Same S H)(rq:RH K S H (.dci ks vs) y):∃ a us,y=.ref a/\ks.length=vs.length/\H a=Ψ (.dK ((ql ks).zip us))/\RVs K S vs us:=by
 rcases rq with⟨a,us,e,hl,h1,h2⟩|⟨a,e,_,ps,us,e9,h1,h2⟩
 ·exact⟨a,us,e,hl,hs _ _ h1,h2⟩
 ·let(hl,rfl):=qM e9
  exact⟨a,us,e,hl,h1,h2⟩
def wu {S H:Hp}{ks:List Int}{vs:List FV}{k:Int}{y:V}(hs:Same S H)(rq:RH X.K S H (.dci ks vs) y):∃ a us,y=.ref a/\ks.length=us.length/\RVs X.K S vs us/\L2.DGet H a (.int k) (pv ks us k):=by
 let(a,us,rfl,hl,h1,h2):=rq.dci hs
 exact⟨a,us,rfl,by rw[hl,h2.length],h2,?_⟩
 rw[<- tL]
 exact .k (k:=Sum.inl k) h1
def Lp (hu:X.A.units+64<cLine):qC X (compareOp .In) (Rq X.K rY):=by
 intro Z9 s σ H x y v u Q I rx ry ⟨S,p,q,z,hs,rp,rq,e,k⟩
 cases q with
 | dct ks vs =>
  let(ps,e1,e2):=p7 e
  let(kk,e3,e4):=p7 e2
  cases pN e1
  cases e4
  let(a,us,rfl,hl,h2,g):=vz hs rp rq e3
  cases (show u=Value.ref a from ry)
  exact MG ⋯ I g rx λs' I'=>⟨.bl _,H,I',rfl,?_⟩
  have:(pv ks us kk).isSome=Δ (kk∈ks):=by rw[iW,p5 kk hl];simp
  rw[this]
  exact k.bl
 | dci ks vs =>
  let(kk,e1,e4):=p7 e
  cases oU e1
  cases e4
  cases rp.int
  let(a,us,rfl,hl,h2,g):=wu (k:=kk) hs rq
  cases (show u=Value.ref a from ry)
  exact MG ⋯ I g rx λs' I'=>⟨.bl _,H,I',rfl,?_⟩
  have:(pv ks us kk).isSome=Δ (kk∈ks):=by rw[iW,p5 kk hl];simp
  rw[this]
  exact k.bl
 | _=>exact OU hu Z9 s σ H x y v u Q I rx ry ⟨S,p,_,z,hs,rp,rq,e,k⟩
def Gz (hu:X.A.units+64<cLine):qC X (compareOp .NotIn) (Rq X.K sP):=by
 intro Z9 s σ H x y v u Q I rx ry ⟨S,p,q,z,hs,rp,rq,e,k⟩
 cases q with
 | dct ks vs =>
  let(ps,e1,e2):=p7 e
  let(kk,e3,e4):=p7 e2
  cases pN e1
  cases e4
  let(a,us,rfl,hl,h2,g):=vz hs rp rq e3
  cases (show u=Value.ref a from ry)
  exact Bf ⋯ I g rx λs' I'=>⟨.bl _,H,I',rfl,?_⟩
  have:(pv ks us kk).isSome=Δ (kk∈ks):=by rw[iW,p5 kk hl];simp
  rw[this]
  exact k.bl
 | dci ks vs =>
  let(kk,e1,e4):=p7 e
  cases oU e1
  cases e4
  cases rp.int
  let(a,us,rfl,hl,h2,g):=wu (k:=kk) hs rq
  cases (show u=Value.ref a from ry)
  exact Bf ⋯ I g rx λs' I'=>⟨.bl _,H,I',rfl,?_⟩
  have:(pv ks us kk).isSome=Δ (kk∈ks):=by rw[iW,p5 kk hl];simp
  rw[this]
  exact k.bl
 | _=>exact OT hu Z9 s σ H x y v u Q I rx ry ⟨S,p,_,z,hs,rp,rq,e,k⟩
end
def G4:sj rY:=by
 intro v w z e
 cases w with
 | dct ks vs =>
  let(ps,_,e):=p7 e
  let(k,_,e):=p7 e
  cases e;exact⟨_,rfl⟩
 | dci ks vs =>
  let(k,_,e):=p7 e
  cases e;exact⟨_,rfl⟩
 | _ =>
  let(b,_,rfl):=rW (show (vF v _).map FV.bl=Ψ z from e)
  exact⟨_,rfl⟩
def G3:sj sP:=by
 intro v w z e
 cases w with
 | dct ks vs =>
  let(ps,_,e):=p7 e
  let(k,_,e):=p7 e
  cases e;exact⟨_,rfl⟩
 | dci ks vs =>
  let(k,_,e):=p7 e
  cases e;exact⟨_,rfl⟩
 | _ =>
  let(b,_,rfl):=rW (show (vF v _).map (λr=>FV.bl (!r))=Ψ z from e)
  exact⟨_,rfl⟩
section
variable {X:Cx}{C:CC}{n:Nat}{sp:kP->Nat->Sp}{a b:Expr}{ea eb:EW}{pos:Pos}
def P5 (G:Good X C n sp)(ha:FE X C a ea)(hb:FR X C b eb)(hm:behindInMarks .NotIn b=Ξ):FE X C (.Compare a [.NotIn] [b] pos) (n6 sP ea eb):=vk (Gz G.room.units) ha hb hm
def QF (G:Good X C n sp)(ha:FE X C a ea)(hb:FR X C b eb)(hm:behindInMarks .In b=Ξ):FB X C (.Compare a [.In] [b] pos) (n8 (n6 rY ea eb)):=t7 G4 (Lp G.room.units) ha hb hm
def QC (G:Good X C n sp)(ha:FE X C a ea)(hb:FR X C b eb)(hm:behindInMarks .NotIn b=Ξ):FB X C (.Compare a [.NotIn] [b] pos) (n8 (n6 sP ea eb)):=t7 G3 (Gz G.room.units) ha hb hm
variable {es:List Expr}{k:Nat}{p2:Pos}
def N2 (G:Good X C n sp)(ha:FE X C a ea)(hb:FE X C (.Tuple es k p2) eb):FE X C (.Subscript a (.Tuple es k p2) pos) (n6 Ba ea eb) :=
 PE.imp (wX (X:=X.nox) (by have:=G.room.units;show X.A.units+1<cLine;lia) ha hb λ_ _=>rfl) λσ H Q q1=>by let(c,L,S,Q0,I,h,k):=q1;exact
 ⟨c,L,S,_,I,h,λv L1 hv x S1 H1 r1 I1 s1=>⟨c,L1,S1,_,I1,hv,λw L2 hw y S2 H2 r2 I2 s2=>by
  let(z,e,q):=oS hw
  cases v with
  | dct ks vs =>
   let(ps,e1,e2):=p7 e
   let(kk,e3,e4):=p7 e2
   cases pN e1
   let(a,us,rfl,hl,h2,g):=vz (X:=X) I2.sub (.inl r2) (.inl (r1.mono s2)) e3
   let(u,e5,r5):=tN h2 e4
   rw[e5] at g
   exact⟨a,u,rfl,g,k z L2 q u S2 H2 r5 I2 (s1.trans s2)⟩
  | _=>cases e⟩⟩
end
section
variable (Q:FV->Prop)
nonrec def Pe (ps:List FV)(ks:List (List Int))(vs:List FV):wp (rY (.tup ps) (.dct ks vs)) Q↔wp (oM ps) λk=>Q (.bl (Δ (k∈ks))):=by
 show wp ((oM ps).bind _) Q↔_;rw[p6];rfl
nonrec def Pd (k:Int)(ks:List Int)(vs:List FV):wp (rY (.int k) (.dci ks vs)) Q=Q (.bl (Δ (k∈ks))):=propext m6
nonrec def O9 (k:Int)(ks:List Int)(vs:List FV):wp (sP (.int k) (.dci ks vs)) Q=Q (.bl (!Δ (k∈ks))):=propext m6
nonrec def Pb (a:FV)(xs:List FV):wp (rY a (.tup xs)) Q↔wp (vF a (.tup xs)) λr=>Q (.bl r):=pF _ _ _
nonrec def Pc (a:FV)(xs:List FV):wp (rY a (.lst xs)) Q↔wp (vF a (.lst xs)) λr=>Q (.bl r):=pF _ _ _
nonrec def O7 (a:FV)(xs:List FV):wp (sP a (.tup xs)) Q↔wp (vF a (.tup xs)) λr=>Q (.bl (!r)):=pF _ _ _
nonrec def O8 (a:FV)(xs:List FV):wp (sP a (.lst xs)) Q↔wp (vF a (.lst xs)) λr=>Q (.bl (!r)):=pF _ _ _
nonrec def Pg (ps:List FV)(ks:List (List Int))(vs:List FV):wp (Ba (.dct ks vs) (.tup ps)) Q↔wp (oM ps) λk=>wp (pv ks vs k) Q:=by
 show wp ((oM ps).bind _) Q↔_;rw[p6]
nonrec def Ph (Q:List Int->Prop):wp (oM []) Q=Q []:=propext m6
nonrec def Pi (i:Int)(r:List FV)(Q:List Int->Prop):wp (oM (.int i :: r)) Q↔wp (oM r) λns=>Q (i :: ns):=by
 show wp ((oM r).map (i :: ·)) Q↔_;rw[pF]
end
nonrec def Kx (n m:Nat)(it:AW)(tg:Tg)(t:BW)(ek ev:EW)(L:nT)(Q:FV->nT->Prop):zT n m it tg t ek ev L Q=(it L λxs L1=>L1.length=n/\xs.length<=big/\se n m tg t ek ev xs [] [] L1 λks vs L2=>Q (.dct ks vs) L2):=propext m6
def wD {α:Type}{tg:Tg}{n m:Nat}{ek ev:EW}{f:α->FV}{g:α->List Int}{h:α->FV}{Q:List (List Int)->List FV->nT->Prop}{L:nT}:∀ (xs:List α)(ks:List (List Int))(vs:List FV),
  (∀ x∈xs,g x ∉ ks)->(xs.map g).Nodup ->
  (∀ x∈xs,∀ K:List Int->FV->nT->Prop,K (g x) (h x) L->gW tg (f x) (L++jt m Φ) λL1=>ek L1 λkx L3=>wp (qP kx) λps=>wp (oM ps) λk=>ev L3 λv L4=>K k v (L4.take n))->Q (ks++xs.map g) (vs++xs.map h) L->se n m tg o6 ek ev (xs.map f) ks vs L Q
 | [],ks,vs,_,_,_,E=>by
  show Q ks vs L
  simpa using E
 | x :: xs,ks,vs,hn,hd,B,E=>by
  exact B x dO (λk v L'=>se n m tg o6 ek ev (xs.map f) (oB ks vs k v).1 (oB ks vs k v).2 L' Q) ?_
  let hk:=hn x dO
  simp![kn,iC] at hd
  let e:oB ks vs (g x) (h x)=(ks++[g x],vs++[h x]):=by simp[oB,hk]
  rw[e]
  exact wD xs _ _ (λy hy hm=>?_) hd.2 (λy hy=>B y (cJ _ hy)) (by simpa using E)
  rcases iF.mp hm with hm|hm
  ·exact hn y (cJ _ hy) hm
  ·simp at hm
   exact hd.1 (by rw[<- hm];exact c5 hy)
abbrev Ak (v:FV):Option FV:=(qa v).bind λxs=>(zk xs).map .int
section
variable {X:Cx}
def zZ (hc:X.calm=Ω):oR X (.builtin "sum") (λxs H Q=>∃ (a:nP)(ns:List Int),xs=[.ref a]/\SqT X.K H a (ns.map V.int)/\ns.length<=big/\(∀ n∈ns,-(2 ^ 40)<=n/\n<=2 ^ 40)/\Q (.int ns.sum) H):=by
 intro Z9 s σ H xs us Q I r h
 let(a,ns,rfl,hq,hz,hb,q):=h
 let(u,rfl,rx):=vals1 r
 cases rx
 let(Z7,r',pl,hz'):=I.tuple hq
 let hlen:ns.length=Z7.length:=by have:=r'.length;simpa using this
 let pt:s.heap.IsTuple a Z7.toArray:=pl
 let alt:a<s.heap.objs.size:=by let(_,e,_):=pt;exact lg e
 let hh:X.A.in1.handled=Φ:=I.ok.hd hc
 exact jR (dr pt ?_)
 exact⟨s.heap.objs.size,_,_,_,_,_,λi=>ns.getD i 0,rfl,Walks.tuple hh s.heap.objs.size a (kU alt) Z7.toArray,⟨⟨_,dc _ rfl,rfl,rfl⟩,pt.at λo e=>bS _ e⟩,?_,?_,?_,?_⟩
 ·intro b hb'
  simp at hb'
  rcases hb' with rfl|rfl
  ·show _<(s.heap.push _).objs.size;rw[jA];exact gk _
  ·show _<(s.heap.push _).objs.size;rw[jA];exact fg alt
 ·intro i v hv
  let hv:Z7.toArray[i]?=Ψ v:=hv
  let hi:i<ns.length:=by rw[hlen];simpa using (aN.mp hv).1
  let(t,e):=Vals.mapInt r' i hi
  exact⟨t,?_⟩
  let e':Z7.toArray[i]?=Ψ (.int (ns.getD i 0) t):=by simpa using e
  rw[hv] at e'
  exact ip e'
 ·intro j hj
  let hj':j<ns.length:=by rw[hlen];simpa using hj
  let hm:ns.getD j 0∈ns:=by simp[mC,hj']
  exact⟨?_,?_⟩
  ·have:=hb _ hm
   show -(2 ^ 63)<=ns.getD j 0/\ns.getD j 0<2 ^ 63
   lia
  ·rw[qv ns (j+1) hj']
   let b2:=zh 1099511627776 (·) (ns.take (j+1)) λn hn=>by have:=hb n (cF hn);lia
   let l2:(ns.take (j+1)).length<=100000:=by rw[gz];unfold big at hz;lia
   unfold InLong;lia
 ·intro h' tk t' hk
  let e:preSum (λi=>ns.getD i 0) Z7.toArray.size=ns.sum:=by
   rw[fk,<- hlen,qv ns _ (lJ _),gr]
  rw[e]
  exact⟨.int ns.sum,H,?_,⟨t',rfl⟩,q⟩
  exact I.kept (t':=tk) λb o e=>hk b o (by simp;exact kU (lg e)) (bS _ e)
def JB (hc:X.calm=Ω):oR X (.builtin "sum") (Rc X.K Ak):=by
 rintro Z9 s σ H xs us Q I r ⟨S,v,x,z,rfl,hs,rv,e,k⟩
 cases v with
 | tup ps =>
  let(n,e3,rfl):=rW e
  let(ns,e4,e5):=p7 e3
  let(hb,rfl):=qM e5
  let(a,ys,rfl,hq,ry):=rv.tup hs
  cases qo ry e4
  exact zZ hc Z9 s σ H _ us Q I r ⟨a,ns,rfl,SqT.of hq,hb.1,λn hn=>?_,k.int⟩
  have:=gK.mp hb.2 n hn
  simpa[ur] using this
 | lst ps=>exact Ed hc Z9 s σ H _ us Q I r ⟨S,.lst ps,x,z,rfl,hs,rv,e,k⟩
 | scr ps=>exact Ed hc Z9 s σ H _ us Q I r ⟨S,.scr ps,x,z,rfl,hs,rv,e,k⟩
 | _=>cases e
end
section
variable {X:Cx}{C:CC}{n:Nat}{sp:kP->Nat->Sp}{a:Expr}{ea:EW}{pos p:Pos}
def NT (G:Good X C n sp)(hg:C.gl (kL "sum")=Ω)(hs:oh a=Ξ)(ha:FR X C a ea):FE X C (.Call (.Name (kL "sum") p) [a] [] pos) (oH Ak ea):=uh (JB G.calm) G (·) (by nofun) (by nofun) (by nofun) hg hs ha
end
nonrec def QJ (v:FV)(Q:FV->Prop):wp (Ak v) Q↔wp (qa v) λxs=>wp (zk xs) λn=>Q (.int n):=by
 show wp ((qa v).bind _) Q↔_
 simp![p6,pF]
abbrev sD {α:Type}(xs:List α) (k:Nat)(y:α):List α:=xs.take k++y :: xs.drop k
abbrev zK (v:FV)(ys:List FV):Option FV:=match ys with
 | [i,y]=>(rQ v).bind λxs=>(qx i).bind λk=>if 0<=k/\k<4611686018427387904/\xs.length<big then Ψ (.lst (sD xs k.toNat y)) else Φ
 | _=>Φ
abbrev sW (f:FV->List FV->Option FV) (i:Nat)(as:AW):EW:=λL Q=>wp (lk L i) λv=>wp (rQ v) λ_=>as L λys L1=>wp (lk L1 i) λx=>wp (f x ys) λz=>Q .non (L1.set i (Ψ z))
section
variable {X:Cx}
inductive rInsert (x:V)(vs:List V)(H:Hp)(Q:VK):Prop
 | mk (l:nP)(xs:List V) (k:Int)(y:V)(_:x=.ref l)(_:vs=[.int k,y])(_:H l=Ψ (.lst xs))(_:(0<=k/\k<4611686018427387904))(_:xs.length<sizeLine)(_:Q .non (oT H l (.lst (sD xs k.toNat y)))):rInsert x vs H Q
def Vals.take:∀ {xs:List V}{us:List nE} (k:Nat),Vals xs us->Vals (xs.take k) (us.take k)
 | _,_,0,_=>.nil
 | _,_,k+1,.nil=>.nil
 | _,_,k+1,.cons r t=>.cons r (Vals.take k t)
def Vals.drop:∀ {xs:List V}{us:List nE} (k:Nat),Vals xs us->Vals (xs.drop k) (us.drop k)
 | _,_,0,h=>h
 | _,_,k+1,.nil=>.nil
 | _,_,k+1,.cons r t=>Vals.drop k t
def BO:Sn X "list.insert" rInsert:=by
 intro Z9 s σ H x vs v us Q I rx rv h
 let(l,xs,k,y,rfl,rfl,hH,hk,hz,q):=h
 cases rx
 let(u1,u2,rfl,ru1,ru2):=rv.two
 let(t,rfl):=ru1
 let(z,Z7,n,r,hl,e):=I.lstM hH
 let hf:aL k=Ω:=by
  unfold aL
  rw[gR]
  exact⟨decide_eq_true ⋯,decide_eq_true ⋯⟩
 exact lV F.slot_list_insert ⟨_,e,rfl⟩ F.entry_list_insert (F.args_list_insert_3 _ _ _) (AutoSeq1.list_insert_list_int_val_1 l Z7.toArray n k t u2 (by simp[hf]) (by rw[fk];lia)) ⟨e,?_⟩
 let e1:Z7.take (min k.toNat Z7.length)=Z7.take k.toNat:=by rw[ca];lia
 let e2:Z7.drop (min k.toNat Z7.length)=Z7.drop k.toNat:=by
  by_cases c:k.toNat<=Z7.length
  ·rw[ir c]
  ·rw[gh ⋯,bP (lJ _),bP ⋯]
 exact⟨.non,_,I.lset (its':=sD Z7 k.toNat u2) hH e ?_ ((Vals.take k.toNat r).append (.cons ru2 (Vals.drop k.toNat r))) ?_,rfl,q⟩
 ·show (Z7.toArray.extract 0 (if k<0 then (k+(Z7.toArray.size:Int)).toNat else min k.toNat Z7.toArray.size)).push u2++Z7.toArray.extract (if k<0 then (k+(Z7.toArray.size:Int)).toNat else min k.toNat Z7.toArray.size)=(sD Z7 k.toNat u2).toArray
  rw[if_neg ⋯,PySem.W.kl_ins_eq,fk,e1,e2];rfl
 ·simp![dP,gC,gz,gB];lia
end
section
variable {K:kP}{S:Hp}
def RVs.ins {ps:List FV}{vs:List V}{p:FV}{v:V} (k:Nat)(h:RVs K S ps vs)(hp:RV K S p v):RVs K S (sD ps k p) (sD vs k v) :=
 (h.take k).append (show RVs K S (p :: ps.drop k) (v :: vs.drop k) from ⟨v,_,rfl,hp,h.drop k⟩)
end
section
variable {X:Cx}{C:CC}{n:Nat}{sp:kP->Nat->Sp}{a b:Expr}{as:AW}{nx:Str}{p:Pos}{i:Nat}
def Qf (G:Good X C n sp){ZZ Z0:Pos}(h:C.nm i nx=Ω)(m:nW C.md i=.own)(hl:JH ZZ Z0=Ω)(hs:pU [a,b]=Ω)(ha:FA X C [a,b] as):FE X C (.Call (.Attribute (.Name nx p) (kL "insert") ZZ) [a,b] [] Z0) (sW zK i as):=by
 let hs1:oh a=Ξ:=by simp[pU] at hs;exact hs.1
 let hs2:oh b=Ξ:=by simp[pU] at hs;exact hs.2
 exact PE.imp (GG bw PySem.F.slot_list_insert PySem.F.type_list_insert BO (o7 G h) ha rfl (by rw[nX hs1,nX hs2];rfl) hl (nX hs1) (by rw[nX hs2];rfl)) λσ H Q ⟨c,L,S,Q0,I,h,k⟩=>?_
 let(v,e,h):=oS h
 let(v9,e9,h):=oS h
 cases qe e9
 let e':=(oZ _ _ _).mp e
 let mi:nW C.md i≠.imm:=λz=>by rw[m] at z;cases z
 let(l,e1,(_,ps,xs,e8,h1,_),_):=I.own i _ mi e'
 exact⟨_,e1,.inl ⟨rfl,xs,SqL.of h1⟩,c,L,S,_,I,h,λw L1 hw y S1 H1 r1 I1 s1=>?_⟩
 let(v1,e2,hw):=oS hw
 let(z,e3,q):=oS hw
 let e2':=(oZ _ _ _).mp e2
 rcases w with _|⟨w1,_|⟨w2,_|⟨w3,w⟩⟩⟩
 ·cases e3
 ·cases e3
 ·let(qs,e4,e5):=p7 e3
  let(j,e6,e7):=p7 e5
  cases qe e4
  cases oU e6
  let(hb,rfl):=qM e7
  let(u1,u2,rfl,g1,g2):=r1.two_of
  cases (show u1=V.int j from g1)
  let(l',f1,(f2,rs,zs,f3,f4,f5),_):=I1.own i _ mi e2'
  rw[e1] at f1;cases f1
  cases f3
  have:=ph
  exact⟨l,zs,j,u2,rfl,rfl,f4,⟨hb.1,hb.2.1⟩,by rw[<- f5.length];lia,k _ _ q .non S1 _ rfl (I1.write m e2' e1 (f5.ins j.toNat g2)) s1⟩
 ·cases e3
end
nonrec def Kv (f:FV->List FV->Option FV) (i:Nat)(as:AW)(L:nT)(Q:FV->nT->Prop):sW f i as L Q=(wp (lk L i) λv=>wp (rQ v) λ_=>as L λys L1=>wp (lk L1 i) λx=>wp (f x ys) λz=>Q .non (L1.set i (Ψ z))):=propext m6
nonrec def k_ins (xs:List FV) (k:Int)(y:FV)(Q:FV->Prop):wp (zK (.lst xs) [.int k,y]) Q↔(0<=k/\k<4611686018427387904/\xs.length<big)/\Q (.lst (sD xs k.toNat y)):=by
 show wp (if _ then Ψ _ else Φ) Q↔_
 exact qO _ _ _
end Kq
namespace PySem
open Sem (wp)
def u8:typeLookup (.type "list") (kL "keys")=pure Φ:=by rw[typeLookup_type,builtinLookup_eq_fast];kernel_rfl
def sV {prog:mX}{w:nC}{A:nB}{E:nE->nh->Prop}{s:nh}{a:nP}{o:Obj}{xs:Array nE}{k:Nat}{name:Str}{Q:Option nE->nh->Prop}
  (hx:s.heap.get? a=Ψ o)(hc:o.cls=.type "list")(hdat:o.data=.seq xs k)(hd:o.dict=Φ)(hmiss:typeLookup (.type "list") name=pure Φ)(hname:(["__module__","__name__","__qualname__","__doc__","__annotations__"]:List Str).contains name=Ξ)(hA:A.handled=Φ)
  (h:∀ h' tk e,Heap.NewExcOf s.heap h' e "AttributeError"->Q Φ { s with heap:=h',toks:=tk })(hsz:name.length+100<=sizeLine:=by size_fits) :
  wpAny (model prog w) A (getAttr? (.ref a) name) Q E s:=by
 let(c,dct,dat,sl):=o
 simp only at hc hdat hd
 subst hc hdat hd
 let(hp,g,d,tk,os):=s
 let hT:∀ tk',(⟨hp,g,d,tk',os⟩:nh).TypeIs (.ref a) "list":=λ_=>⟨_,hx,rfl⟩
 let f1:=sub_AttributeError
 let f3:=bp.lookup
 let f4:=bp.bind (.ref a)
 let f5:=am_list_getattr_none
 unfold getAttr? getAttrBy? getAttrBy
 repeat (any_goals (first|assumption|exact hT _|((with_reducible show wpAny _ _ (call (Value.builtin "list.__getattribute__") _ _) _ _ _);exact lV bp (hT _) am_entry_list_getattribute (F.args_list_getattribute_2 _ _) (meets_getattribute_miss_list a xs k sl name _ hmiss hname hsz) ⟨hx,hA,λh' tk' e hx'=>?_⟩)|wp_step))
 let(t',u',he):=hx'.there
 show wpAny _ _ (getattributeRaised _ _ _ _ _ _ _) _ _ _
 unfold getattributeRaised
 repeat (any_goals (first|assumption|wp_step))
 exact h _ _ _ hx'.of
end PySem
namespace Kq
open PySem PySem.Spec PyProof.Rows L2
def F.entry_dict_update_loop:entryFor table "dict.update.loop" = Ψ m7.«dict.update.loop»:=entryFor_of_tree (by kernel_rfl)
def F.plain_dict_update_loop:plainId "dict.update.loop" = Ω:=by nofun
noncomputable abbrev vE (H:Hp):List V->List (List pW×V)->Prop:=nq λy p=>∃ b kb:nP,y=.ref b/\H b=Ψ (.tup [.ref kb,p.2])/\H kb=Ψ (.tup (p.1.map kV))
abbrev uG (P:mX)(w:nC)(h:nM)(D:nP)(xs:List (List pW×nP×nE)):Prop :=
 ∃ o es ep,h.get? D=Ψ o/\o.ExactDict/\o.data=.dict es ep/\es.toList=xs.map (entryOfKey (tupleKind (oI P w)))/\(xs.map (·.1)).Nodup
section
variable {P:mX}{w:nC}{A:nB}{R:nj->nh->Prop}{H:Hp}{h0:nM}{it l D:nP}{items:Array nE}
def AO (ok:HOk P w H h0){h:nM}(kp:L2.Kept h0 h h0.objs.size){a:nP}{ks:List pW}(e:H a=Ψ (.tup (ks.map kV))):(tupleKind (oI P w)).is h ks a:=by
 let(o,Z7,n,h1,h2):=sT ok e
 exact⟨o,Z7,n,kp a o (lg h1) h1,h2⟩
def CT (ok:HOk P w H h0){h:nM}(kp:L2.Kept h0 h h0.objs.size){Z6:List (List pW×V)}{xs:List (List pW×nP×nE)}(r:KT H Z6 xs)(d:uG P w h D xs):h.DictOfH (tupleKind (oI P w)) D xs:=by
 let(o,es,ep,h1,h2,h3,h4,h5):=d
 exact⟨o,es,ep,h1,h2,h3,h4,λx hx=>?_,h5⟩
 let all:∀ {l:List (List pW×V)}{m:List (List pW×nP×nE)},KT H l m->∀ x∈m,(tupleKind (oI P w)).is h x.1 x.2.1:=by
  intro l m q
  induction q with
  | nil=>intro x hx;exact nomatch hx
  | @cons p q ps qs hq t ih =>
   intro x hx
   rcases kj.mp hx with e|hx
   ·subst e
    exact AO ok kp (by rw[<- hq.1];exact hq.2.1)
   ·exact ih x hx
 exact all r x hx
def F9 (ok:HOk P w H h0)(hu:A.in1.units<cLine)(hh:A.in1.handled=Φ)(hl:h0.IsList l items)(hit:h0.objs.size<=it)(hD:h0.objs.size<=D)(hne:D≠it) :
  ∀ (rest:List (List pW×V))(ys:List V)(us:List nE) (i:Nat)(s:nh)(Z6:List (List pW×V))(xs:List (List pW×nP×nE)),items.toList.drop i=us->i<=items.size->Vals ys us->vE H ys rest->s.heap.IsListIter it l i->L2.Kept h0 s.heap h0.objs.size->KT H Z6 xs->uG P w s.heap D xs->Z6.length+rest.length<=sizeLine ->
  (∀ h' tk xs',KT H (rest.foldl (λk p=>qm k p.1 p.2) Z6) xs'->uG P w h' D xs'->L2.Kept h0 h' h0.objs.size->R (.ok (.ret .none)) { s with heap:=h',toks:=tk }) ->
  codeAny (model P w) A (.builtin "dict.update.loop" ⟨[.ref D,.ref it,.int (i:Int) 0,.none],[]⟩) R s:=by
 let ll:l<h0.objs.size:=by let(_,e,_):=hl;exact lg e
 let W:=lW (prog:=P) (w:=w) (A:=A.in1) hh it l (kU (dH ll hit)) items
 let lst:∀ {h:nM},L2.Kept h0 h h0.objs.size->h.IsList l items:=λ{h} kp=>hl.at λo e=>kp l o ll e
 intro rest
 induction rest with
 | nil =>
  intro ys us i s Z6 xs hd hi hv hp hst kp hk hr hz hR
  cases hp
  cases hv
  let en:i=items.size:=by
   have:=congrArg lK hd
   simp at this
   lia
  exact ic F.entry_dict_update_loop ?_;rw[aC F.plain_dict_update_loop _]
  show wpAny _ A.in1 (pyNext (.ref it) >>= _) _ _ s
  exact lR (W.done s _ _ (by rw[<- en];exact⟨hst,lst kp⟩) λg tk kk=>?_)
  show wpAny _ A.in1 (Builtin.Dict.addKeywords D [] >>= _) _ _ _
  exact lR (lP (lP ?_))
  let low:∀ {b:nP},b<h0.objs.size->b ∉ [it]:=λ{b} hb=>by simp;exact kU (dH hb hit)
  let(o,es,ep,h1,h2):=hr
  exact hR g tk xs hk ⟨o,es,ep,kk D o (by simp;exact hne) h1,h2⟩ λb o hb e=>kk b o (low hb) (kp b o hb e)
 | cons p rest ih =>
  intro ys us i s Z6 xs hd hi hv hp hst kp hk hr hz hR
  cases hp with
  | @cons y _ ys' _ hpq hp' =>
  let(b,kb,rfl,hb,hkb):=hpq
  cases hv with
  | @cons _ u _ us' ru hv' =>
  cases (show u=Value.ref b from ru)
  let hi':items[i]?=Ψ (.ref b):=by
   have:=congrArg (λl:List nE=>l[0]?) hd
   simpa using this
  let lt:i<items.size:=(aN.mp hi').1
  let hd':items.toList.drop (i+1)=us':=by
   have:=congrArg mB hd
   simpa using this
  let(_,Z7,rt,o,e1,e2,n,e3):=(show ObjOk P w H h0 b (.tup [.ref kb,p.2]) from ok b _ hb)
  cases rt with
  | @cons _ u1 _ t1 r1 rt =>
  cases (show u1=Value.ref kb from r1)
  cases rt with
  | @cons _ u2 _ t2 r2 rt =>
  cases rt
  let low:∀ {b:nP},b<h0.objs.size->b ∉ [it]:=λ{b} hb=>by simp;exact kU (dH hb hit)
  exact ic F.entry_dict_update_loop ?_;rw[aC F.plain_dict_update_loop _]
  show wpAny _ A.in1 (pyNext (.ref it) >>= _) _ _ s
  exact lR (W.item i s _ _ lt ⟨hst,lst kp⟩ λv g tk vP st1 kk=>?_)
  let vP:items[i]?=Ψ v:=vP
  rw[hi'] at vP
  cases vP
  let kp1:L2.Kept h0 g h0.objs.size:=λb o hb e=>kk b o (low hb) (kp b o hb e)
  let hr1:uG P w g D xs:=by
   let(o,es,ep,h1,h2):=hr
   exact⟨o,es,ep,kk D o (by simp;exact hne) h1,h2⟩
  let eb:g.get? b=Ψ o:=kp1 b o (lg e1) e1
  show wpAny _ A.in1 (holding [Value.ref b] _ >>= _) _ _ _
  exact lR (jI (lR (iZ ?_)))
  unfold Builtin.Dict.pairItems
  exact lR (kH (show jU _ (.ref b) "tuple" from ⟨o,eb,e2⟩) ?_)
  rw[if_pos (·)]
  exact lR (i6 eb e3 (lP ?_))
  show wpAny _ A.in1 (holding [Value.ref kb,u2] (dictSet D (.ref kb) u2)) _ _ _
  let hz1:xs.length<=sizeLine:=by
   have:=j7 hk
   simp![gC] at hz
   lia
  exact jI (du (knd:=tupleKind (oI P w)) (hsz:=hz1) hu (AO ok kp1 hkb) (CT ok kp1 hk hr1) λh' dd' hs=>?_)
  let(q,es,ep,hq,h2',h3',h4',h5',h6'):=dd'
  let kp2:L2.Kept h0 h' h0.objs.size:=λb o hb e=>(hs.2 b (λz=>absurd hb (by rw[z];exact mf.mpr hD))).trans (kp1 b o hb e)
  let hit':h'.IsListIter it l (i+1):=by
   let(o,x1,x2):=st1.1
   exact⟨o,(hs.2 it (mZ hne)).trans x1,x2⟩
  let en:(i:Int)+1=((i+1:Nat):Int):=⋯
  show wpAny _ A.in1 (again (.builtin "dict.update.loop" ⟨[.ref D,.ref it,rawInt ((i:Int)+1),.none],[]⟩)) _ _ _
  rw[en]
  exact lP ⟨jN F.plain_dict_update_loop _,ih ys' us' (i+1) _ (qm Z6 p.1 p.2) _ hd' lt hv' hp' hit' kp2 (hk.put p.1 hkb r2) ⟨q,es,ep,hq,h2',h3',h4',h6'⟩ ?_ λh'' tk' xs' x1 x2 x3=>hR h'' tk' xs' x1 x2 x3⟩
  have:=qw Z6 p.1 p.2
  simp![gC] at hz
  lia
end
section
variable {X:Cx}{Z9:List (nP×Obj)}{σ:L2.St}{H:Hp}{s:nh}{A:nB}{E:nE->nh->Prop}
def ul {l:nP}{ys:List V}{ps:List (List pW×V)}{Q:nE->nh->Prop}(hu:A.in1.in1.units<cLine)(hh:A.in1.in1.handled=Φ)(I:Inv X Z9 σ H s)(hl:SqL X.K H l ys)(hp:vE H ys ps)
  (h:∀ p s',H p=Φ->Inv X Z9 σ (oT H p (.dT (ps.foldl (λk q=>qm k q.1 q.2) []))) s'->Q (.ref p) s'):wpAny (model X.prog X.w) A (call (.type "dict") [.ref l]) Q E s:=by
 let(Z7,rv,pl,hz):=I.list hl
 let hll:=pl.isList
 let lp:ys.length=ps.length:=j7 hp
 let ll:l<s.heap.objs.size:=by let(_,e,_):=hll;exact lg e
 exact callType_codes (Q₁:=λobj s₁=>obj=.ref s.heap.objs.size/\s₁ = { s with heap:=s.heap.push { cls:=.type "dict",data:=.dict #[] } }) PySem.F.kt_called_dict (PySem.F.kt_typeCall_dict_1 _) PySem.F.entry_dict_init (kt_code_dict_new _ ⟨rfl,rfl⟩) ?_
 rintro obj s₁ ⟨rfl,rfl⟩
 let nD:(s.heap.push { cls:=.type "dict",data:=.dict #[] }).get? s.heap.objs.size=Ψ { cls:=.type "dict",data:=.dict #[] }:=dc _ rfl
 let hT:jU { s with heap:=s.heap.push { cls:=.type "dict",data:=.dict #[] } } (.ref s.heap.objs.size) "dict":=⟨_,nD,rfl⟩
 exact⟨hT,PySem.F.args_dict_init_2 _ _,?_⟩
 unfold m7.«dict.__init__»
 exact lR ?_
 unfold Builtin.Dict.selfAndRest
 exact lR (bV hT ?_)
 show wpAny _ _ (pure (s.heap.objs.size,[Value.ref l])) _ _ _
 exact lP ?_
 show wpAny _ _ (bE "dict.__init__" s.heap.objs.size (.ref l) [] .none) _ _ _
 unfold bE
 let hl1:(s.heap.push { cls:=.type "dict",data:=.dict #[] }).IsList l Z7.toArray:=hll.push _
 exact lR (kH hl1.typeIs ?_)
 rw[if_pos (·)]
 let(o,n,f1,f2,f3,f4):=pl
 exact lR (sV (bS _ f1) f2 f4 f3 u8 (by nofun) hh (λh' tk e hx=>?_) (by nofun))
 rw[if_pos (show (Φ:Option nE).isNone=Ω from rfl)]
 exact lR (lO (lR (eJ (hl1.at λo e=>hx.keeps _ _ e) (lP ⟨jN F.plain_dict_update_loop _,?_⟩))))
 let kp:∀ b o,s.heap.get? b=Ψ o->(h'.push { cls:=.type "list_iterator",data:=.fields #[.ref l,.int 0 0] }).get? b=Ψ o:=λb o e=>bS _ (hx.keeps _ _ (bS _ e))
 let d1:=hx.keeps _ _ nD
 let lD:s.heap.objs.size<h'.objs.size:=lg d1
 refine F9 (P:=X.prog) (w:=X.w) (A:=A.in1) (h0:=s.heap) (H:=H) I.hok hu hh hll (kY lD) (lJ _) (kU lD) ps ys Z7 0 _ [] [] ∅ (lH _) rv hp ⟨_,dc _ rfl,rfl,rfl⟩ (λb o _ e=>kp b o e) .nil
  ⟨_,#[],0,bS _ d1,⟨rfl,rfl,rfl⟩,rfl,rfl,ju⟩ (by simp;lia) λh'' tk' xs' x1 x2 x3=>⟨rfl,h _ _ (I.hok.fresh (lJ _)) ?_⟩
 let(q,es,ep,hq,h2',h3',h4',h6'):=x2
 exact I.laid (a:=s.heap.objs.size) (t':=tk') (λb u e=>x3 b u (lg e) e) (lJ _) ⟨?_,beq_eq_false_iff_ne.mpr (mZ (kU I.big)),xs',x1.keeps λc ys ec=>?_,q,es,ep,hq,h2',h3',h4',h6'⟩
 ·have:∀ (ps Z6:List (List pW×V)),(ps.foldl (λk q=>qm k q.1 q.2) Z6).length<=Z6.length+ps.length:=by
   intro ps
   induction ps with
   | nil=>intro Z6;exact lJ _
   | cons p r ih =>
    intro Z6
    let a:=ih (qm Z6 p.1 p.2)
    let b:=qw Z6 p.1 p.2
    simp![iM,gC]
    lia
  have:=this ps []
  simp![iJ] at this
  lia
 ·have:c≠s.heap.objs.size:=λz=>by rw[z,I.hok.fresh (lJ _)] at ec;cases ec
  rw[nZ this];exact ec
end
abbrev wY:FV->Option (List Int×FV)
 | .tup [.tup ks,v]=>(oM ks).map λk=>(k,v)
 | _=>Φ
abbrev sO:List FV->Option (List (List Int×FV))
 | []=>Ψ []
 | x :: r=>(wY x).bind λp=>(sO r).map λq=>p :: q
abbrev putAll {α:Type}:List (List Int×α)->List (List Int)->List α->List (List Int)×List α
 | [],ks,vs=>(ks,vs)
 | p :: r,ks,vs=>putAll r (oB ks vs p.1 p.2).1 (oB ks vs p.1 p.2).2
abbrev D3 (v:FV):Option FV:=(pX v).bind λxs=>(sO xs).bind λps=>Ψ (.dct (putAll ps [] []).1 (putAll ps [] []).2)
section
variable {K:kP}{S:Hp}
def yg (x:FV)(r:List FV):sO (x :: r)=(wY x).bind λp=>(sO r).map λq=>p :: q:=Fk rfl
def ya {α:Type}(p:List Int×α)(r:List (List Int×α))(ks:List (List Int))(vs:List α):putAll (p :: r) ks vs=putAll r (oB ks vs p.1 p.2).1 (oB ks vs p.1 p.2).2:=Fk rfl
def BH {x:FV}{p:List Int×FV}(e:wY x=Ψ p):∃ ks,x=.tup [.tup ks,p.2]/\oM ks=Ψ p.1:=by
 unfold wY at e
 split at e
 ·let(k,e1,rfl):=rW e
  exact⟨_,rfl,e1⟩
 ·cases e
def vX:∀ {xs:List FV}{ys:List V}{ps:List (List Int×FV)},RVs K S xs ys->sO xs=Ψ ps->∃ qs:List (List Int×V),vE S ys (qs.map λq=>(q.1.map Sum.inl,q.2))/\qs.map (·.1)=ps.map (·.1)/\RVs K S (ps.map (·.2)) (qs.map (·.2))
 | [],ys,ps,r,e=>by
  cases (show ys=[] from r)
  cases e
  exact⟨[],.nil,rfl,rfl⟩
 | x :: xs,ys,ps,q1,e=>by
  let(v,r,e0,h1,h2):=q1
  subst e0
  let(p,e1,e2):=p7 e
  let(q,e3,rfl):=rW e2
  let(ks,rfl,e4):=BH e1
  let(qs,g1,g2,g3):=vX h2 e3
  let(b,zs,rfl,hb,hz):=h1
  let(u1,u2,rfl,r1,r2):=hz.two_of
  let(kb,rfl,hk):=tZ r1 e4
  exact⟨(p.1,u2) :: qs,.cons ⟨b,kb,rfl,hb,hk⟩ g1,by simp[g2],⟨u2,_,rfl,r2,g3⟩⟩
def uU {α:Type}:∀ (ps:List (List Int×α))(ks:List (List Int))(vs:List α),ks.length=vs.length->(putAll ps ks vs).1.length=(putAll ps ks vs).2.length
 | [],ks,vs,h=>h
 | p :: r,ks,vs,h=>uU r _ _ (qG ks vs p.1 p.2 h).1
def uR:∀ (qs:List (List Int×V))(ks:List (List Int))(us:List V),ks.length=us.length->(qs.map λq=>((q.1.map Sum.inl:List pW),q.2)).foldl (λk q=>qm k q.1 q.2) ((pk ks).zip us)=(pk (putAll qs ks us).1).zip (putAll qs ks us).2
 | [],ks,us,h=>rfl
 | q :: r,ks,us,h=>by
  rw[kn,iM,wT ks us q.1 q.2 h]
  exact uR r _ _ (qG ks us q.1 q.2 h).1
def uS:∀ {ps:List (List Int×FV)}{qs:List (List Int×V)}{ks:List (List Int)}{vs:List FV}{us:List V},qs.map (·.1)=ps.map (·.1)->RVs K S (ps.map (·.2)) (qs.map (·.2))->RVs K S vs us->(putAll ps ks vs).1=(putAll qs ks us).1/\RVs K S (putAll ps ks vs).2 (putAll qs ks us).2
 | [],[],ks,vs,us,_,_,r=>⟨rfl,r⟩
 | [],q :: qs,ks,vs,us,e,_,_=>by cases e
 | p :: ps,[],ks,vs,us,e,_,_=>by cases e
 | p :: ps,q :: qs,ks,vs,us,e,q1,r=>by
  let(v,r',e0,h1,h2):=q1
  simp![kn,iP] at e e0
  let(e1,e2):=e
  let(e3,e4):=e0
  subst e3
  rw[<- e4] at h2
  let(g1,g2):=qY (ks:=ks) (k:=p.1) r h1
  have:=uS (ks:=(oB ks vs p.1 p.2).1) e2 h2 g2
  show (putAll ps (oB ks vs p.1 p.2).1 (oB ks vs p.1 p.2).2).1=(putAll qs (oB ks us q.1 q.2).1 (oB ks us q.1 q.2).2).1/\RVs K S (putAll ps (oB ks vs p.1 p.2).1 (oB ks vs p.1 p.2).2).2 (putAll qs (oB ks us q.1 q.2).1 (oB ks us q.1 q.2).2).2
  rw[e1,<- g1]
  exact this
end
section
variable {X:Cx}
inductive rDict (X:Cx)(xs:List V)(H:Hp)(Q:VK):Prop
 | mk (a:nP)(ys:List V)(ps:List (List pW×V))(_:xs=[.ref a])(_:SqL X.K H a ys)(_:vE H ys ps)(_:∀ p,H p=Φ->Q (.ref p) (oT H p (.dT (ps.foldl (λk q=>qm k q.1 q.2) [])))):rDict X xs H Q
def JG (hc:X.calm=Ω)(hu:X.A.units+64<cLine):oR X (.type "dict") (rDict X):=by
 rintro Z9 s σ H xs us Q I r ⟨a,ys,ps,rfl,hl,hp,k⟩
 let(u,rfl,ru):=vals1 r
 cases (show u=Value.ref a from ru)
 let h1:X.A.in1.handled=Φ:=I.ok.hd hc
 exact ul ?_ ?_ I hl hp λp s' hp' I'=>⟨.ref p,_,I',rfl,k p hp'⟩
 ·show X.A.units+1+1<cLine
  lia
 ·exact h1
end
section
variable {X:Cx}{C:CC}{n:Nat}{sp:kP->Nat->Sp}{a:Expr}{ea:EW}{pos p:Pos}
def N0 (G:Good X C n sp)(hg:C.gl (kL "dict")=Ω)(hs:oh a=Ξ)(ha:FR X C a ea):FE X C (.Call (.Name (kL "dict") p) [a] [] pos) (oH D3 ea) :=
 PE.imp (tY (JG G.calm G.room.units) (G.gl hg) (G.blt "dict" (·)) (by nofun) (oy ha pM (nX hs)) (by nofun) (by nofun) (nX hs) rfl) λσ H Q q1=>by let(c,L,S,Q0,I,h,k):=q1;exact
 ⟨c,L,S,_,I,h,λv L1 hv x S1 H1 r1 I1 s1=>by
  let(z,e,q):=oS hv
  let(xs,e1,e2):=p7 e
  let(ps,e3,e4):=p7 e2
  cases e4
  let(a,ys,rfl,hq,ry):=r1.list I1.sub e1
  let(qs,g1,g2,g3):=vX ry e3
  let hp:vE H1 ys (qs.map λq=>(q.1.map Sum.inl,q.2)):=Paired.mapP g1 λ_ _ q2=>by let(b,kb,f1,f2,f3):=q2;exact⟨b,kb,f1,I1.sub _ _ f2,I1.sub _ _ f3⟩
  exact⟨a,ys,_,rfl,hq,hp,λp hp0=>?_⟩
  let ev:=uR qs [] [] rfl
  let(h1,h2):=uS (ks:=[]) (vs:=[]) (us:=[]) g2 g3 (show RVs X.K S1 [] [] from rfl)
  rw[show (pk []).zip ([]:List V)=[] from rfl] at ev
  rw[ev]
  exact k _ L1 q _ _ _ ?_ (I1.new hp0 _) (s1.trans (oA (I1.sn hp0)))
  exact⟨p,_,rfl,uU ps [] [] rfl,by rw[h1];exact n5,h2.mono (oA (I1.sn hp0))⟩⟩
end
nonrec def QN (v:FV)(Q:FV->Prop):wp (D3 v) Q↔wp (pX v) λxs=>wp (sO xs) λps=>Q (.dct (putAll ps [] []).1 (putAll ps [] []).2):=by
 show wp ((pX v).bind _) Q↔_
 simp![p6];rfl
section
variable {X:Cx}{C:CC}{n:Nat}{sp:kP->Nat->Sp}{pos p p2 tp:Pos}{i kk:Nat}{nx:Str}{elts:List Expr}
def Me (G:Good X C n sp)(hg:C.gl (kL "enumerate")=Ω)(h:C.nm i nx=Ω)(m:nW C.md i=.own):FI X C (C.md.set i .frz) (.Tuple elts kk tp) (.Call (.Name (kL "enumerate") p) [.Name nx p2] [] pos) (rh (nQ i)) :=
 PI.imp (GD (G.gl hg) (G.blt "enumerate" (·)) (oy (o7 G h) pM (nX rfl)) (nX rfl)) λσ H R q1=>by
 let(c,L,S,Q0,I,h,k):=q1
 let(v,e,h):=oS h
 let(ps,e0,q):=oS h
 let e:=(oZ _ _ _).mp e
 let(l,e1,(o1,qs,vs,e2,o2,o3),o4):=I.own i v (λz=>by rw[m] at z;cases z) e
 let(e3,e4):=Aw e2 e0
 subst e3 e4
 let(I',un):=I.frz m e e1 o2
 exact⟨_,e1,Ω,l,rfl,⟨vs,SqL.of o2⟩,k _ L q _ _ S H I' un rfl (AS (t:=Ω) λL σ S' H I s=>⟨vs,SqL.of (I.prs (l,.lst vs) dO).1,o3.mono s⟩) (Same.refl S)⟩
end
abbrev tE (o:HO):Prop:=∀ xs,o≠.tup xs
def BI {v:FV}{xs:List V}:tE (vJ v xs):=λys z=>by
 have:=sv v xs
 rw[show vJ v xs=.tup ys from z] at this
 cases this
mutual
noncomputable def Co:FV->Bool
 | .lst _=>Ξ
 | .scr _=>Ξ
 | .tup xs=>noLs xs
 | .dct _ _=>Ξ
 | .dci _ _=>Ξ
 | .dcz _ _ _=>Ξ
 | .obj _ _ _ _=>Ξ|.dcn _ _ _=>Ξ
 | .non=>Ω|.bl _=>Ω|.int _=>Ω|.str _=>Ω|.shn _=>Ω
noncomputable def noLs:List FV->Bool
 | []=>Ω
 | x :: r=>Co x && noLs r
end
abbrev vM (i:Nat)(r:AW):AW:=λL Q=>wp (lk L i) λ_=>r L λxs L1=>wp (lk L1 i) λx=>Q (x :: xs) L1
abbrev rJ (call:CW) (f:Nat)(a:AW):EW:=λL Q=>a L λxs L1=>call f xs λz=>Co z.1=Ω/\Q z.1 L1
abbrev zU (call:CW) (f:Nat)(a:AW):EW:=λL Q=>a L λxs L1=>call f xs λz=>wp (rQ z.1) λps=>noLs ps=Ω/\Q z.1 L1
abbrev RHs (K:kP)(S H:Hp)(os:List nP):List FV->List V->Prop
 | [],vs=>vs=[]
 | p :: ps,vs=>∃ v r,vs=v :: r/\(RV K S p v ∨ ∃ a,v=.ref a/\a∈os/\OwnAt K S H a p)/\RHs K S H os ps r
inductive lah (K:kP)(md:Md)(e:AW)(σ:L2.St)(H:Hp)(Q:List V->Hp->Prop):Prop
 | mk (c:_)(L:_)(S:_)(Q0:_)(_:Iv K c md L σ S H)(_:e L Q0)(_:∀ v L',Q0 v L'->∀ x S' H' os,RHs K S' H' os v x->(∀ a∈os,S' a=Φ/\∃ o,H' a=Ψ o/\tE o)->Iv K c md L' σ S' H'->Same S S'->Q x H'):lah K md e σ H Q
abbrev Kj (X:Cx)(C:CC)(x:List Expr)(e:AW):Prop:=PA X.nox x (lah X.K C.md e)
section
variable {K:kP}{S H S' H':Hp}{os os':List nP}
def RHs.more:∀ {ps:List FV}{vs:List V},RHs K S H os ps vs->(∀ a∈os,a∈os')->RHs K S H os' ps vs
 | [],vs,h,_=>h
 | p :: ps,vs,q1,k=>by let(v,r,e,h1,h2):=q1;exact⟨v,r,e,h1.imp_right λq2=>by let(a,e,m,o):=q2;exact⟨a,e,k a m,o⟩,RHs.more h2 k⟩
abbrev qT (S H:Hp)(os:List nP):Hp:=λa=>if a∈os then H a else S a
def sM (h:∀ a∈os,S a=Φ/\∃ o,H a=Ψ o/\tE o):Same S (qT S H os):=λa o e=>by
 unfold qT
 by_cases m:a∈os
 ·rw[(h a m).1] at e;cases e
 ·rw[if_neg m];exact e
def vN (s:Same S H):Same (qT S H os) H:=λa o e=>by
 unfold qT at e
 by_cases m:a∈os
 ·rw[if_pos m] at e;exact e
 ·rw[if_neg m] at e;exact s a o e
def RHs.vals (h:∀ a∈os,S a=Φ/\∃ o,H a=Ψ o/\tE o):∀ {ps:List FV}{vs:List V},RHs K S H os ps vs->RVs K (qT S H os) ps vs
 | [],vs,e=>e
 | p :: ps,vs,q1=>by
  let(v,r,e,h1,h2):=q1
  exact⟨v,r,e,?_,RHs.vals h h2⟩
  rcases h1 with h1|⟨a,rfl,m,o1,qs,xs,e9,o2,o3⟩
  ·exact h1.mono (sM h)
  ·let o4:qT S H os a=Ψ (vJ p xs):=by unfold qT;rw[if_pos m];exact o2
   let o5:=o3.mono (sM h)
   cases p with
   | lst ps=>cases e9;exact⟨a,xs,rfl,o4,o5⟩
   | dct ks ws=>let(hl,rfl):=qM e9;exact⟨a,xs,rfl,hl,o4,o5⟩
   | dci ks ws=>let(hl,rfl):=qM e9;exact⟨a,xs,rfl,hl,o4,o5⟩
   | dcz o ks ws=>let(hl,rfl):=qM e9;exact⟨a,xs,rfl,hl,o4,o5⟩
   | obj C dx fs gs=>cases e9;exact⟨a,rfl,o4⟩
   | dcn z ks ws=>let(hl,rfl):=qM e9;exact⟨a,xs,rfl,hl,o4,o5⟩
   | _=>cases e9
abbrev sH (S:Hp)(os:List nP):Hp:=λa=>if a∈os then Φ else S a
mutual
theorem RV.less {K:kP}{S:Hp}{os:List nP}(h:∀ a∈os,∃ o,S a=Ψ o/\tE o):∀ {p:FV}{v:V},Co p=Ω->RV K S p v->RV K (sH S os) p v
 | .non,v,_,e=>e
 | .bl b,v,_,e=>e
 | .int i,v,_,e=>e
 | .str _,v,_,e=>e
 | .shn _,v,_,e=>e
 | .tup ps,v,n,q1=>by let(a,xs,e,h1,h2):=q1;exact⟨a,xs,e,by
   unfold sH
   rw[if_neg λm=>by let(zs,z,n):=h a m;rw[z] at h1;cases h1;exact n _ rfl];exact h1,RVs.less h (show noLs ps=Ω from n) h2⟩
 | .dct ks vs,v,n,_=>gQ (show Ξ=Ω from n)
 | .dci ks vs,v,n,_=>gQ (show Ξ=Ω from n)
 | .dcz _ ks vs,v,n,_=>gQ (show Ξ=Ω from n)
 | .obj _ _ _ _,v,n,_=>gQ (show Ξ=Ω from n)
 | .dcn _ _ _,v,n,_=>gQ (show Ξ=Ω from n)
 | .lst ps,v,n,_=>gQ (show Ξ=Ω from n)
 | .scr ps,v,n,_=>gQ (show Ξ=Ω from n)
theorem RVs.less {K:kP}{S:Hp}{os:List nP}(h:∀ a∈os,∃ o,S a=Ψ o/\tE o):∀ {ps:List FV}{vs:List V},noLs ps=Ω->RVs K S ps vs->RVs K (sH S os) ps vs
 | [],vs,_,e=>e
 | p :: ps,vs,n,q1=>by
  let(v,r,e,h1,h2):=q1
  let n:Co p=Ω/\noLs ps=Ω:=b2 n
  exact⟨v,r,e,RV.less h n.1 h1,RVs.less h n.2 h2⟩
end
variable {c:Cn}{md:Md}{L:nT}{σ:L2.St}
def AJ (I:Iv K c md L σ S H)(h:∀ a∈os,S a=Φ/\∃ o,H a=Ψ o/\tE o){w:FV}(k:Kept K (qT S H os) H S' H' Φ w):Iv K c md L σ (sH S' os) H'/\Same S (sH S' os):=by
 let s:Same S (sH S' os):=λa o e=>by
  unfold sH
  by_cases m:a∈os
  ·rw[(h a m).1] at e;cases e
  ·rw[if_neg m];exact k.same a o (sM h a o e)
 exact⟨I.go3 s (λa o e=>?_) (λa o e=>?_) λa o e=>k.keep a o e ∅,s⟩
 ·unfold sH at e
  by_cases m:a∈os
  ·rw[if_pos m] at e;cases e
  ·rw[if_neg m] at e;exact k.sub a o e
 ·unfold sH at e
  by_cases m:a∈os
  ·rw[if_pos m] at e;cases e
  ·rw[if_neg m] at e
   rcases k.grow a o e with e2|e2
   ·unfold qT at e2
    rw[if_neg m] at e2
    exact .inl e2
   ·exact .inr e2
def AK (h:∀ a∈os,S a=Φ/\∃ o,H a=Ψ o/\tE o){w:FV}(k:Kept K (qT S H os) H S' H' Φ w):∀ a∈os,∃ o,S' a=Ψ o/\tE o:=λa m=>by
 let(o,e,n):=(h a m).2
 exact⟨o,k.same a _ (by unfold qT;rw[if_pos m];exact e),n⟩
end
section
variable {X:Cx}{C:CC}{n:Nat}{sp:kP->Nat->Sp}{a:Expr}{ea:EW}{pos p:Pos}{call:CW}{f i:Nat}{nx:Str}{xs:List Expr}{as:AW}
def QG (h:FA X C xs as):Kj X C xs as:=PA.imp h λσ H Q q1=>by let(c,L,S,Q0,I,h,k):=q1;exact⟨c,L,S,Q0,I,h,λv L' q x S' H' r I' s=>by
 have:∀ {ps:List FV}{vs:List V},RVs X.K S' ps vs->RHs X.K S' H' [] ps vs:=by
  intro ps
  induction ps with
  | nil=>intro vs h;exact h
  | cons p ps ih=>intro vs ⟨v,r,e,h1,h2⟩;exact⟨v,r,e,.inl h1,ih h2⟩
 exact k v L' q x S' H' [] (this r) (λa h=>by simp at h) I' s⟩
def Mv (hs:oh a=Ξ)(ha:FE X C a ea)(hr:Kj X C xs as):Kj X C (a :: xs) (nR ea as):=PA.imp (oy ha hr (nX hs)) λσ H Q q1=>by let(c,L,S,Q0,I,h,k):=q1;exact
 ⟨c,L,S,_,I,h,λv L1 hv x S1 H1 r1 I1 s1=>⟨c,L1,S1,_,I1,hv,λvs L2 hvs us S2 H2 os r2 ho I2 s2=>k _ L2 hvs _ S2 H2 os ⟨x,us,rfl,.inl (r1.mono s2),r2⟩ ho I2 (s1.trans s2)⟩⟩
def N5 (G:Good X C n sp)(h:C.nm i nx=Ω)(m:nW C.md i≠.imm)(hr:Kj X C xs as):Kj X C (.Name nx p :: xs) (vM i as):=PA.imp (oy (o7 G h) hr (nX rfl)) λσ H Q q1=>by
 let(c,L,S,Q0,I,h,k):=q1
 let(v,e,h):=oS h
 let e:=(oZ _ _ _).mp e
 let(l,e1,_,_):=I.own i v m e
 exact⟨_,e1,c,L,S,_,I,h,λvs L2 hvs us S2 H2 os r2 ho I2 s2=>?_⟩
 let(v2,e2,q):=oS hvs
 let e2:=(oZ _ _ _).mp e2
 let(l2,f1,o,_):=I2.own i v2 m e2
 rw[e1] at f1;cases f1
 exact k _ L2 q _ S2 H2 (l :: os) ⟨.ref l,us,rfl,.inr ⟨l,rfl,dO,o⟩,r2.more λa h=>cJ _ h⟩ (λa ha=>?_) I2 s2
 rcases kj.mp ha with rfl|ha
 ·let(o1,qs,zs,_,o2,_):=o
  exact⟨o1,_,o2,BI⟩
 ·exact ho a ha
def Mt (G:Good X C n sp)(e:sp X.K f=Eu X.K call Ξ Ξ f)(hf:C.fns[f]?=Ψ nx)(hg:C.gl nx=Ω)(hd:(nx == ("__debug__":Str))=Ξ)(hs:pU (a :: xs)=Ω)(ha:Kj X C (a :: xs) as):FE X C (.Call (.Name nx p) (a :: xs) [] pos) (rJ call f as) :=
 PE.imp (tV G hf hg hd hs ha) λσ H Q q1=>by let(c,L,S,Q0,I,h,k):=q1;exact⟨c,L,S,_,I,h,λvs L1 hv us S1 H1 os r1 ho I1 s1=>by
  rw[e]
  exact⟨qT S1 H1 os,vs,_,vN I1.sub,r1.vals ho,hv,λz q x S' H' kp r=>?_⟩
  let(I2,s2):=AJ I1 ho kp
  exact k _ L1 q.2 x _ H' (RV.less (AK ho kp) q.1 r) I2 (s1.trans s2)⟩
def Mj (G:Good X C n sp)(e:sp X.K f=Eu X.K call Ξ Ω f)(hf:C.fns[f]?=Ψ nx)(hg:C.gl nx=Ω)(hd:(nx == ("__debug__":Str))=Ξ)(hs:pU (a :: xs)=Ω)(ha:Kj X C (a :: xs) as):FF X C (.Call (.Name nx p) (a :: xs) [] pos) (zU call f as) :=
 PE.imp (tV G hf hg hd hs ha) λσ H Q q1=>by let(c,L,S,Q0,I,h,k):=q1;exact⟨c,L,S,_,I,h,λvs L1 hv us S1 H1 os r1 ho I1 s1=>by
  rw[e]
  exact⟨qT S1 H1 os,vs,_,vN I1.sub,r1.vals ho,hv,λz q x S' H' kp r=>?_⟩
  let(z1,z2):=z
  let(a,rfl,(o1,ps,zs,ez,o2,o3),hn):=r
  let(ps',e1,e2,q):=oS q
  cases qe e1
  cases ez
  let(I2,s2):=AJ I1 ho kp
  let ha':a ∉ os:=λm=>by let(_,zs,e,_):=ho a m;rw[hn] at e;cases e
  exact k _ L1 q a _ H' ⟨by unfold sH;rw[if_neg ha'];exact o1,_,zs,rfl,o2,RVs.less (AK ho kp) e2 o3⟩ (I1.fresh hn) I2 (s1.trans s2)⟩
end
nonrec def Ou (i:Nat)(r:AW)(L:nT)(Q:List FV->nT->Prop):vM i r L Q=(wp (lk L i) λ_=>r L λxs L1=>wp (lk L1 i) λx=>Q (x :: xs) L1):=propext m6
nonrec def KC (call:CW) (f:Nat)(a:AW)(L:nT)(Q:FV->nT->Prop):rJ call f a L Q=(a L λxs L1=>call f xs λz=>Co z.1=Ω/\Q z.1 L1):=propext m6
nonrec def KB (call:CW) (f:Nat)(a:AW)(L:nT)(Q:FV->nT->Prop):zU call f a L Q=(a L λxs L1=>call f xs λz=>wp (rQ z.1) λps=>noLs ps=Ω/\Q z.1 L1):=propext m6
@[scoped simp] theorem Nr (b:Int):Co (.int b)=Ω:=Fk rfl
@[scoped simp] theorem Ax (xs:List FV):Co (.tup xs)=noLs xs:=Fk rfl
@[scoped simp] theorem LN:noLs []=Ω:=Fk rfl
@[scoped simp] theorem Kn (x:FV)(r:List FV):noLs (x :: r)=(Co x && noLs r):=Fk rfl
def tF {α:Type}(f:α->FV)(h:∀ x,Co (f x)=Ω):∀ xs:List α,noLs (xs.map f)=Ω
 | []=>by simp
 | x :: r=>by simp[h x,tF f h r]
end Kq
namespace Kq
open PySem PySem.Spec PyProof.Rows L2 PySem.W
abbrev Ep (h:nM)(v:nE):Prop:=∃ (a:nP)(o:Obj)(us:List nE) (n:Nat) (k:Int)(ks:List Int),v=.ref a/\h.get? a=Ψ o/\o.cls=.type "tuple"/\o.data=.seq us.toArray n/\Vals ((k :: ks).map V.int) us
section
variable {vs:List nE}
def yw {h:nM}:∀ {vs:List nE},(∀ v∈vs,Ep h v)->∃ fs:List nE,KatTups h vs fs/\fs.length=vs.length/\∀ f∈fs,∃ k t,f=.int k t
 | [],_=>⟨[],trivial,rfl,∅⟩
 | v :: vs,hv=>by
  let(a,o,us,n,k,ks,rfl,h1,h2,h3,h4):=hv v ∅
  let(fs,g1,g2,g3):=yw λx hx=>hv x (cJ _ hx)
  cases h4 with
  | @cons _ u _ us' r1 h4 =>
  let(t1,rfl):=r1
  exact⟨.int k t1 :: fs,KatTups.cons h1 h2 h3 ∅ g1,by simp[g2],λf hf=>by
   rcases kj.mp hf with rfl|hf
   ·exact⟨_,_,rfl⟩
   ·exact g3 f hf⟩
end
end Kq
namespace Kq
open PySem PySem.Spec PyProof.Rows L2
abbrev sN:List FV->Bool
 | []=>Ω
 | .tup ps :: r=>(match oM ps with|some (_ :: _)=>Ω|_=>Ξ) && sN r
 | _=>Ξ
def Vals.perm {us us':List nE}(p:us'.Perm us):∀ {ys:List V},Vals ys us->∃ zs,zs.Perm ys/\Vals zs us':=by
 induction p with
 | nil=>intro ys h;exact⟨ys,.refl _,h⟩
 | cons x p ih =>
  intro ys h
  cases h with
  | @cons y _ ys' _ r h =>
  let(zs,e,g):=ih h
  exact⟨y :: zs,e.cons y,.cons r g⟩
 | swap x y l =>
  intro ys h
  cases h with
  | @cons a _ ys' _ r h =>
  cases h with
  | @cons b _ ys'' _ r' h =>
  exact⟨b :: a :: ys'',.swap a b ys'',.cons r' (.cons r h)⟩
 | trans p q ih1 ih2 =>
  intro ys h
  let(zs,e,g):=ih2 h
  let(ws,e',g'):=ih1 g
  exact⟨ws,e'.trans e,g'⟩
section
variable {K:kP}{S:Hp}
def RVs.perm {vs vs':List V}(p:vs'.Perm vs):∀ {ps:List FV},RVs K S ps vs->∃ qs,qs.Perm ps/\RVs K S qs vs':=by
 induction p with
 | nil=>intro ps h;exact⟨ps,.refl _,h⟩
 | cons x p ih =>
  intro ps h
  cases ps with
  | nil=>cases h
  | cons q ps =>
   let(v,r,e,h1,h2):=h
   cases e
   let(zs,e,g):=ih h2
   exact⟨q :: zs,e.cons q,_,_,rfl,h1,g⟩
 | swap x y l =>
  intro ps h
  cases ps with
  | nil=>cases h
  | cons a ps =>
   let(v,r,e,h1,h2):=h
   cases e
   cases ps with
   | nil=>cases h2
   | cons b ps =>
    let(v2,r2,e2,h3,h4):=h2
    cases e2
    exact⟨b :: a :: ps,.swap a b ps,_,_,rfl,h3,_,_,rfl,h1,h4⟩
 | trans p q ih1 ih2 =>
  intro ps h
  let(zs,e,g):=ih2 h
  let(ws,e',g'):=ih1 g
  exact⟨ws,e'.trans e,g'⟩
end
def CV (ks:List Int)(us:List V) (k:Int)(u:V)(hl:ks.length=us.length):qm ((ql ks).zip us) (Sum.inl k) u=(ql (oB ks us k u).1).zip (oB ks us k u).2:=by
 let hany:(((ql ks).zip us).any λkv=>Δ (kv.1=Sum.inl k))=Ω↔k∈ks:=by
  rw[rR,tL,p5 k hl]
 unfold qm oB
 by_cases e:k∈ks
 ·rw[if_pos (hany.mpr e),if_pos e]
  clear e hany
  induction ks generalizing us with
  | nil=>cases us<;>rfl
  | cons k' ks ih=>cases us with
   | nil=>rfl
   | cons u' us =>
    have:=ih us (by simpa using hl)
    show (if (Sum.inl k':Int ⊕ Option Str)=Sum.inl k then (Sum.inl k',u) else (Sum.inl k',u')) :: ((ql ks).zip us).map _=(Sum.inl k',if k'=k then u else u') :: (ql ks).zip _
    rw[this]
    congr 1
    by_cases e:k'=k
    ·subst e;simp
    ·rw[if_neg λz=>e (lF z),if_neg e]
 ·rw[if_neg λz=>e (hany.mp z),if_neg e]
  show _=(ql (ks++[k])).zip (us++[u])
  have:ql (ks++[k])=ql ks++[Sum.inl k]:=by simp[ql]
  rw[this,iw (by simpa[ql] using hl)];rfl
def B3 {κ α β:Type} [DecidableEq κ] {ks:List κ}{vs:List α}{us:List β}{k:κ}(h1:ks.length=vs.length)(h2:ks.length=us.length)(h:pv ks vs k=Φ):pv ks us k=Φ:=by
 let a:=p5 (α:=α) k h1
 let b:=p5 (α:=β) k h2
 cases e:pv ks us k with
 | none=>rfl
 | some u =>
  rw[e] at b
  have:=a.mpr (b.mp rfl)
  rw[h] at this;cases this
abbrev MC (v w:FV):Option (Option FV):=match v with
 | .dct ks vs=>(qP w).bind λps=>(oM ps).bind λk=>Ψ (pv ks vs k)
 | .dci ks vs=>(qx w).bind λk=>Ψ (pv ks vs k)
 | .dcz _ ks vs=>(qP w).bind λps=>(oM ps).bind λk=>Ψ (pv ks vs k)
 | _=>Φ
abbrev QW (v w:FV):Option FV:=(MC v w).bind id
abbrev A7 (v j x:FV):Option FV:=match v with
 | .dct ks vs=>(qP j).bind λps=>(oM ps).bind λk=>if ks.length<big then Ψ (.dct (oB ks vs k x).1 (oB ks vs k x).2) else Φ
 | .dci ks vs=>(qx j).bind λk=>if ks.length<big then Ψ (.dci (oB ks vs k x).1 (oB ks vs k x).2) else Φ
 | _=>Φ
abbrev RO (K:kP)(S:Hp):Option FV->Option V->Prop
 | none,o=>o=Φ
 | some p,o=>∃ u,o=Ψ u/\RV K S p u
section
variable {K:kP}{S H:Hp}
def zr {κ:Type} [DecidableEq κ] {ks:List κ}{vs:List FV}{us:List V}{k:κ}(h1:ks.length=vs.length)(r:RVs K S vs us):RO K S (pv ks vs k) (pv ks us k):=by
 cases e:pv ks vs k with
 | none=>exact B3 h1 (by rw[h1,r.length]) e
 | some p=>exact tN r e
def RH.dcz {o:Obj}{ks:List (List Int)}{vs:List FV}{x:V}(hs:Same S H)(r:RH K S H (.dcz o ks vs) x):∃ a us,x=.ref a/\ks.length=vs.length/\H a=Ψ (.frz o (.dT ((pk ks).zip us)))/\RVs K S vs us:=by
 rcases r with⟨a,xs,e,h0,h1,h2⟩|⟨a,e,_,qs,xs,e2,h1,h2⟩
 ·exact⟨a,xs,e,h0,hs _ _ h1,h2⟩
 ·let(hl,rfl):=qM e2
  exact⟨a,xs,e,hl,h1,h2⟩
def Ga {v w:FV}{x y:V}{o:Option FV}(hs:Same S H)(rv:RH K S H v x)(rw':RH K S H w y)(e:MC v w=Ψ o):∃ a o',x=.ref a/\L2.DGet H a y o'/\RO K S o o':=by
 cases v with
 | dct ks vs =>
  let(ps,e1,e2):=p7 e
  let(k,e3,e4):=p7 e2
  cases pN e1
  cases e4
  let(a,us,rfl,hl,h1,h2):=rv.dct hs
  let(b,rfl,hb):=tZ (rw'.val rfl) e3
  exact⟨a,pv ks us k,rfl,?_,zr hl h2⟩
  rw[<- tM]
  exact .t h1 (hs _ _ hb)
 | dci ks vs =>
  let(k,e3,e4):=p7 e
  cases oU e3
  cases e4
  cases rw'.int
  let(a,us,rfl,hl,h1,h2):=rv.dci hs
  exact⟨a,pv ks us k,rfl,?_,zr hl h2⟩
  rw[<- tL]
  exact .k (k:=Sum.inl k) h1
 | dcz o ks vs =>
  let(ps,e1,e2):=p7 e
  let(k,e3,e4):=p7 e2
  cases pN e1
  cases e4
  let(a,us,rfl,hl,h1,h2):=rv.dcz hs
  let(b,rfl,hb):=tZ (rw'.val rfl) e3
  exact⟨a,pv ks us k,rfl,?_,zr hl h2⟩
  rw[<- tM]
  exact .inr ⟨_,_,b,.inr ⟨o,h1⟩,rfl,hs _ _ hb,rfl⟩
 | _=>cases e
end
abbrev CS (k:Nat)(i e:EW):SW:=λL Q=>wp (lk L k) λ_=>e L λx L1=>i L1 λj L2=>wp (lk L2 k) λy=>wp (A7 y j x) λz=>Q .next (L2.set k (Ψ z))
section
variable {K:kP}{c:Cn}{md:Md}{L:nT}{σ:L2.St}{S H:Hp}
def Iv.writeV (I:Iv K c md L σ S H){i:Nat}{v w:FV}{a:nP}{ps:List FV}{xs:List V}(m:nW md i=.own)(e:L[i]?=Ψ (Ψ v))(e1:σ[i]?=Ψ (Ψ (.ref a)))(hw:Fe w=Ψ ps)(r:RVs K S ps xs) :
  Iv K c md (L.set i (Ψ w)) σ S (oT H a (vJ w xs)):=by
 let(a',e1',(h1,_),_):=I.own i v (λz=>by rw[m] at z;cases z) e
 rw[e1] at e1';cases e1'
 exact I.back m e e1 (Same.refl S) (λb o z=>by rw[nZ λy=>by subst y;rw[h1] at z;cases z];exact I.sub b o z) (λb o z=>.inl z) (λb o z n=>by rw[nZ n];exact z) ⟨h1,ps,xs,hw,n5,r⟩
def D0 {i:Nat}{v j x z:FV}{a:nP}{y u:V}(I:Iv K c md L σ S H)(m:nW md i=.own)(e:L[i]?=Ψ (Ψ v))(e1:σ[i]?=Ψ (Ψ (.ref a)))(rj:RV K S j y)(rx:RV K S x u)(h:A7 v j x=Ψ z):∃ H',L2.DPut H a y u H'/\Iv K c md (L.set i (Ψ z)) σ S H':=by
 let(a',f1,(o1,ps,us,e9,o2,o3),_):=I.own i v (λz=>by rw[m] at z;cases z) e
 rw[e1] at f1;cases f1
 let hbl:=ph
 cases v with
 | dct ks vs =>
  let(qs,g1,h):=p7 h
  let(k,g2,h):=p7 h
  let(hb,rfl):=qM h
  let(hl,rfl):=qM e9
  cases pN g1
  let(b,rfl,hkb):=tZ rj g2
  let hu:ks.length=us.length:=by rw[hl,o3.length]
  let(p1,p2):=qY (ks:=ks) (k:=k) o3 rx
  exact⟨_,.t o2 (I.sub _ _ hkb) (by simp[pk];lia),?_⟩
  rw[wT ks us k u hu,<- p1]
  exact I.writeV (w:=.dct _ _) m e e1 (if_pos (qG ks _ k x hl).1) p2
 | dci ks vs =>
  let(k,g2,h):=p7 h
  let(hb,rfl):=qM h
  let(hl,rfl):=qM e9
  cases oU g2
  cases (show y=V.int k from rj)
  let hu:ks.length=us.length:=by rw[hl,o3.length]
  let(p1,p2):=qY (ks:=ks) (k:=k) o3 rx
  exact⟨_,.k (k:=Sum.inl k) o2 (by simp[ql];lia),?_⟩
  rw[CV ks us k u hu,<- p1]
  exact I.writeV (w:=.dci _ _) m e e1 (if_pos (qG ks _ k x hl).1) p2
 | _=>cases h
end
section
variable {X:Cx}{C:CC}{n:Nat}{sp:kP->Nat->Sp}{fr:Bool}{a b:Expr}{ea eb:EW}{pos p px:Pos}{i:Nat}{nx:Str}
def Mi:FF X C (.Dict [] [] pos) (eC (.dci [] [])):=PE.imp Dc λσ H Q q1=>by let(c,L,S,Q0,I,h,k):=q1;exact λp hp=>k _ L h p S _ ⟨I.sn hp,[],[],rfl,n5,rfl⟩ (I.fresh hp) (I.lay hp _) (Same.refl S)
def Qg (G:Good X C n sp)(hs:qg b=Ξ)(h:C.nm i nx=Ω)(hb:FR X C b eb):FE X C (.Subscript (.Name nx p) b pos) (qk QW i eb):=PE.imp (wX (X:=X.nox) (by have:=G.room.units;show X.A.units+1<cLine;lia) (o7 G h) hb (tx hs)) λσ H Q q1=>by
 let(c,L,S,Q0,I,h,k):=q1
 let(v0,e,h):=oS h
 let(x,e1,_):=I.rd e
 exact⟨x,e1,c,L,S,_,I,h,λw L2 hw y S2 H2 r2 I2 s2=>?_⟩
 let(v,e2,q):=oS hw
 let(x',e3,r1):=I2.rd e2
 rw[e1] at e3;cases e3
 let(z,e4,q):=oS q
 let(o,e5,e6):=p7 e4
 let(a,o',rfl,g,ro):=Ga I2.sub r1 r2 e5
 cases (show o=Ψ z from e6)
 let(u,rfl,r5):=ro
 exact⟨a,u,rfl,g,k z L2 q u S2 H2 r5 I2 s2⟩
def NI (G:Good X C n sp)(hn:C.nm i nx=Ω)(m:nW C.md i=.own)(hc:(!rX a && !qg b)=Ω)(ha:FE X C a ea)(hb:FE X C b eb):FS X C fr (.Assign [.Subscript (.Name nx px) b p] a pos) (CS i eb ea):=by
 let hc:=b2 hc
 exact PS.imp (As (X:=X.nox) (by have:=G.room.units;show X.A.units+1<cLine;lia) (o7 (pos:=px) G hn) hb ha (qX (nb hc.1))) λD σ H ⟨c,L,S,Q0,I,h,k⟩=>?_
 let mi:nW C.md i≠.imm:=λz=>by rw[m] at z;cases z
 let(v0,e,h):=oS h
 let(l,e1,_):=I.own i v0 mi ((oZ _ _ _).mp e)
 exact⟨c,L,S,_,I,h,λv L1 q x S1 H1 r1 I1 s1=>⟨_,e1,c,L1,S1,_,I1,q,λw L2 q y S2 H2 r2 I2 s2=>?_⟩⟩
 let(v1,e2,q2):=oS q
 let(z,e3,q3):=oS q2
 let e2:=(oZ _ _ _).mp e2
 let(H3,g,I3):=D0 I2 m e2 e1 r2 (r1.mono s2) e3
 exact⟨l,H3,rfl,g,k .next _ q3 σ S2 _ I3 (s1.trans s2)⟩
end
section
variable (Q:FV->Prop)(i:Nat)(L:nT)
nonrec def K8 (k:Nat)(i e:EW)(Q:FFl->nT->Prop):CS k i e L Q=(wp (lk L k) λ_=>e L λx L1=>i L1 λj L2=>wp (lk L2 k) λy=>wp (A7 y j x) λz=>Q .next (L2.set k (Ψ z))):=propext m6
nonrec def k_dgi (ks:List Int)(vs:List FV) (k:Int):wp (QW (.dci ks vs) (.int k)) Q=wp (pv ks vs k) Q:=propext m6
nonrec def Nu (ks:List Int)(vs:List FV) (k:Int)(x:FV):wp (A7 (.dci ks vs) (.int k) x) Q↔ks.length<big/\Q (.dci (oB ks vs k x).1 (oB ks vs k x).2):=qO _ _ _
end
section
variable {X:Cx}
def GN:∀ {ns:List Int}{us:List nE},Vals (ns.map V.int) us->m5 us ns
 | [],us,h=>by cases h;exact .nil
 | n :: ns,us,h=>by
  cases h with
  | cons r h=>let(t,rfl):=r;exact .cons n t (GN h)
def GH:∀ {us:List nE}{ns:List Int},m5 us ns->Vals (ns.map V.int) us
 | _,_,.nil=>.nil
 | _,_,.cons n t h=>.cons ⟨t,rfl⟩ (GH h)
def Gg:oR X (.builtin "sorted") (λxs H Q=>∃ (a:nP)(ns:List Int),xs=[.ref a]/\SqL X.K H a (ns.map V.int)/\ns.length<64/\∀ p (ms:List Int),H p=Φ->ms.Perm ns->ms.Pairwise (·<=·)->Q (.ref p) (oT H p (.lst (ms.map V.int)))):=by
 rintro Z9 s σ H xs us Q I r ⟨a,ns,rfl,hl,h64,k⟩
 let(u,rfl,ru):=vals1 r
 cases (show u=Value.ref a from ru)
 let(Z7,rv,pl,hz):=I.list hl
 let ll:ns.length=Z7.length:=by have:=rv.length;simpa using this
 exact sorted_ints pl.isList (GN rv) ⋯ λout ns' hI hp hs=>?_
 let(e,he):=sortedAll_at s.heap Z7 out
 exact⟨.ref (s.heap.objs.size+1),_,I.laid (a:=s.heap.objs.size+1) (o:=.lst (ns'.map V.int)) (t':=s.toks) (λb o q=>sortedAll_old q) (lI _) ⟨?_,out.toList,e,GH hI,he⟩,rfl,k _ ns' (I.hok.fresh (lI _)) hp hs⟩
 rw[iK,hp.length_eq,lA];lia
end
abbrev vq (a:EW):EW:=λL Q=>a L λv L1=>wp (pX v) λxs=>wp (oM xs) λns=>ns.length<64/\∀ ms:List Int,ms.Perm ns->ms.Pairwise (·<=·)->Q (.lst (ms.map .int)) L1
section
variable {X:Cx}{C:CC}{n:Nat}{sp:kP->Nat->Sp}{a:Expr}{ea:EW}{pos p:Pos}
def Mq (G:Good X C n sp)(hg:C.gl (kL "sorted")=Ω)(hs:oh a=Ξ)(ha:FR X C a ea):FE X C (.Call (.Name (kL "sorted") p) [a] [] pos) (vq ea) :=
 PE.imp (qZ Gg (G.gl hg) (G.blt "sorted" (·)) (by nofun) (oy ha pM (nX hs)) (by nofun) (by nofun) (nX hs) rfl) λσ H Q q1=>by let(c,L,S,Q0,I,h,k):=q1;exact
 ⟨c,L,S,_,I,h,λv L1 hv x S1 H1 r1 I1 s1=>by
  let(xs,e1,hv):=oS hv
  let(ns,e2,t2,q):=oS hv
  let(a,ys,rfl,hq,ry):=r1.list I1.sub e1
  cases qo ry e2
  exact⟨a,ns,rfl,hq,t2,λp ms hp hm hs=>?_⟩
  exact k _ L1 (q ms hm hs) _ _ _ ⟨p,_,rfl,n5,RVs.ns ms⟩ (I1.new hp _) (s1.trans (oA (I1.sn hp)))⟩
end
nonrec def Kt (a:EW)(L:nT)(Q:FV->nT->Prop):vq a L Q=(a L λv L1=>wp (pX v) λxs=>wp (oM xs) λns=>ns.length<64/\∀ ms:List Int,ms.Perm ns->ms.Pairwise (·<=·)->Q (.lst (ms.map .int)) L1):=propext m6
abbrev Jv (i:Nat):EW:=λL Q=>wp (lk L i) λv=>wp (rQ v) λxs=>wp (xs[xs.length-1]?) λy=>Q y (L.set i (Ψ (.lst xs.dropLast)))
section
variable {K:kP}{S:Hp}
def RVs.init {ps:List FV}{vs:List V}(h:RVs K S ps vs):RVs K S ps.dropLast vs.dropLast:=by
 rw[cu,cu,<- h.length];exact h.take _
end
section
variable {X:Cx}{C:CC}{n:Nat}{sp:kP->Nat->Sp}{p:Pos}{i:Nat}{nx:Str}
def PZ (G:Good X C n sp){ZZ Z0:Pos}(h:C.nm i nx=Ω)(m:nW C.md i=.own)(hl:JH ZZ Z0=Ω):FE X C (.Call (.Attribute (.Name nx p) (kL "pop") ZZ) [] [] Z0) (Jv i):=by
 exact PE.imp (HJ bw PySem.F.slot_list_pop PySem.F.type_list_pop Ie (o7 G h) rfl hl) λσ H Q q1=>?_;let(c,L,S,Q0,I,h,k):=q1
 let(v,e,h):=oS h
 let(ps,e3,h):=oS h
 let(y,e5,q):=oS h
 let e':=(oZ _ _ _).mp e
 let mi:nW C.md i≠.imm:=λz=>by rw[m] at z;cases z
 let(l,e1,(o1,qs,xs,e9,h1,h2),_):=I.own i v mi e'
 cases qe e3
 cases e9
 let(u,g1,g2):=h2.get e5
 exact⟨_,e1,.inl ⟨rfl,xs,SqL.of h1⟩,?_⟩
 exact⟨l,xs,u,rfl,rfl,h1,by rw[<- h2.length];exact g1,k _ _ q u S _ g2 (I.write m e' e1 h2.init) (Same.refl S)⟩
end
nonrec def Od (i:Nat)(L:nT)(Q:FV->nT->Prop):Jv i L Q=(wp (lk L i) λv=>wp (rQ v) λxs=>wp (xs[xs.length-1]?) λy=>Q y (L.set i (Ψ (.lst xs.dropLast)))):=propext m6
end Kq
namespace L2
open PySem PySem.Spec PyProof.Rows
abbrev KP (i j l:Nat)(ta:TA):TS:=λD σ H=>ta σ H λvs H1=>∃ v w z,vs=[v,w,z]/\D.nx (((σ.set i (Ψ v)).set j (Ψ w)).set l (Ψ z)) H1
def Cy {v w z:V}{us:List nE}(r:Vals [v,w,z] us):∃ u1 u2 u3,us=[u1,u2,u3]/\RelV v u1/\RelV w u2/\RelV z u3:=by
 cases r with
 | cons p q =>
  cases q with
  | cons p' q' =>
   cases q' with
   | cons p'' q'' =>
    cases q''
    exact⟨_,_,_,rfl,p,p',p''⟩
section
variable {X:Cx}{pos:Pos}
def EV {i j l:Nat}{x y z:Str}{a b d:Expr}{ta:TA}{px py pz pt:Pos} {kt k2 pt2}(hc:X.calm=Ω)(hN:X.N.Nodup)(hi:X.N[i]?=Ψ x)(hj:X.N[j]?=Ψ y)(hl:X.N[l]?=Ψ z)(hij:i≠j)(hil:i≠l)(hjl:j≠l)
  (hx:X.env.scope.names.lookup x=Ψ .local)(hy:X.env.scope.names.lookup y=Ψ .local)(hz:X.env.scope.names.lookup z=Ψ .local)(ha:PA X [a,b,d] ta)
  (hw:swappedStores [.Tuple [.Name x px,.Name y py,.Name z pz] kt pt] (.Tuple [a,b,d] k2 pt2) X.env=pure (Ψ [x,y,z]))
  (hs:swapsWithSole [.Tuple [.Name x px,.Name y py,.Name z pz] kt pt] (.Tuple [a,b,d] k2 pt2) pos.line X.env=pure Ξ:=by rfl) :
  PS X (.Assign [.Tuple [.Name x px,.Name y py,.Name z pz] kt pt] (.Tuple [a,b,d] k2 pt2) pos) (KP i j l ta):=by
 intro Z9 s σ H D I h
 rw[ib]
 exact lR (jF ?_)
 rw[hs]
 exact lR (lP ?_)
 rw[if_neg (·)]
 exact lR (Tuple_ (oX (ha _ Z9 s σ H _ I h) λus s1 ⟨vs,H1,I1,r1,q1⟩=>?_))
 let(v,w,t,e1,q1):=q1
 subst e1
 let(u1,u2,u3,rfl,r1,r2,r3):=Cy r1
 exact eM ?_ (by show 3<=sizeLine;decide)
 let I2:Inv X Z9 σ H1 { s1 with heap:=s1.heap.push { cls:=.type "tuple",data:=.seq [u1,u2,u3].toArray } }:=I1.kept (t':=s1.toks) λb o e=>bS _ e
 rw[hw]
 exact lR (lP ?_)
 show wpAny (model X.prog X.w) X.A (do rule "assign.swapped-stores";let items <- unpackItems (.ref s1.heap.objs.size) 3 Φ;assignInOrder [λv=>bindName X.env z v,λv=>bindName X.env y v,λv=>bindName X.env x v] items.reverse;pure Flow.next) _ _ _
 exact lR (lO (lR (eQ (items:=#[u1,u2,u3]) (I.ok.hd hc) (mD s1.heap _) λh' hx'=>?_)))
 let I3:=I2.kept (h':=h') (t':=s1.toks) λb o e=>hx' b o (kU (lg e)) e
 show wpAny _ _ (assignInOrder [λv=>bindName X.env z v,λv=>bindName X.env y v,λv=>bindName X.env x v] [u3,u2,u1] >>= λ_=>pure Flow.next) _ _ _
 exact lR (dz (i9 (qq I3 hN hl (.inl hz) r3 (λs2 I4=>?_) (.inr hz))))
 exact dz (i9 (qq I4 hN hj (.inl hy) r2 (λs3 I5=>?_) (.inr hy)))
 exact dz (i9 (qq I5 hN hi (.inl hx) r1 (λs4 I6=>eS (lP ?_)) (.inr hx)))
 rw[ki _ _ (mZ hij),ki _ _ (mZ hil),ki _ _ (mZ hjl)] at I6
 exact⟨_,H1,I6,q1⟩
end
end L2
namespace Kq
open PySem PySem.Spec PyProof.Rows L2
def sw3 {x y z:Str}{px py pz pt pt2:Pos}{kt k2:Nat}{a b d:Expr}{env:Env}(hk:env.scope.kind=.function)(hx:env.scope.names.lookup x=Ψ .local)(hy:env.scope.names.lookup y=Ψ .local)(hz:env.scope.names.lookup z=Ψ .local)(hxy:x≠y)(hxz:x≠z)(hyz:y≠z)(hl:(py.line == px.line)=Ω)(hl2:(pz.line == px.line)=Ω)
  (sa:qr a=Ξ)(sb:qr b=Ξ)(sd:qr d=Ξ)(hf:(foldedForSure 8 a && foldedForSure 8 b && foldedForSure 8 d)=Ξ)(hc:(constantsAlone 8 a && constantsAlone 8 b && constantsAlone 8 d)=Ξ) :
  swappedStores [.Tuple [.Name x px,.Name y py,.Name z pz] kt pt] (.Tuple [a,b,d] k2 pt2) env=pure (Ψ [x,y,z]):=by
 exact Gv (by unfold Km;rw[AN hk];rfl) ?_ ?_ ?_ ?_ ?_
 ·show (qr a || (qr b || (qr d || false)))=Ξ;rw[sa,sb,sd];rfl
 ·show jx (LV env px.line) [.Name x px,.Name y py,.Name z pz]=_
  rw[da,vc hx (beq_self_eq_true _),da,vc hy hl,da,vc hz hl2];rfl
 ·unfold Kl;simp[db,mZ hxy,mZ hxz,mZ hyz]
 ·show (_ && (_ && (_ && Ω)))=Ξ;rw[kD,<- jD];exact hf
 ·show (_ && (_ && (_ && Ω)))=Ξ;rw[kD,<- jD];exact hc
abbrev zB (C:CC) (i j l:Nat)(x y z:Str)(px py pz:Pos)(a b d:Expr):Bool:=Δ (C.N[i]?=Ψ x) && Δ (C.N[j]?=Ψ y) && Δ (C.N[l]?=Ψ z) && Δ (i≠j) && Δ (i≠l) && Δ (j≠l) && Δ (x≠y) && Δ (x≠z) && Δ (y≠z) && Δ (C.sc.lookup x=Ψ .local) && Δ (C.sc.lookup y=Ψ .local) && Δ (C.sc.lookup z=Ψ .local) && (py.line == px.line) && (pz.line == px.line) && !qr a && !qr b && !qr d && !(foldedForSure 8 a && foldedForSure 8 b && foldedForSure 8 d) && !(constantsAlone 8 a && constantsAlone 8 b && constantsAlone 8 d)
abbrev Ku (j:Nat):EW:=λL Q=>wp (lk L j) λv=>Q v (L.set j Φ)
nonrec def QU (j:Nat)(L:nT)(Q:FV->nT->Prop):Ku j L Q=wp (lk L j) λv=>Q v (L.set j Φ):=propext m6
section
variable {X:Cx}{C:CC}{n:Nat}{sp:kP->Nat->Sp}{a:Expr}{p:Pos}
variable {K:kP}{c:Cn}{md:Md}{L:nT}{σ:L2.St}{S H:Hp}{i j:Nat}{nx:Str}
def qd {L:nT}{j i:Nat}{v:FV}(z:(L.set j Φ)[i]?=Ψ (Ψ v)):i≠j/\L[i]?=Ψ (Ψ v):=by
 by_cases q:i=j
 ·subst q
  let hj:i<L.length:=by have:=(aR.mp z).1;rwa [iI] at this
  rw[bO hj] at z;cases z
 ·rw[cL (mZ q)] at z;exact⟨q,z⟩
def Iv.drop (I:Iv K c md L σ S H)(hm:nW md j=.own)(hj:j≠0):Iv K c md (L.set j Φ) σ S H where
 len:=by rw[iI];exact I.len
 imm:=λi v h e=>I.imm i v h (qd e).2
 own:=λi v h e=>I.own i v h (qd e).2
 dis:=λi k v w a h1 h2 e1 e2=>I.dis i k v w a h1 h2 (qd e1).2 (qd e2).2
 sub:=I.sub
 frame:=I.frame
 s0:=I.s0
 grow:=I.grow
 lent:=λa h=>by
  let(g1,g2,g3):=I.lent a h
  rw[cL hj];exact⟨g1,g2,g3⟩
 fzs:=λp hp=>by
  let(g1,g2,g3):=I.fzs p hp
  have:p.1≠j:=λz=>by rw[z,hm] at g1;cases g1
  rw[cL (mZ this)];exact⟨g1,g2,g3⟩
 fzm:=λi v h e=>I.fzm i v h (qd e).2
 fzp:=I.fzp
 prs:=λp hp=>let ⟨g1,g2,g3⟩:=I.prs p hp;⟨g1,g2,λi v h e=>g3 i v h (qd e).2⟩
 ntp:=I.ntp
 lnt1:=λq hq=>by
  let(g1,g2,g3):=I.lnt1 q hq
  have:q.1≠j:=λz=>by rw[z,hm] at g1;cases g1
  rw[cL (mZ this)];exact⟨g1,g2,g3⟩
 tie:=λy k x C dx fs w h1 h2 h3 h4=>I.tie y k x C dx fs w h1 h2 (qd h3).2 (qd h4).2
def NQ (G:Good X C n sp)(h:C.nm j nx=Ω)(m:nW C.md j=.own)(hj:j≠0):FF X C (.Name nx p) (Ku j) :=
 PE.imp (o7 G h) λσ H Q q1=>by
  let(c,L,S,Q0,I,h,k):=q1
  let(v,e,h):=oS h
  let e:=(oZ _ _ _).mp e
  let mi:nW C.md j≠.imm:=λz=>by rw[m] at z;cases z
  let(l,e1,o,h0):=I.own j v mi e
  exact⟨_,e1,k v _ h l S H o ⟨?_,λp hp z=>?_,λy w my ey z=>?_⟩ (I.drop m hj) (Same.refl S)⟩
  ·exact I.mine hj mi e e1 (by rw[m];rfl)
  ·let(_,_,g3):=I.prs p hp
   exact g3 j v (Mo.w_own m) e (by rw[z];exact e1)
  ·let(q,ey):=qd ey
   exact q (I.dis y j w v l my mi ey e z e1)
end
end Kq
set_option maxHeartbeats 1000000
set_option maxHeartbeats 4000000
namespace Kq
open PySem PySem.Spec PyProof.Rows L2 PySem.W
abbrev gA (a:Array nH) (i:Nat):nH:=a.getD i (.none,.none)
def vi {a:Array nH}{i:Nat}(h:i<a.size):a[i]?=Ψ (gA a i):=by
 simp[gA,aA,getElem?_pos a i h]
def rZ {a b:Array nH}{i j:Nat}(h:a[i]?=b[j]?):gA a i=gA b j:=by
 simp![gA,aA,h]
structure Cmp (prog:mX)(w:nC)(A:nB)(E:nE->nh->Prop)(s:nh)(kd:mM)(Ok:nH->Prop)(lt:nH->nH->Bool):Prop where
 run:∀ x y,Ok x->Ok y->∀ (st:nc)(Q:Option Bool->nc->Prop),kindOf st=kd->Q (Ψ (lt x y)) st->wpS (model prog w) A E s (lt' x y) Q st
 refl:∀ x,lt x x=Ξ
 trans:∀ x y z,lt y x=Ξ->lt z y=Ξ->lt z x=Ξ
 asym:∀ x y,lt x y=Ω->lt y x=Ξ
abbrev Cq (lt:nH->nH->Bool)(a:Array nH) (lo hi:Nat):Prop:=∀ i j,lo<=i->i<=j->j<hi->lt (gA a j) (gA a i)=Ξ
abbrev Ey (lt:nH->nH->Bool)(a:Array nH) (lo hi:Nat):Prop:=∀ i j,lo<=i->i<=j->j<hi->lt (gA a i) (gA a j)=Ξ
abbrev Out (a b:Array nH) (lo hi:Nat):Prop:=b.Perm a/\∀ k,k<lo ∨ hi<=k->gA b k=gA a k
def Out.refl (a:Array nH) (lo hi:Nat):Out a a lo hi:=⟨iY _,λ_ _=>rfl⟩
def Out.trans {a b c:Array nH}{lo hi:Nat}(h:Out a b lo hi)(g:Out b c lo hi):Out a c lo hi:=⟨g.1.trans h.1,λk hk=>(g.2 k hk).trans (h.2 k hk)⟩
def Out.size {a b:Array nH}{lo hi:Nat}(h:Out a b lo hi):b.size=a.size:=h.1.size_eq
def Out.wide {a b:Array nH}{lo hi lo' hi':Nat}(h:Out a b lo hi)(h1:lo'<=lo)(h2:hi<=hi'):Out a b lo' hi':=⟨h.1,λk hk=>h.2 k ⋯⟩
abbrev AllOk (Ok:nH->Prop)(a:Array nH):Prop:=∀ x∈a.toList,Ok x
def AllOk.at {Ok:nH->Prop}{a:Array nH}(h:AllOk Ok a){i:Nat}(hi:i<a.size):Ok (gA a i):=by
 exact h _ ?_
 have:=vi hi
 rw[<- cA] at this
 exact cH this
def AllOk.perm {Ok:nH->Prop}{a b:Array nH}(h:AllOk Ok a)(p:b.Perm a):AllOk Ok b:=λx hx=>h x ((aM.mp p).mem_iff.mp hx)
def sy {a:Array nH}{i j:Nat}(hj:j<=a.size) (k:Nat):gA (mirror a i j ((j-i) / 2)) k=if i<=k/\k<j then gA a (i+j-1-k) else gA a k:=by
 let e:=getElem?_mirror_all (i:=i) hj k
 split
 ·rename_i h;rw[if_pos h] at e;exact rZ e
 ·rename_i h;rw[if_neg h] at e;exact rZ e
def qH {a:Array nH}{i j:Nat}(hj:j<=a.size):Out a (mirror a i j ((j-i) / 2)) i j:=⟨mirror_perm _ _ _ _,λk hk=>by rw[sy hj,if_neg ⋯]⟩
section
variable {prog:mX}{w:nC}{A:nB}{E:nE->nh->Prop}{s:nh}{kd:mM}{Ok:nH->Prop}{lt:nH->nH->Bool}
noncomputable abbrev pc (kd:mM)(a:Array nH)(p:Array (Nat×Nat×Nat)) (g:Nat):nc:=lY kd a p g Φ
def ask (C:Cmp prog w A E s kd Ok lt){a:Array nH}{p:Array (Nat×Nat×Nat)}{g i j:Nat}{Q:Option Bool->nc->Prop}(ho:AllOk Ok a)(hi:i<a.size)(hj:j<a.size)(h:Q (Ψ (lt (gA a i) (gA a j))) (pc kd a p g)):wpS (model prog w) A E s (ltAt' i j) Q (pc kd a p g):=by
 rw[ltAt'_eq]
 exact mJ (mW ?_)
 show wpS _ _ _ _ (do let x <- elem' a i;let y <- elem' a j;lt' x y) Q _
 rw[mK,mK,vi hi,vi hj]
 exact mJ (mG (mJ (mG (C.run _ _ (ho.at hi) (ho.at hj) _ _ rfl h))))
def turned {a:Array nH}{p:Array (Nat×Nat×Nat)}{g i j:Nat}{Q:Unit->nc->Prop}(h:Q () (pc kd (mirror a i j ((j-i) / 2)) p g)):wpS (model prog w) A E s (reverseSlice' i j) Q (pc kd a p g):=by
 rw[reverseSlice'_eq];exact lN h
def LP {a:Array nH}{p:Array (Nat×Nat×Nat)}{g i j:Nat}{Q:Unit->nc->Prop}(h:Q () (pc kd (bubble a i (i-j)) p g)):wpS (model prog w) A E s (moveDown' i j) Q (pc kd a p g):=by
 rw[moveDown'_eq];exact lN h
abbrev Eqv (lt:nH->nH->Bool)(a:Array nH) (lo hi:Nat):Prop:=∀ i j,lo<=i->i<hi->lo<=j->j<hi->lt (gA a i) (gA a j)=Ξ
def sx {a:Array nH}{l hi k:Nat}(hj:hi<=a.size)(hk:k<hi):∃ k',k'<hi/\gA (mirror a l hi ((hi-l) / 2)) k=gA a k'/\(k<l->k'=k)/\(l<=k->l<=k'):=by
 rw[sy hj]
 split
 ·exact⟨l+hi-1-k,⋯,rfl,⋯,⋯⟩
 ·exact⟨k,hk,rfl,λ_=>rfl,λh=>h⟩
def sX (C:Cmp prog w A E s kd Ok lt){a:Array nH}{lo l hi:Nat}(hj:hi<=a.size)(hd:Ey lt a lo hi)(he:Eqv lt a l hi)(hl:lo<=l):Ey lt (mirror a l hi ((hi-l) / 2)) lo hi:=by
 intro i j h1 h2 h3
 let(i',i1,i2,i3,i4):=sx (l:=l) hj (show i<hi by lia)
 let(j',j1,j2,j3,j4):=sx (l:=l) hj h3
 rw[i2,j2]
 by_cases hi':i<l
 ·let e:=i3 hi'
  subst e
  by_cases hj':j<l
  ·let e:=j3 hj'
   subst e
   exact hd _ _ h1 h2 h3
  ·exact hd _ _ h1 (by have:=j4 ⋯;lia) j1
 ·exact he _ _ (i4 ⋯) i1 (j4 ⋯) j1
def zm {a:Array nH}{lo hi:Nat}(hj:hi<=a.size)(hd:Ey lt a lo hi):Cq lt (mirror a lo hi ((hi-lo) / 2)) lo hi:=by
 intro i j h1 h2 h3
 rw[sy hj,sy hj,if_pos ⟨⋯,h3⟩,if_pos ⟨h1,⋯⟩]
 exact hd _ _ ⋯ ⋯ ⋯
def xU (C:Cmp prog w A E s kd Ok lt){b:Array nH}{lo x:Nat}(hs:Cq lt b lo (lo+x))(hx:1<=x)(hl:lt (gA b (lo+x)) (gA b (lo+x-1))=Ξ):Cq lt b lo (lo+(x+1)):=by
 intro i j h1 h2 h3
 by_cases hj:j<lo+x
 ·exact hs i j h1 h2 hj
 ·have:j=lo+x:=by lia
  subst this
  by_cases hi:i=lo+x
  ·rw[hi];exact C.refl _
  ·exact C.trans _ _ _ (hs i (lo+x-1) h1 ⋯ ⋯) hl
def r6 (C:Cmp prog w A E s kd Ok lt){b:Array nH}{lo x:Nat}(hs:Ey lt b lo (lo+x))(hx:1<=x)(hl:lt (gA b (lo+x-1)) (gA b (lo+x))=Ξ):Ey lt b lo (lo+(x+1)):=by
 intro i j h1 h2 h3
 by_cases hj:j<lo+x
 ·exact hs i j h1 h2 hj
 ·have:j=lo+x:=by lia
  subst this
  by_cases hi:i=lo+x
  ·rw[hi];exact C.refl _
  ·exact C.trans _ _ _ hl (hs i (lo+x-1) h1 ⋯ ⋯)
def Hh (C:Cmp prog w A E s kd Ok lt){a:Array nH}{p:Array (Nat×Nat×Nat)}{g lo n:Nat}{Q:Option Nat->nc->Prop}(ho:AllOk Ok a)(h1:1<=n)(hn:lo+n<=a.size)
  (h:∀ m b,1<=m->m<=n->Out a b lo (lo+n)->Cq lt b lo (lo+m)->Q (Ψ m) (pc kd b p g)):wpS (model prog w) A E s (countRun' lo n) Q (pc kd a p g):=by
 rw[countRun'_eq]
 refine mJ (mH (kG (I:=λx c st'=>st'=pc kd a p g/\c=(Φ,x)/\Cq lt a lo (lo+x))
  (Q:=λc st'=>∃ m,st'=pc kd a p g/\c=(Φ,m)/\1<=m/\m<=n/\Cq lt a lo (lo+m)/\(m=n ∨ lt (gA a (lo+m)) (gA a (lo+m-1))=Ω)) ?_ ?_ ⟨rfl,rfl,λi j h1 h2 h3=>?_⟩) ?_)
 ·rintro x c st' hx hxn ⟨rfl,rfl,hs⟩
  dsimp only
  exact mJ (ask C ho ⋯ ⋯ ?_)
  cases e:lt (gA a (lo+x)) (gA a (lo+x-1)) with
  | true=>exact mG ⟨x,rfl,rfl,hx,⋯,hs,.inr e⟩
  | false=>exact mG ⟨rfl,rfl,xU C hs hx e⟩
 ·rintro c st' ⟨rfl,rfl,hs⟩
  rw[show max 1 n=n by lia] at hs ⊢
  exact⟨n,rfl,rfl,h1,lJ _,hs,.inl rfl⟩
 ·have:i=j:=by lia
  subst this;exact C.refl _
 rintro c st' ⟨m,rfl,rfl,hm1,hmn,hs,hor⟩
 dsimp only
 by_cases hm:m=n
 ·rw[if_pos (by simpa using hm)]
  exact mG (h m a hm1 hmn (Out.refl _ _ _) hs)
 rw[if_neg (by simpa using hm)]
 let hlt:=C.asym _ _ (hor.resolve_left hm)
 let one:m=1->Ey lt a lo (lo+(m+1)):=λe=>r6 C (by
  intro i j h1 h2 h3
  have:i=j:=⋯
  subst this;exact C.refl _) hm1 hlt
 let two:lt (gA a lo) (gA a (lo+m-1))=Ξ->Out a (mirror a lo (lo+m) ((lo+m-lo) / 2)) lo (lo+n)/\Ey lt (mirror a lo (lo+m) ((lo+m-lo) / 2)) lo (lo+(m+1)):=by
  intro hr
  let hall:Eqv lt a lo (lo+m):=by
   intro i j h1 h2 h3 h4
   exact C.trans _ _ _ (C.trans _ _ _ (hs j (lo+m-1) h3 ⋯ ⋯) hr) (hs lo i (lJ _) h1 h2)
  let hsz:lo+m<=a.size:=⋯
  exact⟨(qH hsz).wide (lJ _) ⋯,?_⟩
  exact r6 C (sX C hsz (λi j h1 h2 h3=>hall i j h1 ⋯ ⋯ h3) hall (lJ _)) hm1 ?_
  rw[(qH (i:=lo) hsz).2 (lo+m) ⋯]
  obtain⟨k',k1,k2,-,k4⟩:=sx (l:=lo) hsz (show lo+m-1<lo+m by lia)
  rw[k2]
  exact C.trans _ _ _ hlt (hall _ _ (k4 ⋯) k1 ⋯ ⋯)
 by_cases hgt:m > 1
 rw[if_pos hgt]
 exact mJ (ask C ho ⋯ ⋯ ?_)
 rcases bu (lt (gA a lo) (gA a (lo+m-1))) with hr|hr
 rw[hr]
 exact mG (h m a hm1 hmn (Out.refl _ _ _) hs)
 rw[hr]
 exact mJ (turned ?_)
 let(hb,hd):=two hr
 generalize mirror a lo (lo+m) ((lo+m-lo) / 2)=b at hb hd ⊢
 rotate_left
 rw[if_neg hgt]
 let hd:=one ⋯
 let hb:=Out.refl a lo (lo+n)
 revert hb hd
 generalize hab:pc kd a p g=sa
 suffices h:∀ b,sa=pc kd b p g->Out a b lo (lo+n)->Ey lt b lo (lo+(m+1))->_ from λhd hb=>h a hab.symm hb hd
 rintro b rfl hb hd
 all_goals
  clear hs hor hlt one two
  let hsz:=hb.size
  exact mJ (mI (lO ⟨rfl,?_⟩))
  refine mJ (mH (kG (I:=λx c st'=>∃ b q,st'=pc kd b p g/\c=(Φ,x,q)/\Out a b lo (lo+n)/\Ey lt b lo (lo+x)/\q+1<=x/\Eqv lt b (lo+x-(q+1)) (lo+x))
   (Q:=λc st'=>∃ x b q,st'=pc kd b p g/\c=(Φ,x,q)/\1<=x/\x<=n/\Out a b lo (lo+n)/\Ey lt b lo (lo+x)/\q+1<=x/\Eqv lt b (lo+x-(q+1)) (lo+x)) ?_ ?_ ⟨b,0,rfl,rfl,hb,hd,⋯,?_⟩) ?_)
  ·rintro x c st' hx hxn ⟨b,q,rfl,rfl,hb,hd,hq,he⟩
   let hsz:=hb.size
   let hok:=ho.perm hb.1
   dsimp only
   exact mJ (ask C hok ⋯ ⋯ ?_)
   rcases bu (lt (gA b (lo+x)) (gA b (lo+x-1))) with hr|hr
   ·rw[hr]
    let hr':=C.asym _ _ hr
    let e0:∀ b':Array nH,Eqv lt b' (lo+(x+1)-(0+1)) (lo+(x+1)):=λb' i j h1 h2 h3 h4=>by
     have:i=j:=⋯
     subst this;exact C.refl _
    simp![if_true]
    by_cases h0:q > 0
    ·rw[if_pos h0]
     exact mJ (turned (mG ?_))
     let hs2:lo+x<=b.size:=⋯
     let hom:=qH (i:=lo+x-(q+1)) hs2
     exact⟨_,0,rfl,rfl,hb.trans (hom.wide ⋯ ⋯),?_,⋯,e0 _⟩
     exact r6 C (sX C hs2 hd he ⋯) ⋯ ?_
     rw[hom.2 (lo+x) ⋯]
     obtain⟨k',k1,k2,-,k4⟩:=sx (l:=lo+x-(q+1)) hs2 (show lo+x-1<lo+x by lia)
     rw[k2]
     exact C.trans _ _ _ hr' (hd _ _ (by have:=k4 ⋯;lia) ⋯ ⋯)
    ·rw[if_neg h0]
     exact mG ⟨b,0,rfl,rfl,hb,r6 C hd ⋯ hr',⋯,e0 _⟩
   ·rw[hr]
    simp![dZ,if_false]
    exact mJ (ask C hok ⋯ ⋯ ?_)
    rcases bu (lt (gA b (lo+x-1)) (gA b (lo+x))) with hr2|hr2
    ·rw[hr2]
     exact mG ⟨x,b,q,rfl,rfl,⋯,⋯,hb,hd,hq,he⟩
    ·rw[hr2]
     exact mG ⟨b,q+1,rfl,rfl,hb,r6 C hd ⋯ hr2,⋯,λi j h1 h2 h3 h4=>?_⟩
     by_cases hi:i=lo+x
     ·by_cases hj:j=lo+x
      ·rw[hi,hj];exact C.refl _
      ·rw[hi]
       exact C.trans _ _ _ (he (lo + x - 1) j ⋯ ⋯ ⋯ ⋯) hr
     ·by_cases hj:j=lo+x
      ·rw[hj]
       exact C.trans _ _ _ hr2 (he i (lo + x - 1) ⋯ ⋯ ⋯ ⋯)
      ·exact he i j ⋯ ⋯ ⋯ ⋯
  ·rintro c st' ⟨b,q,rfl,rfl,hb,hd,hq,he⟩
   rw[show max (m+1) n=n by lia] at *
   exact⟨n,b,q,rfl,rfl,h1,lJ _,hb,hd,hq,he⟩
  ·intro i j h1 h2 h3 h4
   have:i=j:=⋯
   subst this;exact C.refl _
  rintro c st' ⟨x,b,q,rfl,rfl,hx1,hxn,hb,hd,hq,he⟩
  let hsz:=hb.size
  let hs2:lo+x<=b.size:=⋯
  dsimp only
  by_cases h0:q > 0
  rw[if_pos h0]
  exact mJ (turned ?_)
  let hb2:=hb.trans ((qH (i:=lo+x-(q+1)) hs2).wide (show lo<=lo+x-(q+1) by lia) (show lo+x<=lo+n by lia))
  let hd2:=sX C hs2 hd he (show lo<=lo+x-(q+1) by lia)
  clear hb hd he hsz hs2
  generalize mirror b (lo+x-(q+1)) (lo+x) ((lo+x-(lo+x-(q+1))) / 2)=b2 at hb2 hd2 ⊢
  rotate_left
  rw[if_neg h0]
  let hb2:=hb
  let hd2:=hd
  clear hb hd he hsz hs2
  generalize b=b2 at hb2 hd2 ⊢
  all_goals
   let hsz:=hb2.size
   let hs2:lo+x<=b2.size:=⋯
   exact mJ (turned ?_)
   let hb3:=hb2.trans ((qH (i:=lo) hs2).wide (lJ lo) (show lo+x<=lo+n by lia))
   let hs3:=zm hs2 hd2
   generalize mirror b2 lo (lo+x) ((lo+x-lo) / 2)=b3 at hb3 hs3 ⊢
   let hok:=ho.perm hb3.1
   let hsz3:=hb3.size
   refine mJ (mH (kG (I:=λx c st'=>st'=pc kd b3 p g/\c=(Φ,x)/\Cq lt b3 lo (lo+x))
    (Q:=λc st'=>∃ m,st'=pc kd b3 p g/\c=(Φ,m)/\1<=m/\m<=n/\Cq lt b3 lo (lo+m)) ?_ ?_ ⟨rfl,rfl,hs3⟩) ?_)
   ·rintro y c st' hy hyn ⟨rfl,rfl,hs⟩
    dsimp only
    exact mJ (ask C hok ⋯ ⋯ ?_)
    rcases bu (lt (gA b3 (lo+y)) (gA b3 (lo+y-1))) with e|e
    ·rw[e];exact mG ⟨y,rfl,rfl,⋯,⋯,hs⟩
    ·rw[e];exact mG ⟨rfl,rfl,xU C hs ⋯ e⟩
   ·rintro c st' ⟨rfl,rfl,hs⟩
    rw[show max x n=n by lia] at hs ⊢
    exact⟨n,rfl,rfl,h1,lJ _,hs⟩
   ·rintro c st' ⟨y,rfl,rfl,hy1,hyn,hs⟩
    exact mG (h y b3 hy1 hyn hb3 hs)
end
section
variable {prog:mX}{w:nC}{A:nB}{E:nE->nh->Prop}{s:nh}{kd:mM}{Ok:nH->Prop}{lt:nH->nH->Bool}
def t6 {a:Array nH}{i d:Nat}(hi:i<a.size)(hd:d<=i) (k:Nat):gA (bubble a i d) k=if k=i-d then gA a i else if i-d<k/\k<=i then gA a (k-1) else gA a k:=by
 let e:=getElem?_bubble hi d hd k
 split
 ·rename_i h;rw[if_pos h] at e;exact rZ e
 ·rename_i h
  rw[if_neg h] at e
  split
  ·rename_i h2;rw[if_pos h2] at e;exact rZ e
  ·rename_i h2;rw[if_neg h2] at e;exact rZ e
def ID (C:Cmp prog w A E s kd Ok lt){a:Array nH}{p:Array (Nat×Nat×Nat)}{g lo n ok:Nat}{Q:Bool->nc->Prop}(ho:AllOk Ok a)(h1:1<=ok)(hk:ok<=n)(hn:lo+n<=a.size)(hs:Cq lt a lo (lo+ok))
  (h:∀ b,Out a b lo (lo+n)->Cq lt b lo (lo+n)->Q Ω (pc kd b p g)):wpS (model prog w) A E s (binarySort' lo n ok) Q (pc kd a p g):=by
 rw[binarySort'_eq]
 refine mJ (mH (kG (I:=λk c st'=>∃ b,st'=pc kd b p g/\c=(Φ,())/\Out a b lo (lo+n)/\Cq lt b lo (lo+k))
  (Q:=λc st'=>∃ b,st'=pc kd b p g/\c=(Φ,())/\Out a b lo (lo+n)/\Cq lt b lo (lo+n)) ?_ ?_ ⟨a,rfl,rfl,Out.refl _ _ _,by rw[show max ok 1=ok by lia];exact hs⟩) ?_)
 ·rintro k c st' hk1 hkn ⟨b,rfl,rfl,hb,hs⟩
  let hsz:=hb.size
  let hok:=ho.perm hb.1
  dsimp only
  refine mJ (mH (kG (I:=λj c st'=>∃ l r,st'=pc kd b p g/\c=(Φ,l,r)/\l<=r/\r<=k/\r-l<=k-j/\(∀ i,i<l->lt (gA b (lo+k)) (gA b (lo+i))=Ξ)/\∀ i,r<=i->i<k->lt (gA b (lo+i)) (gA b (lo+k))=Ξ)
   (Q:=λc st'=>∃ l r,st'=pc kd b p g/\c=(Φ,l,r)/\l<=k/\(∀ i,i<l->lt (gA b (lo+k)) (gA b (lo+i))=Ξ)/\∀ i,l<=i->i<k->lt (gA b (lo+i)) (gA b (lo+k))=Ξ) ?_ ?_ ⟨0,k,rfl,rfl,⋯,⋯,⋯,λi hi=>⋯,λi h1 h2=>⋯⟩) ?_)
  ·rintro j c st'-hj ⟨l,r,rfl,rfl,hlr,hrk,hm,g1,g2⟩
   dsimp only
   by_cases hge:l ≥ r
   ·rw[if_pos hge]
    exact mG ⟨l,r,rfl,rfl,⋯,g1,λi h1 h2=>g2 i ⋯ h2⟩
   ·rw[if_neg hge]
    exact mJ (ask C hok ⋯ ⋯ ?_)
    rcases bu (lt (gA b (lo+k)) (gA b (lo+(l+r) / 2))) with e|e
    ·rw[e]
     let e':=C.asym _ _ e
     exact mG ⟨l,(l+r) / 2,rfl,rfl,⋯,⋯,⋯,g1,λi h1 h2=>?_⟩
     exact C.trans _ _ _ e' (hs _ _ ⋯ ⋯ ⋯)
    ·rw[e]
     exact mG ⟨(l+r) / 2+1,r,rfl,rfl,⋯,⋯,⋯,λi hi=>?_,g2⟩
     exact C.trans _ _ _ (hs (lo+i) (lo+(l+r) / 2) ⋯ ⋯ ⋯) e
  ·rintro c st' ⟨l,r,rfl,rfl,hlr,hrk,hm,g1,g2⟩
   rw[show max 0 k=k by lia] at hm
   exact⟨l,r,rfl,rfl,⋯,g1,λi h1 h2=>g2 i ⋯ h2⟩
  ·rintro c st' ⟨l,r,rfl,rfl,hlk,g1,g2⟩
   dsimp only
   exact mJ (LP (mG ?_))
   let hi:lo+k<b.size:=⋯
   let hd:lo+k-(lo+l)<=lo+k:=⋯
   exact⟨_,rfl,rfl,hb.trans ⟨bubble_perm _ _ _,λx hx=>?_⟩,λi j h1 h2 h3=>?_⟩
   ·rw[t6 hi hd,if_neg ⋯,if_neg ⋯]
   ·rw[t6 hi hd,t6 hi hd]
    let el:lo+k-(lo+k-(lo+l))=lo+l:=⋯
    rw[el]
    by_cases j1:j=lo+l
    ·rw[if_pos j1]
     by_cases i1:i=lo+l
     ·rw[if_pos i1];exact C.refl _
     ·rw[if_neg i1,if_neg ⋯]
      have:=g1 (i-lo) ⋯
      rwa [show lo+(i-lo)=i by lia] at this
    ·rw[if_neg j1]
     by_cases i1:i=lo+l
     ·rw[if_pos i1,if_pos ⋯]
      have:=g2 (j-1-lo) ⋯ ⋯
      rwa [show lo+(j-1-lo)=j-1 by lia] at this
     ·rw[if_neg i1]
      by_cases j2:lo+l<j/\j<=lo+k
      ·rw[if_pos j2]
       by_cases i2:lo + l < i/\i<=lo + k
       ·rw [if_pos i2]; exact hs _ _ ⋯ ⋯ ⋯
       ·rw [if_neg i2]; exact hs _ _ ⋯ ⋯ ⋯
      ·rw[if_neg j2,if_neg ⋯]
       exact hs _ _ ⋯ ⋯ ⋯
 ·rintro c st' ⟨b,rfl,rfl,hb,hs⟩
  rw[show max (max ok 1) n=n by lia] at hs
  exact⟨b,rfl,rfl,hb,hs⟩
 ·rintro c st' ⟨b,rfl,rfl,hb,hs⟩
  exact mG (h b hb hs)
end
def sQ (x y:Int)(r q:List Int):lexLt (x :: r) (y :: q)=if x=y then lexLt r q else Δ (x<y):=Fk rfl
def AH:∀ a:List Int,lexLt a a=Ξ
 | []=>rfl
 | x :: r=>by rw[sQ,if_pos rfl,AH r]
def yu:∀ a b:List Int,lexLt a b=Ω->lexLt b a=Ξ
 | [],[],h=>by cases h
 | [],_ :: _,_=>rfl
 | _ :: _,[],h=>by cases h
 | x :: r,y :: q,h=>by
  rw[sQ] at h ⊢
  by_cases e:x=y
  ·rw[if_pos e] at h;rw[if_pos e.symm];exact yu r q h
  ·rw[if_neg e] at h;rw[if_neg (mZ e)]
   simp -iota only[decide_eq_true_eq,decide_eq_false_iff_not] at h ⊢;lia
def v6:∀ a b c:List Int,lexLt b a=Ξ->lexLt c b=Ξ->lexLt c a=Ξ
 | [],b,c,h1,h2=>by cases c<;>rfl
 | x :: r,[],c,h1,h2=>by cases h1
 | x :: r,y :: q,[],h1,h2=>by cases h2
 | x :: r,y :: q,z :: t,h1,h2=>by
  rw[sQ] at h1 h2 ⊢
  by_cases e1:y=x
  ·rw[if_pos e1] at h1
   by_cases e2:z=y
   ·rw[if_pos e2] at h2;rw[if_pos (e2.trans e1)];exact v6 r q t h1 h2
   ·rw[if_neg e2] at h2;rw[if_neg (by rw[<- e1];exact e2),<- e1];exact h2
  ·rw[if_neg e1] at h1
   by_cases e2:z=y
   ·rw[if_pos e2] at h2;rw[if_neg (by rw[e2];exact e1),e2];exact h1
   ·rw[if_neg e2] at h2
    simp -iota only[decide_eq_false_iff_not] at h1 h2
    rw[if_neg ⋯]
    simp -iota only[decide_eq_false_iff_not];lia
section
variable {prog:mX}{w:nC}{A:nB}{E:nE->nh->Prop}{s:nh}{vs:List nE}{kd:mM}{kf:nE->List Int}
def Jz (hc:∀ x∈vs,∀ y∈vs,∀ Q:Bool->nh->Prop,∀ E':nE->nh->Prop,Q (lexLt (kf x) (kf y)) s->wpAny (model prog w) A (keyLt' kd x y) Q E' s):Cmp prog w A E s kd (λp=>p.1∈vs) (λp q=>lexLt (kf p.1) (kf q.1)) where
 run:=λx y hx hy st Q hk q=>by
  rw[lt'_eq]
  exact mJ (mW ?_)
  rw[hk]
  exact mJ (mI (jK (hc _ hx _ hy _ _ ⟨rfl,?_⟩)))
  exact mG q
 refl:=λx=>AH _
 trans:=λx y z h1 h2=>v6 _ _ _ h1 h2
 asym:=λx y h=>yu _ _ h
inductive SqH (h:nM)(l:nP)(vs:Array nE):Prop
 | mk (o:Obj)(T:String) (n:Nat)(_:h.get? l=Ψ o)(_:(T = "list" ∨ T = "tuple"))(_:o.cls=.type T)(_:o.data=.seq vs n):SqH h l vs
def zY {l:nP}{us:List nE}{Q:List nE->nh->Prop}(hl:SqH s.heap l us.toArray)
  (h:Q us { s with heap:=(s.heap.push (seqObj "list" #[] 0)).update s.heap.objs.size (ma (·++us.toArray)) })(hsz:us.length<=sizeLine) :
  wpAny (model prog w) A (collect (.ref l)) Q E s:=by
 let(o,T,n,ho,hT,hc,hd):=hl
 unfold collect
 exact lR (wpAny_runValue (ic F.entry_proto_collect ?_))
 rw[cS F.plain_proto_collect _]
 show wpAny _ A.in1 (newList [] >>= λl'=>again (.builtin "list.__iadd__" ⟨[l',.ref l],[]⟩)) _ _ s
 exact lR (eM (lP ⟨jN fJ _,ic fK ?_⟩))
 rw[cS fJ _]
 show wpAny _ A.in1 (Builtin.List.listExtendWith (.ref s.heap.objs.size) (.ref l) (.ref s.heap.objs.size)) _ _ { s with heap:=s.heap.push (seqObj "list" #[] 0) }
 let hS:(s.heap.push (seqObj "list" #[] 0)).get? s.heap.objs.size=Ψ (seqObj "list" #[] 0):=dc _ rfl
 let last:wpAny (model prog w) A (do
   let o <- load s.heap.objs.size
   match o.data with
   | .seq xs _=>pure xs.toList
   | _=>unsupported "internal:collect") Q E { s with heap:=(s.heap.push (seqObj "list" #[] 0)).update s.heap.objs.size (ma (·++us.toArray)) }:=by
  exact lR (wpAny_load (cw (ma (·++us.toArray)) hS rfl) ?_)
  show wpAny _ _ (pure ((#[]:Array nE)++us.toArray).toList) Q E _
  rw[show ((#[]:Array nE)++us.toArray).toList=us by simp]
  exact lP h
 exact lQ (wpAny_extend_seq (hsz:=by simpa using hsz) (A:=A) (R:=λr s'=>r=.ok (.ret (.ref s.heap.objs.size))/\s' = { s with heap:=(s.heap.push (seqObj "list" #[] 0)).update s.heap.objs.size (ma (·++us.toArray)) }) (s:={ s with heap:=s.heap.push (seqObj "list" #[] 0) }) _ l _ 0 hT hS (bS _ ho) hc hd ⟨rfl,rfl⟩) (λr s' q=>?_) (λe s' q=>absurd q.1 ∅)
 cases r with
 | done f =>
  let(e,rfl):=q
  cases e
  exact last
 | again c'=>exact⟨q.1,kK q.2 λr s'' hr=>by let(rfl,rfl):=hr;exact last⟩
end
abbrev numsOf (h:nM):nE->List Int
 | .ref a=>match h.get? a with
  | some o=>match o.data with
   | .seq us _=>us.toList.map numOf
   | _=>[]
  | none=>[]
 | _=>[]
def vO:∀ {ks:List Int}{us:List nE},Vals (ks.map V.int) us->us.map numOf=ks
 | [],us,h=>by cases h;rfl
 | k :: ks,us,h=>by
  cases h with
  | @cons _ u _ us' r1 h =>
  let(t,rfl):=r1
  rw[kn,vO h];rfl
abbrev Dv (fin:Bool):List Int->List Int->Bool
 | [],_=>fin
 | _ :: _,[]=>fin
 | k :: ks,j :: js=>if k=j then Dv fin ks js else Δ (k<j)
def AI:∀ (ks js:List Int),Dv (Δ (ks.length<js.length)) ks js=lexLt ks js
 | [],[]=>rfl
 | [],j :: js=>by show Δ (0<js.length+1)=Ω;simp
 | k :: ks,[]=>by show Δ (ks.length+1<0)=Ξ;simp
 | k :: ks,j :: js=>by
  show (if k=j then Dv (Δ (ks.length+1<js.length+1)) ks js else Δ (k<j))=if k=j then lexLt ks js else Δ (k<j)
  have:=AI ks js
  simp![Nat.add_lt_add_iff_right]
  rw[this]
section
variable {prog:mX}{w:nC}{A:nB}{E:nE->nh->Prop}{s:nh}
def Du {b fin:Bool}{Q:Bool->nh->Prop}:∀ (ks js:List Int)(us ws:List nE) (i:Nat),Vals (ks.map V.int) us->Vals (js.map V.int) ws->Q (Dv fin ks js) s->KatLex prog w A b fin Q (us.zip ws) i s
 | [],js,us,ws,i,h1,h2,q=>by
  cases h1
  rw[List.zip_nil_left]
  exact q
 | k :: ks,[],us,ws,i,h1,h2,q=>by
  cases h2
  rw[List.zip_nil_right]
  exact q
 | k :: ks,j :: js,us,ws,i,h1,h2,q=>by
  cases h1 with
  | @cons _ u _ us' r1 h1 =>
  cases h2 with
  | @cons _ x _ ws' r2 h2 =>
  let(t1,rfl):=r1
  let(t2,rfl):=r2
  rw[dI]
  replace q:Q (if k=j then Dv fin ks js else Δ (k<j)) s:=q
  exact kat_cons (fU (kat_go (λe=>kat_yes (Du ks js us' ws' (i+1) h1 h2 ?_)) λe=>kat_no ?_))
  ·let e:k=j:=by simpa using e
   rwa [if_pos e] at q
  ·let e:k≠j:=by simpa using e
   rw[if_neg e] at q
   cases b && i == 0
   ·exact kat_one _ _ (cW q)
   ·exact oneLt_int q
abbrev NumTup (h:nM)(v:nE)(ks:List Int):Prop:=∃ (a:nP)(o:Obj)(us:List nE) (n:Nat),v=.ref a/\h.get? a=Ψ o/\o.cls=.type "tuple"/\o.data=.seq us.toArray n/\Vals (ks.map V.int) us/\ks≠[]
def NumTup.keep {h h':nM}{v:nE}{ks:List Int}(x:NumTup h v ks)(k:∀ b o,h.get? b=Ψ o->h'.get? b=Ψ o):NumTup h' v ks:=by
 let(a,o,us,n,e,h1,h2):=x
 exact⟨a,o,us,n,e,k _ _ h1,h2⟩
def NumTup.nums {h:nM}{v:nE}{ks:List Int}(x:NumTup h v ks):numsOf h v=ks:=by
 let(a,o,us,n,rfl,h1,h2,h3,h4,_):=x
 simp![numsOf,h1,h3]
 exact vO h4
def NumTup.it {h:nM}{v:nE}{ks:List Int}(x:NumTup h v ks):Ep h v:=by
 let(a,o,us,n,rfl,h1,h2,h3,h4,h5):=x
 cases ks with
 | nil=>exact absurd rfl h5
 | cons k ks=>exact⟨a,o,us,n,k,ks,rfl,h1,h2,h3,h4⟩
def LR {b:Bool}{x y:nE}{ks js:List Int}{Q:Bool->nh->Prop}(hx:NumTup s.heap x ks)(hy:NumTup s.heap y js)(q:Q (lexLt ks js) s):wpAny (model prog w) A (keyLt' (tuples' b) x y) Q E s:=by
 let(a,o,us,n,rfl,h1,h2,h3,h4,_):=hx
 let(a',o',us',n',rfl,g1,g2,g3,g4,_):=hy
 exact kat_lt h1 h3 g1 g3 (Du ks js _ _ 0 h4 g4 ?_)
 let e1:ks.length=us.length:=by have:=h4.length;simpa using this
 let e2:js.length=us'.length:=by have:=g4.length;simpa using this
 rw[fk,fk,<- e1,<- e2,AI];exact q
end
abbrev KJ:V->Int
 | .int i=>i
 | _=>0
abbrev KI (H:Hp):V->List Int
 | .ref b=>match H b with
  | some (.tup xs)=>xs.map KJ
  | _=>[]
 | _=>[]
abbrev Mb:FV->List Int
 | .tup ps=>(oM ps).getD []
 | _=>[]
def xN:∀ ks:List Int,(ks.map V.int).map KJ=ks
 | []=>rfl
 | k :: ks=>by rw[kn,kn,xN ks];rfl
section
variable {K:kP}{S:Hp}
def xP:∀ {xs:List FV}{ys:List V},sN xs=Ω->RVs K S xs ys->(∀ y∈ys,∃ (b:nP)(ks:List Int),y=.ref b/\ks≠[]/\S b=Ψ (.tup (ks.map V.int)))/\ys.map (KI S)=xs.map Mb
 | [],ys,_,h=>by cases (show ys=[] from h);simp
 | x :: xs,ys,t,q1=>by
  let(v,r,e,h1,h2):=q1
  subst e
  cases x with
  | tup ps =>
   let t:((match oM ps with|some (_ :: _)=>Ω|_=>Ξ) && sN xs)=Ω:=t
   let(t1,t2):=cN.mp t
   let(i1,i2):=xP t2 h2
   cases e:oM ps with
   | none=>rw[e] at t1;cases t1
   | some ns =>
    cases ns with
    | nil=>rw[e] at t1;cases t1
    | cons k ks =>
     let(a,us,rfl,g1,g2):=h1
     cases qo g2 e
     exact⟨λy hy=>?_,?_⟩
     ·rcases kj.mp hy with rfl|hy
      ·exact⟨a,k :: ks,rfl,∅,g1⟩
      ·exact i1 y hy
     ·rw[kn,kn,i2]
      congr 1
      simp![KI,g1,Mb,e,ga]
      exact xN _
  | _=>cases t
end
abbrev EntAt (h:nM)(d:nP)(es:Array mF) (ep:Nat):Prop:=∃ o,h.get? d=Ψ o/\o.ExactDict/\o.data=.dict es ep
section
variable {prog:mX}{w:nC}{A:nB}{E:nE->nh->Prop}{s:nh}{it d:nP}{i ep:Nat}{es:Array mF}
def EntAt.ty (x:EntAt s.heap d es ep):s.TypeIs (.ref d) "dict":=by
 let(o,ho,hc,_):=x
 exact⟨o,ho,hc.1⟩
def DD {Q:nE->nh->Prop}(hd:(d == sysModules)=Ξ)(hm:EntAt s.heap d es ep)
  (q:Q (.ref s.heap.objs.size) { s with heap:=s.heap.push { cls:=.type "dict_keyiterator",data:=.fields #[.ref d,.int 0 0,.int es.size 0,.int ep 0] } }):wpAny (model prog w) A (pyIter (.ref d)) Q E s:=by
 let hT:=hm.ty
 let(o,ho,hc,hdat):=hm
 exact wpAny_pyIter_slot hT gM (fV gM hT F.entry_dict_iter ?_ (F.args_dict_iter_1 _));unfold m7.«dict.__iter__»;exact lR ?_;unfold Builtin.Dict.dictSlotNone
 exact lR (bV hT ?_);show wpAny _ _ (pure (Value.ref d)) _ _ s;exact lP ?_;show wpAny _ _ (cy d >>= _) _ _ s;unfold cy
 rw[if_neg (by rw[hd];exact dY)];exact lR (lP (lR (eO ho hdat (lR (hX ho hdat ?_)))))
 exact lR (eM (lP ⟨_,rfl,"dict_keyiterator",_,⟨_,dc _ rfl,rfl⟩,ap.lookup,?_⟩));simpa[rawInt] using q
def Dk {Q:Option nE->nh->Prop}(hit:s.heap.IsKeyIter it d i es.size ep)(hm:EntAt s.heap d es ep)(hi:i<es.size)
  (q:∀ h',h'.IsKeyIter it d (i+1) es.size ep->lh it s.heap h'->Q (Ψ es[i].key) { s with heap:=h' }):wpAny (model prog w) A (pyNext (.ref it)) Q E s:=by
 let hT:=hit.typeIs
 let(o,ho,hc,hd):=id hit
 let(od,hod,_,hdd):=hm
 let hown:au "dict_keyiterator" = Ξ:=(·)
 unfold pyNext;exact lR (jK (bv (name:=kL "__next__") hT ap (fV ap hT am ?_ (ah _))))
 exact lR (lP (lR (lR ?_)));first|exact lR (aj hT (lP ?_))|exact lR (bh hT (lP ?_))
 exact lR (i8 ho hd ?_);simp -iota only[hown,dZ,if_false];show wpAny _ _ (if (Value.ref d == Value.none)=Ω then _ else _) _ _ s;rw[if_neg (show ¬ ((Value.ref d == Value.none)=Ω) from dY)]
 exact lR (lP (lR (eO hod hdd ?_)));rw[if_neg ∅]
 exact lR (lP (lR (hX hod hdd ?_)));rw[if_neg ∅];exact lP ?_
 simp![show ¬ ((i:Int)<0) from by lia,if_false,fG,bg hi];exact lR ?_
 first|exact lR (aj hT (lP (lR (bX hT ?_))))|exact lR (bh hT (lP (lR (bX hT ?_))))
 show wpAny _ _ (setField (.ref it) 1 (rawInt ((i:Int)+1)) >>= _) _ _ s;exact lR (i5 ho hd ∅ ?_)
 let hit':(s.heap.update it (j8 (·.setIfInBounds 1 (rawInt ((i:Int)+1))))).IsKeyIter it d (i+1) es.size ep:=⟨_,cw _ ho (b9 (dE hd _)),(ff ..).trans hc,by rw[dE hd];simp[rawInt]⟩
 exact lR (jI (lR (bX (s:={ s with heap:=s.heap.update it (j8 (·.setIfInBounds 1 (rawInt ((i:Int)+1)))) }) hit'.typeIs ?_)));show wpAny _ _ (pure es[i].key) _ _ _
 exact lP (lP ⟨_,rfl,lP (q _ hit' (dh ..))⟩)
def F7 {Q:Option nE->nh->Prop}(hh:A.handled=Φ)(hit:s.heap.IsKeyIter it d i es.size ep)(hm:EntAt s.heap d es ep)(hi:es.size<=i)
  (q:∀ h',lM it s.heap h'->Q Φ { s with heap:=h' }):wpAny (model prog w) A (pyNext (.ref it)) Q E s:=by
 let hT:=hit.typeIs
 let(o,ho,hc,hd):=id hit
 let(od,hod,_,hdd):=hm
 let hown:au "dict_keyiterator" = Ξ:=(·)
 unfold pyNext;exact lR (jK (bv (name:=kL "__next__") hT ap (fV ap hT am ?_ (ah _))))
 exact lR (lP (lR (lR ?_)));first|exact lR (aj hT (lP ?_))|exact lR (bh hT (lP ?_))
 exact lR (i8 ho hd ?_);simp -iota only[hown,dZ,if_false];show wpAny _ _ (if (Value.ref d == Value.none)=Ω then _ else _) _ _ s;rw[if_neg (show ¬ ((Value.ref d == Value.none)=Ω) from dY)]
 exact lR (lP (lR (eO hod hdd ?_)));rw[if_neg ∅]
 exact lR (lP (lR (hX hod hdd ?_)));rw[if_neg ∅];exact lP ?_
 simp![show ¬ ((i:Int)<0) from by lia,if_false,fG,Array.getElem?_eq_none hi];exact lR ?_
 first|exact lR (aj hT (lP ?_))|exact lR (bh hT (lP ?_))
 show wpAny _ _ (setField (.ref it) 0 .none >>= _) _ _ s;exact lR (i5 ho hd ∅ ?_);show wpAny _ _ (newExc (.type "StopIteration") [] >>= _) _ _ _;exact lR ?_;simp![newExc,newTuple]
 exact lR (eM ?_ (by size_fits));exact lR (m:=firstArgMember _ _) (lq (a:=Value.none) (by first|rfl|(simp![firstArgMember];rfl)) ?_);exact eM ?_ (by size_fits);simp -iota only[raiseNew]
 exact lR (jJ ?_);rw[show A.in1.handled=Φ from hh];exact lR (lP (wpAny_throw ?_))
 exact lR (fR (T:="StopIteration") (b:=Ω) ⟨_,dc _ rfl,rfl⟩ jd ?_);exact lP (q _ (((dh ..).extBut.push _).push _))
end
section
variable {X:Cx}{Z9:List (nP×Obj)}{σ:L2.St}{H:Hp}{s:nh}{a:nP}
def yA {Z6:List (List (Int ⊕ Option Str)×V)}{o:Obj}(I:Inv X Z9 σ H s)(h:H a=Ψ (.dT Z6))(ho:s.heap.get? a=Ψ o):Inv X Z9 σ (oT H a (.frz o (.dT Z6))) s:=by
 let ne:∀ {b:nP}{u:HO},H b=Ψ u->u≠.dT Z6->b≠a:=λe n z=>by subst z;rw[h] at e;exact n (ip e).symm
 let ow:∀ b c,H b=Ψ (.own c)->oT H a (.frz o (.dT Z6)) b=Ψ (.own c):=λb c e=>by rw[nZ (ne e (λz=>nomatch z))];exact e
 let tu:∀ b xs,H b=Ψ (.tup xs)->oT H a (.frz o (.dT Z6)) b=Ψ (.tup xs):=λb xs e=>by rw[nZ (ne e (λz=>nomatch z))];exact e
 exact I.un (t':=s.toks) (h':=s.heap) ⟨λb o' e _ _ _=>e,λb o' e _ _ _=>⟨o'.slots,e⟩,λb o' e n _=>?_,λb o' e _=>⟨o',e⟩,tu,λb o' u e=>?_,λb ps e=>?_⟩ λb u e=>?_
 ·rw[nZ (λz=>by subst z;rw[h] at n;cases n)];exact n
 ·rw[nZ (ne e (λz=>nomatch z))];exact e
 ·exact⟨#[],by rw[nZ (ne e (λz=>nomatch z)),Array.append_empty];exact e⟩
 ·by_cases z:b=a
  ·subst z
   rw[n5] at e;cases e
   exact⟨ho,(I.hok b _ h).stay (λ_ _ _ q=>q) (λc e=>ow c b e) tu⟩
  ·rw[nZ z] at e
   exact (I.hok b u e).stay (λ_ _ _ q=>q) (λc e=>ow c b e) tu
end
abbrev MZ (a:nP)(o:Obj)(Z6:List (List (Int ⊕ Option Str)×V)):It :=
 ⟨λi H=>H a=Ψ (.frz o (.dT Z6))/\i<Z6.length,λi H v H'=>H'=H/\∃ b p,v=.ref b/\Z6[i]?=Ψ p/\H b=Ψ (.tup (p.1.map kV)),λi H=>H a=Ψ (.frz o (.dT Z6))/\Z6.length<=i⟩
def vp {P:mX}{w:nC}{H:Hp}{h:nM}{a:nP}{Z6:List (List (Int ⊕ Option Str)×V)}(x:ObjOk P w H h a (.dT Z6)):∃ o es ep,h.get? a=Ψ o/\o.data=.dict es ep/\EntAt h a es ep/\es.size=Z6.length/\(a == sysModules)=Ξ/\∀ (i:Nat)(hi:i<es.size) p,Z6[i]?=Ψ p->∃ b,es[i].key=.ref b/\H b=Ψ (.tup (p.1.map kV)):=by
 let(_,y,xs,r,o,es,ep,h1,h2,h3,h4,_):=x
 let hl:Z6.length=xs.length:=r.length
 let hs:es.size=xs.length:=by rw[<- dk,h4,iK]
 exact⟨o,es,ep,h1,h3,⟨o,h1,h2,h3⟩,⋯,y,λi hi p hp=>?_⟩
 let hx:i<xs.length:=⋯
 let key:∀ {l:List (List (Int ⊕ Option Str)×V)}{m:List (List (Int ⊕ Option Str)×nP×nE)},nq (λ(p:List (Int ⊕ Option Str)×V)(q:List (Int ⊕ Option Str)×nP×nE)=>p.1=q.1/\H q.2.1=Ψ (.tup (p.1.map kV))/\RelV p.2 q.2.2) l m->∀ (i:Nat) p q,l[i]?=Ψ p->m[i]?=Ψ q->H q.2.1=Ψ (.tup (p.1.map kV)):=by
  intro l m z
  induction z with
  | nil=>intro i p q h;simp at h
  | @cons p0 q0 ps qs hq t ih =>
   intro i p q e1 e2
   cases i with
   | zero=>simp at e1 e2;subst e1;subst e2;exact hq.2.1
   | succ i=>simp at e1 e2;exact ih i p q e1 e2
 exact⟨xs[i].2.1,?_,key r i p xs[i] hp (by simp[hx])⟩
 let e:es.toList[i]'(by simpa using hi)=entryOfKey (tupleKind (oI P w)) xs[i]:=by simp![h4,List.getElem_map]
 rw[<- cR (h:=hi),e];rfl
def Bx {P:mX}{w:nC}{K:kP}{tg:Expr}{o:Obj}{Z6:List (List (Int ⊕ Option Str)×V)}{es:Array mF}{ep:Nat}(a it:nP)(hd:o.data=.dict es ep)(hz:es.size=Z6.length):Turn P w K tg (MZ a o Z6) [it] it (λi h=>h.IsKeyIter it a i es.size ep) where
 mem:=∅
 obj:=λi h st b hb=>by
  let e:b=it:=by simpa using hb
  subst e
  let(o,e,c,d):=st
  exact⟨o,e,λv z=>by rw[d] at z;cases z⟩
 keep:=λi h h' st k=>st.at λo e=>k it ∅ o e
 item:=by
  intro X hP hw hK hc i Z9 s σ H E I hf st hg
  subst hP hw hK
  let(e0,hi):=hg
  let(q1,q2):=(show ObjOk X.prog X.w H s.heap a (.frz o (.dT Z6)) from I.hok a _ e0)
  let(o',es',ep',f1,f2,f3,f4,f5,f6):=vp q2
  rw[q1] at f1;cases f1
  rw[hd] at f2;cases f2
  let(f0,g1,g2,g3,g4,g5):=hf it ∅
  let hi':i<es.size:=⋯
  let(b,k1,k2):=f6 i hi' Z6[i] (by simp[hi])
  exact Dk st f3 hi' λh' st' sb=>?_
  let I1:Inv X Z9 σ H { s with heap:=h' }:=I.turned (t':=s.toks) (λb o hb e=>(sb.2 b hb).trans e) f0 g1 g3 g4 g5
  let(o2,e,c,d):=id st'
  rw[k1]
  exact⟨_,rfl,A1 (s:={ s with heap:=h' }) e c d (·) ⟨.ref b,H,I1,rfl,⟨rfl,b,Z6[i],rfl,by simp[hi],k2⟩,st',λb hb=>(hf b hb).1⟩⟩
 done:=by
  intro X hP hw hK hc i Z9 s σ H E I hf st hg
  subst hP hw hK
  let(e0,hi):=hg
  let(q1,q2):=(show ObjOk X.prog X.w H s.heap a (.frz o (.dT Z6)) from I.hok a _ e0)
  let(o',es',ep',f1,f2,f3,f4,f5,f6):=vp q2
  rw[q1] at f1;cases f1
  rw[hd] at f2;cases f2
  let(f0,g1,g2,g3,g4,g5):=hf it ∅
  exact F7 (I.ok.hd hc) st f3 ⋯ λh' eb=>⟨rfl,I.turned (t':=s.toks) (λb o hb e=>eb b o hb e) f0 g1 g3 g4 g5⟩
 self:=λ_ _ _ _ _ st h=>wpAny_pyIter_keyiter st h
def E6 {X:Cx}{tg it:Expr}{te:TE}(h:PE X it te):PI X tg it (λσ H R=>te σ H λv H1=>∃ a Z6,v=.ref a/\((H1 a=Ψ (.dT Z6)/\∀ o,R (MZ a o Z6) (oT H1 a (.frz o (.dT Z6)))) ∨ ∃ o,H1 a=Ψ (.frz o (.dT Z6))/\R (MZ a o Z6) H1)):=by
 intro Z9 s σ H R I hh
 exact oX (h Z9 s σ H _ I hh) λv s1 q1=>?_;let(x,H1,I1,r1,a,Z6,e,q):=q1
 subst e
 cases r1
 let one:∀ (o:Obj)(H2:Hp),Inv X Z9 σ H2 s1->H2 a=Ψ (.frz o (.dT Z6))->R (MZ a o Z6) H2->wpAny (model X.prog X.w) X.A (pyIter (.ref a)) (PIE X Z9 σ tg R) X.xe s1:=by
  intro o H2 I2 e2 q
  let(q1,q2):=(show ObjOk X.prog X.w H2 s1.heap a (.frz o (.dT Z6)) from I2.hok a _ e2)
  let(o',es,ep,f1,f2,f3,f4,f5,f6):=vp q2
  rw[q1] at f1;cases f1
  exact DD f5 f3 ?_
  exact⟨s1.heap.objs.size,[s1.heap.objs.size],_,_,H2,rfl,I2.kept (t':=s1.toks) λb o e=>bS _ e,Bx a _ f2 f4,⟨_,dc _ rfl,rfl,rfl⟩,λb hb=>?_,q⟩
  let e:b=s1.heap.objs.size:=by simpa using hb
  subst e
  exact I2.fpOk (lJ _) (I2.hok.fresh (lJ _))
 rcases q with⟨e1,q⟩|⟨o,e1,q⟩
 ·let(o,es,ep,f1,f2,_):=vp (show ObjOk X.prog X.w H1 s1.heap a (.dT Z6) from I1.hok a _ e1)
  exact one o _ (yA I1 e1 f1) n5 (q o)
 ·exact one o H1 I1 e1 q
def tz {α β:Type}{f:α->β}:∀ {l':List β}{m:List β},l'.Perm m->∀ l:List α,m=l.map f->∃ l2:List α,l2.Perm l/\l'=l2.map f:=by
 intro l' m h
 induction h with
 | nil=>intro l e;exact⟨[],by cases l with|nil=>exact .refl _|cons=>simp at e,rfl⟩
 | @cons x l1 l2 p ih =>
  intro l e
  cases l with
  | nil=>simp at e
  | cons a r =>
   simp at e
   let(q,h1,h2):=ih r e.2
   exact⟨a :: q,h1.cons a,by rw[kn,<- e.1,<- h2]⟩
 | swap x y t =>
  intro l e
  rcases l with _|⟨a,_|⟨b,r⟩⟩
  ·simp at e
  ·simp at e
  ·simp at e
   let(rfl,rfl,rfl):=e
   exact⟨b :: a :: r,.swap a b r,rfl⟩
 | trans p q ih1 ih2 =>
  intro l e
  let(m2,h1,h2):=ih2 l e
  let(m3,h3,h4):=ih1 m2 h2
  exact⟨m3,h3.trans h1,h4⟩
abbrev uj (xs:Array Nat):Prop:=∀ i j (hi:i<xs.size)(hj:j<xs.size),i<j->xs[i]<xs[j]
abbrev GT (xs:Array Nat) (j r:Nat):Prop:=r<=xs.size/\(∀ k (h:k<xs.size),k<r->xs[k]<j)/\∀ k (h:k<xs.size),r<=k->j<=xs[k]
def vC {xs:Array Nat}{j:Nat}(rs:uj xs):∀ (f lo hi:Nat),hi<=xs.size->lo<=hi->hi-lo<=f->(∀ k (h:k<xs.size),k<lo->xs[k]<j)->(∀ k (h:k<xs.size),hi<=k->j<=xs[k])->GT xs j (eW xs j f lo hi)
 | 0,lo,hi,h1,h2,h3,a,b=>by
  let e:lo=hi:=⋯
  subst e
  exact⟨h1,a,b⟩
 | f+1,lo,hi,h1,h2,h3,a,b=>by
  unfold eW
  by_cases h:lo<hi
  ·rw[if_pos h]
   let hm:(lo+hi) / 2<xs.size:=⋯
   dsimp only
   rw[aA,bg hm,ga]
   by_cases q:xs[(lo+hi) / 2]<j
   ·rw[if_pos q]
    exact vC rs f _ _ h1 ⋯ ⋯ (λk hk hl=>?_) b
    by_cases e:k=(lo+hi) / 2
    ·subst e;exact q
    ·exact Nat.lt_trans (rs k _ hk hm ⋯) q
   ·rw[if_neg q]
    exact vC rs f _ _ ⋯ ⋯ ⋯ a λk hk hl=>?_
    by_cases e:k=(lo+hi) / 2
    ·subst e;lia
    ·have:=rs _ k hm hk ⋯;lia
  ·rw[if_neg h]
   let e:lo=hi:=⋯
   subst e
   exact⟨h1,a,b⟩
def qB {xs:Array Nat}(rs:uj xs) (j:Nat):GT xs j (jh xs j):=by
 unfold jh
 exact vC rs _ _ _ (lJ _) (lH _) ⋯ (λk _ h=>absurd h (iq _)) λk h1 h2=>absurd h1 ⋯
def pL {α:Type}(xs:Array α) (p:Nat)(x:α)(hp:p<=xs.size):(eV xs p x).toList=xs.toList.take p++x :: xs.toList.drop p:=by
 unfold eV
 simp
 exact bM ∅
def rise_list {xs:Array Nat}:uj xs↔xs.toList.Pairwise (· < ·):=by
 rw[aO]
 constructor
 ·intro h i j hi hj l
  simpa using h i j (by simpa using hi) (by simpa using hj) l
 ·intro h i j hi hj l
  have:=h i j (by simpa using hi) (by simpa using hj) l
  rwa [cR,cR] at this
def yC {xs:Array Nat}{j:Nat}(rs:uj xs)(ne:xs[jh xs j]?≠Ψ j):uj (eV xs (jh xs j) j):=by
 let(h1,h2,h3):=qB rs j
 rw[rise_list,pL _ _ _ h1,cE]
 let rl:=rise_list.mp rs
 exact⟨rl.sublist (fj _ _),dJ.mpr ⟨λy hy=>?_,rl.sublist (fy _ _)⟩,λx hx y hy=>?_⟩
 ·let(i,hi,e):=cI.mp hy
  simp at hi e
  let hb:jh xs j+i<xs.size:=⋯
  let g:=h3 _ hb ⋯
  rw[e] at g
  rcases Nat.lt_or_ge j y with l|l
  ·exact l
  ·let e2:y=j:=by lia
   exfalso
   by_cases z:i=0
   ·subst z
    apply ne
    rw[bg ⋯]
    simp at e
    rw[e,e2]
   ·let hb0:jh xs j<xs.size:=by lia
    let g0:=h3 _ hb0 (lJ _)
    let g1:=rs _ _ hb0 hb ⋯
    rw[e] at g1;lia
 ·let(i,hi,e):=cI.mp hx
  simp at hi e
  let gx:=h2 i ⋯ ⋯
  rw[e] at gx
  rcases kj.mp hy with rfl|hy
  ·exact gx
  ·let(k,hk,e'):=cI.mp hy
   simp at hk e'
   let g:=h3 _ (show jh xs j+k<xs.size by lia) ⋯
   rw[e'] at g;lia
def has_none (j:Nat):kM #[] j=Ξ:=by
 unfold kM
 rfl
noncomputable abbrev freshSet (w:nC):Obj:={ cls:=.type "set",dict:=Φ,data:=.set #[] 0 (.fresh 0 0 (!w.params.followText "set-order")) }
end Kq
namespace L2
open PySem PySem.Spec PyProof.Rows
abbrev xu (Z3:Expr)(Z8:nE)(env:Env)(c:nO):Sem Fin:=do
 (do let v <- eval Z3 env;standAt Z3.pos;let _ <- call (.builtin "set.add") [Z8,v])
 again c
def Dl {prog:mX}{w:nC}{A:nB}{E:nE->nh->Prop}{s:nh}{Q:nE->nh->Prop}(q:Q (.ref s.heap.objs.size) { s with heap:=s.heap.push (Kq.freshSet w) }):wpAny (model prog w) A (newSet (.type "set")) Q E s :=
 lR (lR (fW (lP (lR (wpAny_alloc (lP q))))))
end L2
namespace Kq
open PySem PySem.Spec PyProof.Rows L2
abbrev pP:List FV->Option (List (Option Int))
 | []=>Ψ []
 | .int i :: r=>(pP r).map (Ψ i :: ·)
 | .non :: r=>(pP r).map (Φ :: ·)
 | _=>Φ
abbrev oV:Option Int->V
 | some i=>.int i
 | none=>.non
def GI (x:Option Int):kV (oK x)=oV x:=by cases x<;>rfl
def Ib {a b:Option Int}(h:oK a=oK b):a=b:=by
 cases a<;>cases b<;>first|rfl|cases h
 rfl
def Di {a b:List (Option Int)}(h:a.map oK=b.map oK):a=b:=by
 induction a generalizing b with
 | nil=>cases b with|nil=>rfl|cons=>cases h
 | cons x r ih=>cases b with
  | nil=>cases h
  | cons y q =>
   simp![kn,iP] at h
   rw[Ib h.1,ih h.2]
def BJ {K:kP}{S:Hp}{ps:List FV}:∀ {xs:List V}{k:List (Option Int)},RVs K S ps xs->pP ps=Ψ k->xs=k.map oV:=by
 induction ps with
 | nil=>intro xs k r e;cases e;exact r
 | cons p ps ih =>
  intro xs k r e
  let(v,q,rfl,h1,h2):=r
  cases p with
  | int i =>
   let(k',e1,rfl):=rW (show (pP ps).map (Ψ i :: ·)=Ψ k from e)
   cases (show v=.int i from h1)
   rw[ih h2 e1];rfl
  | non =>
   let(k',e1,rfl):=rW (show (pP ps).map (Φ :: ·)=Ψ k from e)
   cases (show v=.non from h1)
   rw[ih h2 e1];rfl
  | _=>exact absurd (show (Φ:Option (List (Option Int)))=Ψ k from e) ∅
def vh:∀ (ks:List (List (Option Int)))(us:List V)(k:List (Option Int)),rO ((pI ks).zip us) (k.map oK)=pv ks us k
 | [],us,k=>by cases us<;>rfl
 | k' :: ks,[],k=>rfl
 | k' :: ks,u :: us,k=>by
  show rO ((k'.map oK,u) :: (pI ks).zip us) (k.map oK)=if k'=k then Ψ u else pv ks us k
  by_cases e:k'=k
  ·subst e;rw[qU rfl,if_pos rfl]
  ·rw[qV λz=>e (Di z),if_neg e];exact vh ks us k
def xZ (ks:List (List (Option Int)))(us:List V)(k:List (Option Int))(u:V)(hl:ks.length=us.length):qm ((pI ks).zip us) (k.map oK) u=(pI (oB ks us k u).1).zip (oB ks us k u).2:=by
 let hany:(((pI ks).zip us).any λkv=>Δ (kv.1=k.map oK))=Ω↔k∈ks:=by
  rw[rR,vh,p5 k hl]
 unfold qm oB
 by_cases e:k∈ks
 ·rw[if_pos (hany.mpr e),if_pos e]
  clear e hany
  induction ks generalizing us with
  | nil=>cases us<;>rfl
  | cons k' ks ih=>cases us with
   | nil=>rfl
   | cons u' us =>
    have:=ih us (by simpa using hl)
    show (if k'.map oK=k.map oK then (k'.map oK,u) else (k'.map oK,u')) :: ((pI ks).zip us).map _=(k'.map oK,if k'=k then u else u') :: (pI ks).zip _
    rw[this]
    congr 1
    by_cases e:k'=k
    ·subst e;simp
    ·rw[if_neg λz=>e (Di z),if_neg e]
 ·rw[if_neg λz=>e (hany.mp z),if_neg e]
  show _=(pI (ks++[k])).zip (us++[u])
  have:pI (ks++[k])=pI ks++[k.map oK]:=by simp[pI]
  rw[this,iw (by simpa[pI] using hl)];rfl
def xj {K:kP}{S:Hp}{ps:List FV}{k:List (Option Int)}{x:V}(r:RV K S (.tup ps) x)(e:pP ps=Ψ k):∃ b,x=.ref b/\S b=Ψ (.tup ((k.map oK).map kV)):=by
 let(b,xs,rfl,h1,h2):=r
 exact⟨b,rfl,?_⟩
 rw[h1,BJ h2 e,k9]
 congr 2
 exact c8 λx _=>(GI x).symm
abbrev r9 (n m:Nat)(tg:Tg)(t:BW)(ek ev:EW):List FV->List (List (Option Int))->List FV->nT->(List (List (Option Int))->List FV->nT->Prop)->Prop
 | [],ks,vs,L,Q=>Q ks vs L
 | x :: xs,ks,vs,L,Q=>gW tg x (L++jt m Φ) λL1=>t L1 λb L2=>if b=Ω then ek L2 λkx L3=>wp (qP kx) λps=>wp (pP ps) λk=>ev L3 λv L4=>r9 n m tg t ek ev xs (oB ks vs k v).1 (oB ks vs k v).2 (L4.take n) Q else r9 n m tg t ek ev xs ks vs (L2.take n) Q
abbrev xx (n m:Nat)(it:AW)(tg:Tg)(t:BW)(ek ev:EW):EW:=λL Q=>it L λxs L1=>L1.length=n/\xs.length<=big/\r9 n m tg t ek ev xs [] [] L1 λks vs L2=>Q (.dcn Φ ks vs) L2
section
variable {K:kP}{c:Cn}{md:Md}{L:nT}{σ:L2.St}{S H:Hp}
def Cd {J:It}{xs:List FV}{n m:Nat}{tg:Tg}{t:BW}{ek ev:EW}{Q:VK}{Q1:List (List (Option Int))->List FV->nT->Prop}(I:Iv K c md L σ S H)(hJ:Cr K c md J xs S)(hL:L.length=n)(hmd:md.length<=n)(ht:qW md tg=Ω)(hg:uI n tg=Ω)(hb:xs.length<=big)(h:r9 n m tg t ek ev xs [] [] L Q1)
  (k:∀ Z8 ks vs us L' S' H',H Z8=Φ->Q1 ks vs L'->S' Z8=Φ->H' Z8=Ψ (.dT ((pI ks).zip us))->ks.length=vs.length->RVs K S' vs us->sk c md L' σ Z8->Iv K c md L' σ S' H'->Same S S'->Q (.ref Z8) H') :
  ∀ Z8,H Z8=Φ->∃ W:Nat->Nat->Hp->Prop,(∃ m,W 0 m (oT H Z8 (.dT [])))/\∀ i j H,W i j H ->
   (J.stop i H/\Q (.ref Z8) H) ∨ (J.go i H/\∀ x H',J.yld i H x H'->gT K tg x (σ++jt m Φ) H' λσ2 H2=>Wk (σ++jt m Φ) σ2/\lb K md t σ2 H2 λb H3 =>
    if b=Ω then N8 (lv K md ek) (lv K md ev) Z8 σ2 H3 λH4=>∃ m',m'<j/\W (i+1) m' H4 else ∃ m',m'<j/\W (i+1) m' H3):=by
 intro Z8 hacc
 let h0:=I.h0 hacc
 let hp:∀ p∈c.pr,p.1≠Z8:=(I.fresh hacc).2.1
 let hz:=I.fzp
 let hbl:=ph
 exact sC (α:=List (List (Option Int))×List FV) (β:=List (List (Option Int))×List V) (fr:=λb=>{ c with pr:=(Z8,.dT ((pI b.1).zip b.2)) :: c.pr }) (P:=λa b S=>a.1=b.1/\a.1.length=a.2.length/\RVs K S a.2 b.2) (N:=λa=>a.1.length) (Cm:=λxs a L=>r9 n m tg t ek ev xs a.1 a.2 L Q1) (em:=λa L3 K'=>ek L3 λkx L4=>wp (qP kx) λps=>wp (pP ps) λk=>ev L4 λv L5=>K' (oB a.1 a.2 k v) L5) (a0:=([],[])) (b0:=([],[])) ((I.lay hacc _).prot n5 (I.sn hacc) λj w hm hj=>(I.fresh hacc).2.2 j w (Mo.w_imm hm) hj) hJ hL hmd ht hg ⟨rfl,rfl,rfl⟩ rfl h (λ_ _ _ _ _ _ I _=>I.unprot hz) (λ_ _ _ _ ⟨e,l,r⟩ s=>⟨e,l,r.mono s⟩) (λ_ _ _ _ h=>h) (λ⟨ks,vs⟩ ⟨ks',us⟩ L3 σ2 S3 H3 K' Z hn I3 ⟨e,hkl,r⟩ hv kz=>?_) λ⟨ks,vs⟩ ⟨ks',us⟩ L' S' H' q I' ⟨e,hkl,r⟩ s'=>?_
 ·cases (show ks=ks' from e)
  dsimp only at hn hkl r
  exact⟨_,L3,S3,_,I3,hv,λkx L4 hk u S4 H4 r4 I4 s4=>?_⟩
  let(ps,e1,hk1):=oS hk
  let(kk,e2,hk2):=oS hk1
  cases pN e1
  let(b,rfl,hb4):=xj r4 e2
  exact⟨_,L4,S4,_,I4,hk2,λv L5 hv u S5 H5 r5 I5 s5=>?_⟩
  let lr:=r.length
  let(pe,pr):=qY (ks:=ks) (k:=kk) (r.mono (s4.trans s5)) r5
  let(pl1,pl2):=qG ks vs kk v hkl
  exact⟨_,kk.map oK,b,(I5.prs (Z8,_) dO).1,rfl,I5.sub _ _ (s5 _ _ hb4),by rw[iH,show (pI ks).length=ks.length by simp[pI]];lia,?_⟩
  rw[xZ ks us kk u ⋯]
  exact kz _ (oB ks us kk u) L5 S5 _ hv (I5.regrow h0 hp hz) ⟨pe,pl1,pr⟩ (s4.trans s5) pl2
 ·cases (show ks=ks' from e)
  let(g1,g2,f):=I'.newPr h0 hp hz
  exact k Z8 ks vs us L' S' H' hacc q g2 g1 hkl r f (I'.unprot hz) s'
end
abbrev zW (v w:FV):Option FV:=match v with
 | .dcn _ ks vs=>(qP w).bind λps=>(pP ps).bind λk=>pv ks vs k
 | _=>Φ
abbrev B9 (v j x:FV):Option FV:=match v with
 | .dcn Φ ks vs=>(qP j).bind λps=>(pP ps).bind λk=>if ks.length<big then Ψ (.dcn Φ (oB ks vs k x).1 (oB ks vs k x).2) else Φ
 | _=>Φ
abbrev CQ (k:Nat)(i e:EW):SW:=λL Q=>wp (lk L k) λ_=>e L λx L1=>i L1 λj L2=>wp (lk L2 k) λy=>wp (B9 y j x) λz=>Q .next (L2.set k (Ψ z))
abbrev Am (f:Int->Int->Int) (k:Nat)(i e:EW):SW:=λL Q=>wp (lk L k) λ_=>i L λj L1=>wp (lk L1 k) λv=>wp (zW v j) λx0=>wp (qx x0) λa=>e L1 λx L2=>wp (qx x) λb=>wp (lk L2 k) λw=>wp (B9 w j (.int (f a b))) λz=>Q .next (L2.set k (Ψ z))
section
variable {K:kP}{S H:Hp}{c:Cn}{md:Md}{L:nT}{σ:L2.St}
def RH.dcn {z:Option Obj}{ks:List (List (Option Int))}{vs:List FV}{x:V}(hs:Same S H)(r:RH K S H (.dcn z ks vs) x):∃ a us,x=.ref a/\ks.length=vs.length/\H a=Ψ (Ny (.dT ((pI ks).zip us)) z)/\RVs K S vs us:=by
 rcases r with⟨a,xs,e,h0,h1,h2⟩|⟨a,e,_,qs,xs,e2,h1,h2⟩
 ·exact⟨a,xs,e,h0,hs _ _ h1,h2⟩
 ·let(hl,rfl):=qM e2
  exact⟨a,xs,e,hl,h1,h2⟩
def Hl {H:Hp}{a:nP}{u:HO}{z:Option Obj}(h:H a=Ψ (Ny u z)):Rd H a u:=by
 cases z with
 | none=>exact .inl h
 | some o=>exact .inr ⟨o,h⟩
def A9 {v w z:FV}{x y:V}(hs:Same S H)(rv:RH K S H v x)(rw':RH K S H w y)(e:zW v w=Ψ z):∃ a u,x=.ref a/\L2.DGet H a y (Ψ u)/\RV K S z u:=by
 cases v with
 | dcn o ks vs =>
  let(ps,e1,e2):=p7 e
  let(k,e3,e4):=p7 e2
  cases pN e1
  let(a,us,rfl,hl,h1,h2):=rv.dcn hs
  let(b,rfl,hb):=xj (rw'.val rfl) e3
  let(u,g1,g2):=tN h2 e4
  exact⟨a,u,rfl,?_,g2⟩
  rw[<- g1,<- vh]
  exact .inr ⟨_,_,b,Hl h1,rfl,hs _ _ hb,rfl⟩
 | _=>cases e
def A8 {i:Nat}{v j x z:FV}{a:nP}{y u:V}(I:Iv K c md L σ S H)(m:nW md i=.own)(e:L[i]?=Ψ (Ψ v))(e1:σ[i]?=Ψ (Ψ (.ref a)))(rj:RV K S j y)(rx:RV K S x u)(h:B9 v j x=Ψ z):∃ H',L2.DPut H a y u H'/\Iv K c md (L.set i (Ψ z)) σ S H':=by
 let(a',f1,(o1,ps,us,e9,o2,o3),_):=I.own i v (λz=>by rw[m] at z;cases z) e
 rw[e1] at f1;cases f1
 let hbl:=ph
 cases v with
 | dcn o ks vs =>
  cases o with
  | some o=>cases h
  | none =>
   let(qs,g1,h):=p7 h
   let(k,g2,h):=p7 h
   let(hb,rfl):=qM h
   let(hl,rfl):=qM e9
   cases pN g1
   let(b,rfl,hkb):=xj rj g2
   let hu:ks.length=us.length:=by rw[hl,o3.length]
   let(p1,p2):=qY (ks:=ks) (k:=k) o3 rx
   exact⟨_,.t o2 (I.sub _ _ hkb) (by simp[pI];lia),?_⟩
   rw[xZ ks us k u hu,<- p1]
   exact I.writeV (w:=.dcn Φ _ _) m e e1 (if_pos (qG ks _ k x hl).1) p2
 | _=>cases h
end
section
variable {X:Cx}{C:CC}{n:Nat}{sp:kP->Nat->Sp}{fr:Bool}{a b:Expr}{ea eb:EW}{pos p px:Pos}{i:Nat}{nx:Str}
def N1 (G:Good X C n sp)(hs:qg b=Ξ)(h:C.nm i nx=Ω)(hb:FR X C b eb):FE X C (.Subscript (.Name nx p) b pos) (qk zW i eb):=PE.imp (wX (X:=X.nox) (by have:=G.room.units;show X.A.units+1<cLine;lia) (o7 G h) hb (tx hs)) λσ H Q q1=>by
 let(c,L,S,Q0,I,h,k):=q1
 let(v0,e,h):=oS h
 let(x,e1,_):=I.rd e
 exact⟨x,e1,c,L,S,_,I,h,λw L2 hw y S2 H2 r2 I2 s2=>?_⟩
 let(v,e2,q):=oS hw
 let(x',e3,r1):=I2.rd e2
 rw[e1] at e3;cases e3
 let(z,e4,q):=oS q
 let(a,u,rfl,g,r5):=A9 I2.sub r1 r2 e4
 exact⟨a,u,rfl,g,k z L2 q u S2 H2 r5 I2 s2⟩
def L9 (G:Good X C n sp)(hn:C.nm i nx=Ω)(m:nW C.md i=.own)(hc:(!rX a && !qg b)=Ω)(ha:FE X C a ea)(hb:FE X C b eb):FS X C fr (.Assign [.Subscript (.Name nx px) b p] a pos) (CQ i eb ea):=by
 let hc:=b2 hc
 exact PS.imp (As (X:=X.nox) (by have:=G.room.units;show X.A.units+1<cLine;lia) (o7 (pos:=px) G hn) hb ha (qX (nb hc.1))) λD σ H ⟨c,L,S,Q0,I,h,k⟩=>?_
 let mi:nW C.md i≠.imm:=λz=>by rw[m] at z;cases z
 let(v0,e,h):=oS h
 let(l,e1,_):=I.own i v0 mi ((oZ _ _ _).mp e)
 exact⟨c,L,S,_,I,h,λv L1 q x S1 H1 r1 I1 s1=>⟨_,e1,c,L1,S1,_,I1,q,λw L2 q y S2 H2 r2 I2 s2=>?_⟩⟩
 let(v1,e2,q2):=oS q
 let(z,e3,q3):=oS q2
 let e2:=(oZ _ _ _).mp e2
 let(H3,g,I3):=A8 I2 m e2 e1 r2 (r1.mono s2) e3
 exact⟨l,H3,rfl,g,k .next _ q3 σ S2 _ I3 (s1.trans s2)⟩
def Kc {op:mR}{f:Int->Int->Int}(hop:M3 X.nox op (ipI f))(G:Good X C n sp)(hn:C.nm i nx=Ω)(m:nW C.md i=.own)(hs:qg b=Ξ)(hb:FE X C b eb)(ha:FE X C a ea):FS X C fr (.AugAssign (.Subscript (.Name nx px) b p) op a pos) (Am f i eb ea):=by
 exact PS.imp (EZ (X:=X.nox) (by have:=G.room.units;show X.A.units+1<cLine;lia) (o7 (pos:=px) G hn) hb ha hop (by cases b<;>first|(intros;rfl)|cases hs)) λD σ H ⟨c,L,S,Q0,I,h,k⟩=>?_
 let mi:nW C.md i≠.imm:=λz=>by rw[m] at z;cases z
 let(v0,e,h):=oS h
 let(l,e1,_):=I.own i v0 mi ((oZ _ _ _).mp e)
 exact⟨_,e1,c,L,S,_,I,h,λj L1 q y S1 H1 r1 I1 s1=>?_⟩
 let(v1,e2,q):=oS q
 let(x0,e3,q):=oS q
 let(a0,e4,q):=oS q
 let(x',f1,rv):=I1.rd e2
 rw[e1] at f1;cases f1
 let(a',u,ea',g,r3):=A9 I1.sub rv (.inl r1) e3
 cases ea'
 exact⟨_,u,rfl,g,c,L1,S1,_,I1,q,λx L2 q y2 S2 H2 r2 I2 s2=>?_⟩
 let(b0,e5,q5):=oS q
 let(w,e6,q6):=oS q5
 let(z,e7,q7):=oS q6
 clear q
 cases oU e4
 cases oU e5
 cases (show u=V.int a0 from r3)
 cases (show y2=V.int b0 from r2)
 exact⟨a0,b0,rfl,rfl,?_⟩
 let(H3,g3,I3):=A8 I2 m ((oZ _ _ _).mp e6) e1 (r1.mono s2) (x:=.int (f a0 b0)) (u:=V.int (f a0 b0)) rfl e7
 exact⟨H3,g3,k .next _ q7 σ S2 _ I3 (s1.trans s2)⟩
def NJ (G:Good X C n sp)(hn:C.nm i nx=Ω)(m:nW C.md i=.own)(hs:qg b=Ξ)(hb:FE X C b eb)(ha:FE X C a ea):FS X C fr (.AugAssign (.Subscript (.Name nx px) b p) .Sub a pos) (Am (λi j=>i-j) i eb ea):=Kc IB G hn m hs hb ha
end
section
variable {X:Cx}{Z9 pins0:List (nP×Obj)}{σ σ0:L2.St}{H H0:Hp}{s s0:nh}{a:nP}
def DI {Z6 kvs0:List (List (Int ⊕ Option Str)×V)}{o:Obj}(I0:Inv X pins0 σ0 H0 s0)(h0:H0 a=Ψ (.dT kvs0))(I:Inv X Z9 σ H s)(h:H a=Ψ (.frz o (.dT Z6))):Inv X Z9 σ (oT H a (.dT Z6)) s:=by
 let ne:∀ {b:nP}{u:HO},H b=Ψ u->u≠.frz o (.dT Z6)->b≠a:=λe n z=>by subst z;rw[h] at e;exact n (ip e).symm
 let none':∀ {b:nP},H b=Φ->oT H a (.dT Z6) b=Φ:=λ{b} e=>by rw[nZ (λz=>by subst z;rw[h] at e;cases e)];exact e
 let ow:∀ b c,H b=Ψ (.own c)->oT H a (.dT Z6) b=Ψ (.own c):=λb c e=>by rw[nZ (ne e (λz=>nomatch z))];exact e
 let tu:∀ b xs,H b=Ψ (.tup xs)->oT H a (.dT Z6) b=Ψ (.tup xs):=λb xs e=>by rw[nZ (ne e (λz=>nomatch z))];exact e
 exact⟨I.ok,I.os,I.bare,⟨I.base.keep,I.base.slot,λb o e n hx=>none' (I.base.free b o e n hx),I.base.there,λb xs e=>tu b xs (I.base.tups b xs e),λb o' u e=>?_,λb ps e=>?_⟩,I.loc,I.cell,none' I.free,λx c e=>none' (I.freeC x c e),λp hp=>?_,λb u e=>?_,I.len⟩
 ·let g:=I.base.frzs b o' u e
  rw[nZ λz=>by subst z;rw[I0.base.frzs b o' u e] at h0;cases h0];exact g
 ·let(more,g):=I.base.tbls b ps e
  exact⟨more,by rw[nZ (ne g (λz=>nomatch z))];exact g⟩
 ·let(g1,g2,g3):=I.pin p hp
  exact⟨g1,none' g2,g3⟩
 ·by_cases z:b=a
  ·subst z
   rw[n5] at e;cases e
   let(_,q):=(show ObjOk X.prog X.w H s.heap b (.frz o (.dT Z6)) from I.hok b _ h)
   exact q.stay (λ_ _ _ q=>q) (λc e=>ow c b e) tu
  ·rw[nZ z] at e
   exact (I.hok b u e).stay (λ_ _ _ q=>q) (λc e=>ow c b e) tu
def EX {st:nL}{t:TS}(hs:PS X st t):PS X st (λD σ H=>∃ a Z6,H a=Ψ (.dT Z6)/\∀ o,t ⟨λσ' H2=>∃ kvs2,H2 a=Ψ (.frz o (.dT kvs2))/\D.nx σ' (oT H2 a (.dT kvs2)),λ_ _=>False,λ_ _=>False,λ_ _=>False⟩ σ (oT H a (.frz o (.dT Z6)))):=by
 intro Z9 s σ H D I ⟨a,Z6,h,hh⟩
 let(o,es,ep,f1,f2,_):=vp (show ObjOk X.prog X.w H s.heap a (.dT Z6) from I.hok a _ h)
 exact lQ (hs Z9 s σ _ _ (yA I h f1) (hh o)) (λfl s1 q=>?_) λ_ _ z=>z
 cases fl with
 | next =>
  let(σ',H2,I2,kvs2,h2,q):=q
  exact⟨σ',_,DI I h I2 h2,q⟩
 | brk=>let(_,_,_,z):=q;exact z.elim
 | cont=>let(_,_,_,z):=q;exact z.elim
 | ret u=>let(_,_,_,_,_,z):=q;exact z.elim
end
abbrev GZ (j:Nat)(Q:FFl->nT->Prop)(L1:nT):FV->Prop
 | .dcn (Ψ _) ks' vs'=>Q .next (L1.set j (Ψ (.dcn Φ ks' vs')))
 | _=>False
abbrev G0 (j:Nat)(Q:FFl->nT->Prop)(fl:FFl)(L1:nT):Prop:=match fl with
 | .next=>wp (lk L1 j) (GZ j Q L1)
 | _=>False
abbrev G1 (j:Nat)(s:SW)(L:nT)(Q:FFl->nT->Prop):FV->Prop
 | .dcn Φ ks vs=>∀ o,s (L.set j (Ψ (.dcn (Ψ o) ks vs))) (G0 j Q)
 | _=>False
abbrev Hf (j:Nat)(s:SW):SW:=λL Q=>wp (lk L j) (G1 j s L Q)
abbrev oF:Option Int->FV
 | some i=>.int i
 | none=>.non
abbrev DA (k:List (Option Int)):FV:=.tup (k.map oF)
abbrev zL (j:Nat):AW:=λL Q=>wp (lk L j) λv=>match v with
 | .dcn (Ψ _) ks _=>Q (ks.map DA) L
 | _=>False
section
variable {X:Cx}{C:CC}{n:Nat}{sp:kP->Nat->Sp}{tg:Expr}{p:Pos}{i j:Nat}{nx:Str}{fr:Bool}{st:nL}{s:SW}
variable {K:kP}{c:Cn}{md:Md}{S:Hp}
def RVs.os:∀ (k:List (Option Int)),RVs K S (k.map oF) (k.map oV)
 | []=>rfl
 | some i :: k=>⟨_,_,rfl,rfl,RVs.os k⟩
 | none :: k=>⟨_,_,rfl,rfl,RVs.os k⟩
def DG {a:nP}{o:Obj}{ks:List (List (Option Int))}{us:List V}{S1:Hp}(hl:ks.length=us.length)(hp:(a,HO.frz o (.dT ((pI ks).zip us)))∈c.pr):Cr K c md (MZ a o ((pI ks).zip us)) (ks.map DA) S1:=by
 intro i L σ S H I s
 let ha:=(I.prs _ hp).1
 let hz:((pI ks).zip us).length=ks.length:=by rw[iH];simp[pI];lia
 exact⟨λe=>⟨ha,?_⟩,λp ep=>?_⟩
 ·have:=aS.mp e
  rw[iK] at this;lia
 ·rw[fw] at ep
  let(k,ek,rfl):=bK.mp ep
  let hi:=(aR.mp ek).1
  exact⟨⟨ha,⋯⟩,λv H' ⟨eh,b,q,ev,eq,hb⟩=>?_⟩
  subst eh;subst ev
  let hq:q.1=k.map oK:=by
   let(q1,q2):=q
   have:=(aQ.mp eq).1
   rw[pI,fw,ek] at this
   simpa using this.symm
  rw[hq,k9] at hb
  let hb:H' b=Ψ (.tup (k.map oV)):=by rw[hb];congr 2;exact c8 λx _=>GI x
  exact⟨_,(I.tup hb).2,λc md L σ J=>(J.tup hb).1,b,_,rfl,n5,RVs.os k⟩
def Mc (G:Good X C n sp)(h:C.nm i nx=Ω)(m:nW C.md i=.frz):FI X C C.md tg (.Name nx p) (zL i):=PI.imp (E6 (o7 G h)) λσ H R q1=>by
 let(c,L,S,Q0,I,h,k):=q1
 let(v,e,h):=oS h
 let e:=(oZ _ _ _).mp e
 let(l,e1,(o1,qs,us,e2,o2,o3),o4):=I.own i v (λz=>by rw[m] at z;cases z) e
 let(b,g1):=I.fzm i _ m e
 let(ys,g2):=I.fzp _ g1
 let(_,g3,_):=I.fzs _ g1
 rw[e1] at g3;cases g3
 let g4:=(I.prs _ g2).1
 rw[o2] at g4;cases g4
 cases v with
 | dcn o ks vs =>
  cases o with
  | none=>exact h.elim
  | some o =>
   let(hl,rfl):=qM e2
   let hlu:=o3.length
   exact⟨_,e1,_,_,rfl,.inr ⟨o,o2,k _ _ h _ _ S _ I (λ_ _ _ _ J=>J) rfl (DG ⋯ g2) (Same.refl S)⟩⟩
 | _=>exact h.elim
def Ps (G:Good X C n sp)(m:nW C.md j=.own)(hr:Good X (C.wmd (C.md.set j .frz)) n sp->FS X (C.wmd (C.md.set j .frz)) fr st s):FS X C fr st (Hf j s):=PS.imp (EX (hr (G.wmd _))) λD σ H q1=>by
 let(c,L,S,Q0,I,hh,k):=q1
 let(v,e,hh):=oS hh
 let e:=(oZ _ _ _).mp e
 let mi:nW C.md j≠.imm:=λz=>by rw[m] at z;cases z
 let(l,e1,(o1,qs,us,e2,o2,o3),o4):=I.own j v mi e
 cases v with
 | dcn z ks vs =>
  cases z with
  | some o=>exact hh.elim
  | none =>
   let(hl,rfl):=qM e2
   exact⟨l,_,o2,λo=>?_⟩
   let I1:=I.writeV (w:=.dcn (Ψ o) ks vs) m e e1 (if_pos hl) o3
   let hi:=(aR.mp e).1
   let(I2,un):=I1.frz m (bO hi) e1 n5
   exact⟨_,_,S,_,I2,hh o,λfl L1 q σ1 S1 H1 J s1=>?_⟩
   cases fl with
   | next =>
    let(w,e5,q):=oS q
    let e5:=(oZ _ _ _).mp e5
    let J0:=un _ _ _ _ J
    let(_,g1,_):=J.fzs (j,l) dO
    let g2:=(J.prs (l,_) dO).1
    let(l',f1,(p1,qs',us',p2,p3,p4),_):=J0.own j w mi e5
    rw[g1] at f1;cases f1
    cases w with
    | dcn z ks' vs' =>
     cases z with
     | none=>exact q.elim
     | some o' =>
      rw[g2] at p3
      let(hl',rfl):=qM p2
      exact⟨_,g2,?_⟩
      let e6:=ip p3
      injection e6 with e7 e8
      rw[e8]
      exact k .next _ q σ1 S1 _ (J0.writeV (w:=.dcn Φ ks' vs') m e5 g1 (if_pos hl') p4) s1
    | _=>exact q.elim
   | _=>exact q.elim
 | _=>exact hh.elim
end
def BZ {M:nG}{A:nB}{E:nE->nh->Prop}{s:nh}{a b:nE}{T id:String}{Q:nE->nh->Prop}(ha:s.TypeIs a T)(hb:s.TypeIs b T)
  (hyes:typeLookup (.type T) (dunderI "add")=pure (Ψ (.builtin id)))(hq:isSeqSlot (Ψ (.builtin id))=Ω)(hfill:fillsNumberSlot (.type T) "add" = pure Ξ)
  (hc:wpAny M A (call (.builtin id) [a,b]) Q E s):wpAny M A (inplaceOp .Add a b) Q E s:=by
 unfold inplaceOp
 exact jI ?_
 let hfi:fillsInplaceSlot (.type T) "add" (Operator.Add == .Add)=pure Ξ:=by
  unfold fillsInplaceSlot
  show (typeLookup (.type T) (dunderI "add") >>= λfi=>pure (fi.isSome && !isSeqSlot fi))=pure Ξ
  rw[hyes]
  show (pure ((Ψ (Value.builtin id)).isSome && !isSeqSlot (Ψ (.builtin id))):Sem Bool)=_
  rw[hq];rfl
 let hsi:seqSlot? (.type T) (dunderI "add")=pure (Ψ (.builtin id)):=by
  unfold seqSlot?
  rw[hyes]
  show (if (!isSeqSlot (Ψ (Value.builtin id)))=Ω then _ else _)=_
  rw[hq];rfl
 exact lR (kH ha (lR (lq hfi ?_)))
 show wpAny M A (if Ξ=Ω then _ else _) Q E s
 rw[if_neg dY]
 exact lR (wpAny_binaryOp1_none (nm:="add") ha hb hfill ?_)
 exact lR (lq hsi ?_)
 exact lR (lO hc)
inductive ipL (x:V)(y:V)(H:Hp)(Q:VK):Prop
 | mk (l:_)(b:_)(xs:_)(zs:_)(_:x=.ref l)(_:y=.ref b)(_:H l=Ψ (.lst xs))(_:H b=Ψ (.lst zs))(_:xs.length+zs.length<=sizeLine)(_:Q (.ref l) (oT H l (.lst (xs++zs)))):ipL x y H Q
section
variable {X:Cx}
def FQ:Ow X .Add ipL:=by
 intro Z9 s σ H x y v u Q I rx ry h
 let(l,b,xs,zs,rfl,rfl,hH,hB,hz,q):=h
 cases rx
 cases ry
 let(z,Z7,n,r,hl,e):=I.lstM hH
 let(z2,its2,n2,r2,hl2,e2):=I.lstM hB
 let hsz:Z7.toArray.size+its2.toArray.size<=sizeLine:=by rw[fk,fk];lia
 let hlong:¬ (!Z7.toArray.isEmpty && br (Z7.toArray.size+its2.toArray.size))=Ω:=by
  rw[yi hsz,jC]
  exact dY
 exact BZ (T:="list") (id:="list.__iadd__") ⟨_,e,rfl⟩ ⟨_,e2,rfl⟩ gL.lookup (by nofun) noFill_list_add ?_
 refine lV gL ⟨_,e,rfl⟩ fK (F.args_list_iadd_2 _ _)
  (AutoSeq1.list___iadd___list_list_0 l Z7.toArray n b its2.toArray n2 hlong (by rw[fk];lia) ⋯) ⟨e,e2,?_⟩
 exact⟨.ref l,_,I.lset (its':=Z7++its2) hH e ∅ (r.append r2) ?_,rfl,q⟩
 rw[dP]
 lia
end
abbrev DU (x y:FV):Option FV:=(rQ x).bind λxs=>(rQ y).bind λys=>if xs.length+ys.length<=big then Ψ (.lst (xs++ys)) else Φ
abbrev An (i:Nat)(e:EW):SW:=λL Q=>wp (lk L i) λ_=>e L λy L1=>wp (lk L1 i) λx=>wp (DU x y) λz=>Q .next (L1.set i (Ψ z))
section
variable {X:Cx}{C:CC}{n:Nat}{sp:kP->Nat->Sp}{fr:Bool}{a:Expr}{e:EW}{pos px:Pos}{i:Nat}{nx:Str}
def NK (G:Good X C n sp)(ht:C.tn i nx=Ω)(m:nW C.md i=.own)(h:FE X C a e):FS X C fr (.AugAssign (.Name nx px) .Add a pos) (An i e):=by
 let ht:=b2 ht
 let(l1,l2):=G.loc ht.2
 exact PS.imp (C3 (X:=X.nox) G.nd' (G.ix ht.1) l1 h FQ l2) λD σ H q1=>?_;let(c,L,S,Q0,I,h,k):=q1
 let mi:nW C.md i≠.imm:=λz=>by rw[m] at z;cases z
 let(v0,e0,h):=oS h
 let(l,e1,_):=I.own i v0 mi ((oZ _ _ _).mp e0)
 exact⟨_,e1,c,L,S,_,I,h,λy L1 q u S1 H1 r1 I1 s1=>?_⟩
 let(x,e2,q2):=oS q
 let(z,e3,q3):=oS q2
 let(xs,e4,e5):=p7 e3
 let(ys,e6,e7):=p7 e5
 let(hb,rfl):=qM e7
 cases qe e4
 cases qe e6
 let e2:=(oZ _ _ _).mp e2
 let(l',f1,(g1,ps,us,g2,g3,g4),_):=I1.own i _ mi e2
 rw[e1] at f1;cases f1
 cases g2
 let(b,ws,rfl,h1,h2):=r1
 let hbl:=ph
 let p1:=g4.length
 let p2:=h2.length
 exact⟨l,b,us,ws,rfl,rfl,g3,I1.sub _ _ h1,⋯,?_⟩
 let es:σ.set i (Ψ (V.ref l))=σ:=by
  apply List.ext_getElem?
  intro j
  by_cases hj:j=i
  ·subst hj
   rw[bO (aR.mp e1).1,e1]
  ·rw[cL (mZ hj)]
 show D.nx (σ.set i (Ψ (V.ref l))) _
 rw[es]
 exact k .next _ q3 σ S1 _ (I1.write m e2 e1 (g4.append h2)) s1
end
section
variable {X:Cx}{C:CC}{n:Nat}{sp:kP->Nat->Sp}{fr:Bool}{a b:Expr}{ea eb:EW}{pos px py pt p2:Pos}{i j kt k2:Nat}{nx ny:Str}
def L8 (G:Good X C n sp)(hm:((Δ (nW C.md i=.own) && Δ (i≠0)) && (Δ (nW C.md j=.own) && Δ (j≠0)))=Ω)(h:Dg C i j nx ny px py a b=Ω)(ha:FF X C a ea)(hb:FF X C b eb):FS X C fr (.Assign [.Tuple [.Name nx px,.Name ny py] kt pt] (.Tuple [a,b] k2 p2) pos) (oo (o9 (nR ea (nR eb nU))) (.tp [i,j])):=by
 let(sa,sb,hij):=HL h
 exact PS.imp (HM G h (oy ha (oy hb pM (nX sb)) (nX sa))) λD σ H q1=>?_;let(c,L,S,Q0,I,h,k):=q1
 let hm:=b2 hm;let hm1:=b2 hm.1;let hm2:=b2 hm.2
 exact⟨c,L,S,_,I,h,λv L1 q l S1 H1 o f I1 s1=>?_⟩
 let(o1,ps,us,e9,o2,o3):=o
 let I2:=I1.prot o2 o1 λy u hy hu=>f.2.2 y u (Mo.w_imm hy) hu
 exact⟨_,L1,S1,_,I2,q,λw L2 q l2 S2 H2 ow f2 I3 s2=>⟨.ref l,.ref l2,rfl,?_⟩⟩
 let nl:l≠l2:=f2.2.1 (l,vJ v us) dO
 let(g1,g2,g3):=I3.prs (l,vJ v us) dO
 let I4:=I3.unprot I1.fzp
 let nf:∀ y u,nW C.md y≠.imm->L2[y]?=Ψ (Ψ u)->σ[y]?≠Ψ (Ψ (.ref l)):=λy u hy hu hs=>by
  by_cases mo:(nW C.md y).w=Ω
  ·exact g3 y u mo hu hs
  ·let mo:nW C.md y=.frz:=by cases z:nW C.md y with|imm=>exact absurd z hy|frz=>rfl|_=>rw[z] at mo;exact absurd rfl mo
   let(b',f1):=I4.fzm y u mo hu
   let(_,f2,_):=I4.fzs _ f1
   rw[hs] at f2;cases f2
   let(ys,f3):=I1.fzp _ f1
   exact f.2.1 _ f3 rfl
 let I5:=I4.set (x:=.ref l) (v:=v) (λ_ _=>de hm1.2) (λz=>by rw[de hm1.1] at z;cases z) (.inr ⟨de hm1.1,l,rfl,⟨g2,ps,us,e9,g1,o3.mono s2⟩,f.1,f.2.1,λy u _ hy hu=>nf y u hy hu⟩)
 exact k .next _ q.2 _ S2 H2 (I5.set (x:=.ref l2) (v:=w) (λ_ _=>de hm2.2) (λz=>by rw[de hm2.1] at z;cases z) (.inr ⟨de hm2.1,l2,rfl,ow,f2.1,λp hp=>f2.2.1 p (cJ _ hp),λy u _ hy hu=>?_⟩)) (s1.trans s2)
 by_cases hyi:y=i
 ·subst hyi
  intro z
  let hl:y<σ.length:=by
   have:=(aR.mp z).1
   rwa [iI] at this
  rw[bO hl] at z
  cases z
  exact nl rfl
 ·rw[cL (mZ hyi)] at hu ⊢
  exact f2.2.2 y u hy hu
end
section
variable (Q:FV->Prop)(L:nT)
nonrec def k_dgn (z:Option Obj)(ks:List (List (Option Int)))(vs ps:List FV):wp (zW (.dcn z ks vs) (.tup ps)) Q↔wp (pP ps) λk=>wp (pv ks vs k) Q:=by
 show wp ((pP ps).bind _) Q↔_;rw[p6]
nonrec def k_dpn (ks:List (List (Option Int)))(vs ps:List FV)(x:FV):wp (B9 (.dcn Φ ks vs) (.tup ps) x) Q↔wp (pP ps) λk=>ks.length<big/\Q (.dcn Φ (oB ks vs k x).1 (oB ks vs k x).2):=by
 show wp ((pP ps).bind _) Q↔_
 rw[p6]
 cases pP ps with
 | none=>exact m6
 | some k =>
  show wp (if _ then _ else _) Q↔_
  split
  ·rename_i h;exact⟨λq=>⟨h,q⟩,λq=>q.2⟩
  ·rename_i h;exact⟨λq=>q.elim,λq=>absurd q.1 h⟩
nonrec def OZ (Q:List (Option Int)->Prop):wp (pP []) Q=Q []:=propext m6
nonrec def O0 (i:Int)(r:List FV)(Q:List (Option Int)->Prop):wp (pP (.int i :: r)) Q↔wp (pP r) λns=>Q (Ψ i :: ns):=by
 show wp ((pP r).map _) Q↔_;rw[pF]
nonrec def OY (r:List FV)(Q:List (Option Int)->Prop):wp (pP (.non :: r)) Q↔wp (pP r) λns=>Q (Φ :: ns):=by
 show wp ((pP r).map _) Q↔_;rw[pF]
nonrec def K7 (k:Nat)(i e:EW)(Q:FFl->nT->Prop):CQ k i e L Q=(wp (lk L k) λ_=>e L λx L1=>i L1 λj L2=>wp (lk L2 k) λy=>wp (B9 y j x) λz=>Q .next (L2.set k (Ψ z))):=propext m6
nonrec def Lb (f:Int->Int->Int) (k:Nat)(i e:EW)(Q:FFl->nT->Prop):Am f k i e L Q=(wp (lk L k) λ_=>i L λj L1=>wp (lk L1 k) λv=>wp (zW v j) λx0=>wp (qx x0) λa=>e L1 λx L2=>wp (qx x) λb=>wp (lk L2 k) λw=>wp (B9 w j (.int (f a b))) λz=>Q .next (L2.set k (Ψ z))):=propext m6
nonrec def Lc (i:Nat)(e:EW)(Q:FFl->nT->Prop):An i e L Q=(wp (lk L i) λ_=>e L λy L1=>wp (lk L1 i) λx=>wp (DU x y) λz=>Q .next (L1.set i (Ψ z))):=propext m6
nonrec def Pf (xs ys:List FV):wp (DU (.lst xs) (.lst ys)) Q↔xs.length+ys.length<=big/\Q (.lst (xs++ys)):=by
 show wp (if _ then _ else _) Q↔_
 split
 ·rename_i h;exact⟨λq=>⟨h,q⟩,λq=>q.2⟩
 ·rename_i h;exact⟨λq=>q.elim,λq=>absurd q.1 h⟩
nonrec def Ng (j:Nat)(s:SW)(Q:FFl->nT->Prop):Hf j s L Q=wp (lk L j) (G1 j s L Q):=propext m6
nonrec def EF (j:Nat)(s:SW)(ks:List (List (Option Int)))(vs:List FV)(Q:FFl->nT->Prop):G1 j s L Q (.dcn Φ ks vs) = ∀ o,s (L.set j (Ψ (.dcn (Ψ o) ks vs))) (G0 j Q):=propext m6
nonrec def Nb (j:Nat)(Q:FFl->nT->Prop):G0 j Q .next L=wp (lk L j) (GZ j Q L):=propext m6
nonrec def Na (j:Nat)(o:Obj)(ks:List (List (Option Int)))(vs:List FV)(Q:FFl->nT->Prop):GZ j Q L (.dcn (Ψ o) ks vs)=Q .next (L.set j (Ψ (.dcn Φ ks vs))):=propext m6
nonrec def Ko (j:Nat)(Q:List FV->nT->Prop):zL j L Q=(wp (lk L j) λv=>match v with
 | .dcn (Ψ _) ks _=>Q (ks.map DA) L
 | _=>False):=propext m6
nonrec def Kw (n m:Nat)(it:AW)(tg:Tg)(t:BW)(ek ev:EW)(Q:FV->nT->Prop):xx n m it tg t ek ev L Q=(it L λxs L1=>L1.length=n/\xs.length<=big/\r9 n m tg t ek ev xs [] [] L1 λks vs L2=>Q (.dcn Φ ks vs) L2):=propext m6
end
def wC {α:Type}{tg:Tg}{n m:Nat}{ek ev:EW}{f:α->FV}{g:α->List (Option Int)}{h:α->FV}{Q:List (List (Option Int))->List FV->nT->Prop}{L:nT}:∀ (xs:List α)(ks:List (List (Option Int)))(vs:List FV),
  (∀ x∈xs,g x ∉ ks)->(xs.map g).Nodup ->
  (∀ x∈xs,∀ K:List (Option Int)->FV->nT->Prop,K (g x) (h x) L->gW tg (f x) (L++jt m Φ) λL1=>ek L1 λkx L3=>wp (qP kx) λps=>wp (pP ps) λk=>ev L3 λv L4=>K k v (L4.take n))->Q (ks++xs.map g) (vs++xs.map h) L->r9 n m tg o6 ek ev (xs.map f) ks vs L Q
 | [],ks,vs,_,_,_,E=>by
  show Q ks vs L
  simpa using E
 | x :: xs,ks,vs,hn,hd,B,E=>by
  exact B x dO (λk v L'=>r9 n m tg o6 ek ev (xs.map f) (oB ks vs k v).1 (oB ks vs k v).2 L' Q) ?_
  let hk:=hn x dO
  simp![kn,iC] at hd
  let e:oB ks vs (g x) (h x)=(ks++[g x],vs++[h x]):=by simp[oB,hk]
  rw[e]
  exact wC xs _ _ (λy hy hm=>?_) hd.2 (λy hy=>B y (cJ _ hy)) (by simpa using E)
  rcases iF.mp hm with hm|hm
  ·exact hn y (cJ _ hy) hm
  ·simp at hm
   exact hd.1 (by rw[<- hm];exact c5 hy)
section
variable {X:Cx}{C:CC}{n:Nat}{sp:kP->Nat->Sp}{fr:Bool}{pos p px:Pos}{scope:nF}{own:List Str}{kx vx ZY Z5:Expr}{Z4:List Expr}{it:AW}{tg:Tg}{t:BW}{ek ev:EW}{nn m:Nat}{md':Md}{i:Nat}{nx:Str}
def CH {gs:List kB}{x:Str}{n:Nat}{env:Env}(hk:env.scope.kind=.function) :
  swapsWith (.DictComp kx vx gs scope p) (Ψ (.Name x px)) n env=pure (Δ (env.scope.names.lookup x=Ψ .local) && (px.line == p.line) && !(scope.names.any λ(n,k)=>n == x && (k == .local || k == .cell))):=by
 let hb:env.blockKind=.function:=by unfold kw;rw[hk];rfl
 have:(env.kindOf x == Ψ .local)=Δ (env.scope.names.lookup x=Ψ .local):=by
  rw[iW];simp[Env.kindOf]
 unfold swapsWith
 simp![hb,this]
 rfl
def wB (h:CompOk X C n sp scope own kx ZY Z5 Z4 nn m md' it tg t ek){σ:L2.St}{H:Hp}{Q:VK}:lf X.K C.md (xx nn m it tg t ek ev) σ H Q->zf (li X.K C.md md' it) (gT X.K tg) (lb X.K md' t) (lv X.K md' ek) (lv X.K md' ev) own.length σ H Q:=by
 let h0:=b2 h.st;let h1:=b2 h0.1;let h2:=b2 h1.1;let h3:=b2 h2.1;let h4:=b2 h3.1;let h5:=b2 h4.1;let h6:=b2 h5.1
 rintro⟨c,L,S,Q0,I,hh,k⟩
 exact⟨c,L,S,_,I,hh,λxs L1 hx J c' S1 H1 I1 un e0 hJ s1=>?_⟩
 let(hl,hb,hc):=hx
 rw[de h5.2]
 exact Cd I1 hJ hl (de h4.2) h2.2 h1.2 hb hc λZ8 ks vs us L' S' H' hn q g1 g2 g3 g4 fr I' s'=>?_
 exact k _ L' q Z8 S' H' ⟨g1,vs,us,if_pos g3,g2,g4⟩ ⟨by rw[<- e0];exact fr.1,((un _ _ _ _ I1).fresh hn).2.1,λj w hm=>fr.2.2 j w (tG h3.2 j hm)⟩ (un _ _ _ _ I') (s1.trans s')
def DP (G:Good X C n sp)(ht:C.tn i nx=Ω)(hm:(Δ (nW C.md i=.own) && Δ (i≠0))=Ω)(h:CompOk X C n sp scope own kx ZY Z5 Z4 nn m md' it tg t ek)(hv:∀ X',Good X' (C.sub scope own md') n sp->FE X' (C.sub scope own md') vx ev):FS X C fr (.Assign [.Name nx px] (.DictComp kx vx [⟨ZY,Z5,Z4,0⟩] scope p) pos) (oo (xx nn m it tg t ek ev) (.nm i)):=by
 let h0:=b2 h.st;let h1:=b2 h0.1;let h2:=b2 h1.1;let h3:=b2 h2.1;let h4:=b2 h3.1;let h5:=b2 h4.1;let h6:=b2 h5.1
 let(s1,s2):=G.sub h6.1 md'
 let hu:X.A.units+1<cLine:=by have:=G.room.units;lia
 let blk:∀ fp D s H,PG (rn X scope own fp D s H) ZY (gT X.K tg)/\PTs (rn X scope own fp D s H) Z4 (lb X.K md' t)/\PE (rn X scope own fp D s H) kx (lv X.K md' ek)/\PE (rn X scope own fp D s H) vx (lv X.K md' ev):=λfp D s H=>⟨h.tg _ (s2 fp D s H),h.ts _ (s2 fp D s H),h.el _ (s2 fp D s H),hv _ (s2 fp D s H)⟩
 let hsw:swapsWith (.DictComp kx vx [⟨ZY,Z5,Z4,0⟩] scope p) (Ψ (.Name nx px)) pos.line X.env=pure (Nd C nx px scope p):=by rw[CH G.kind,G.sc];rfl
 cases hb:Nd C nx px scope p with
 | false =>
  rw[hb] at hsw
  exact xI hm (λσ H Q=>wB h) (Ar G ht hsw (yf (X:=X) hu G.calm s1 h.it blk (vj (nb h0.2))))
 | true =>
  rw[hb] at hsw
  let hlo:X.env.scope.names.lookup nx=Ψ .local:=by
   rw[G.sc]
   let hb:=b2 hb
   exact de (b2 hb.1).1
  exact xI hm (λσ H Q=>wB h) (yc hu G.calm s1 G.nd' (G.ix (b2 ht).1) hlo h.it blk hsw (vj (nb h0.2)))
end
abbrev AL (v:FV):Option FV:=match v with
 | .dci ks _=>Ψ (.int ks.length)
 | _=>Φ
section
variable {X:Cx}{C:CC}{n:Nat}{sp:kP->Nat->Sp}{a:Expr}{ea:EW}{pos p:Pos}
def JF:oR X (.builtin "len") (Rc X.K AL):=by
 rintro Z9 s σ H xs us Q I r ⟨S,v,x,z,rfl,hs,rv,e,k⟩
 cases v with
 | dci ks vs =>
  cases e
  let(a,us',rfl,hl,h1,h2):=rv.dci hs
  have:=h2.length
  let(u,rfl,ru):=vals1 r
  cases ru
  let e:((ql ks).zip us').length=ks.length:=by rw[iH];simp[ql];lia
  exact MF I (.inl h1) λt s' I'=>⟨.int _,H,I',⟨t,rfl⟩,by rw[e];exact k.old _ (λ_ z=>nomatch z) rfl⟩
 | _=>cases e
def NY (G:Good X C n sp)(hg:C.gl (kL "len")=Ω)(hs:oh a=Ξ)(ha:FR X C a ea):FE X C (.Call (.Name (kL "len") p) [a] [] pos) (oH AL ea):=uh JF G (·) (by nofun) (by nofun) (by nofun) hg hs ha
end
nonrec def Pa (ks:List Int)(vs:List FV)(Q:FV->Prop):wp (AL (.dci ks vs)) Q=Q (.int ks.length):=propext m6
abbrev uu (v:FV)(lo hi:Option Int):Option FV:=(pX v).map λxs=>.lst (qi xs lo hi)
abbrev F8 (a:EW)(l h:OW):EW:=λL Q=>a L λx L1=>l L1 λi L2=>h L2 λj L3=>wp (uu x i j) λz=>Q z L3
inductive RslL (K:kP)(x:V)(lo:Option Int)(hi:Option Int)(H:Hp)(Q:VK):Prop
 | mk (S:_)(v:_)(z:_)(_:Same S H)(_:RH K S H v x)(_:uu v lo hi=Ψ z)(_:NewOr K S H Q z):RslL K x lo hi H Q
section
variable {X:Cx}{C:CC}{a:Expr}{ea:EW}{pos:Pos}
def Li:KF X (RslL X.K):=by
 intro Z9 s σ H x v vl vu lo hi sl Q I rx hsl pl pu ⟨S,p,z,hs,rp,e,k⟩
 let(ps,e1,rfl):=bK.mp e
 let(a,xs,rfl,ha,ra):=rp.list hs e1
 exact Al Z9 s σ H _ v vl vu lo hi sl Q I rx hsl pl pu ⟨a,xs,rfl,ha,λp hp=>k.lst _ _ p rfl (xB ra) hp⟩
variable {xl xh:Option Expr}{wl wh:OW}{p2:Pos}
def PX (ha:FE X C a ea)(hl:FO X C xl wl)(hh:FO X C xh wh):FE X C (.Subscript a (.Slice xl xh Φ p2) pos) (F8 ea wl wh):=PE.imp (uW Li ha hl hh) λσ H Q q1=>by let(c,L,S,Q0,I,h,k):=q1;exact
 ⟨c,L,S,_,I,h,λv L1 hv x S1 H1 r1 I1 s1=>⟨c,L1,S1,_,I1,hv,λo1 L2 h1 S2 H2 I2 s2=>⟨c,L2,S2,_,I2,h1,λo2 L3 h2 S3 H3 I3 s3=>by
  let(z,e,q):=oS h2
  exact⟨S3,v,z,I3.sub,.inl (r1.mono (s2.trans s3)),e,ue I3 λx S' H' r I' s'=>k z L3 q x S' H' r I' (s1.trans (s2.trans (s3.trans s')))⟩⟩⟩⟩
end
nonrec def Oc (a:EW)(l h:OW)(L:nT)(Q:FV->nT->Prop):F8 a l h L Q=(a L λx L1=>l L1 λi L2=>h L2 λj L3=>wp (uu x i j) λz=>Q z L3):=propext m6
nonrec def k_slL (v:FV)(lo hi:Option Int)(Q:FV->Prop):wp (uu v lo hi) Q↔wp (pX v) λxs=>Q (.lst (qi xs lo hi)):=pF _ _ _
end Kq
namespace Kq
@[scoped simp ↓ high] theorem lk_1 (a0:Option FV)(v:FV)(L:nT)(Q:FV->Prop):wp (lk (a0 :: Ψ v :: L) 1) Q=Q v:=propext m6
@[scoped simp ↓ high] theorem lk_2 (a0 a1:Option FV)(v:FV)(L:nT)(Q:FV->Prop):wp (lk (a0 :: a1 :: Ψ v :: L) 2) Q=Q v:=propext m6
@[scoped simp ↓ high] theorem lk_3 (a0 a1 a2:Option FV)(v:FV)(L:nT)(Q:FV->Prop):wp (lk (a0 :: a1 :: a2 :: Ψ v :: L) 3) Q=Q v:=propext m6
@[scoped simp ↓ high] theorem lk_4 (a0 a1 a2 a3:Option FV)(v:FV)(L:nT)(Q:FV->Prop):wp (lk (a0 :: a1 :: a2 :: a3 :: Ψ v :: L) 4) Q=Q v:=propext m6
@[scoped simp ↓ high] theorem lk_5 (a0 a1 a2 a3 a4:Option FV)(v:FV)(L:nT)(Q:FV->Prop):wp (lk (a0 :: a1 :: a2 :: a3 :: a4 :: Ψ v :: L) 5) Q=Q v:=propext m6
@[scoped simp ↓ high] theorem lk_6 (a0 a1 a2 a3 a4 a5:Option FV)(v:FV)(L:nT)(Q:FV->Prop):wp (lk (a0 :: a1 :: a2 :: a3 :: a4 :: a5 :: Ψ v :: L) 6) Q=Q v:=propext m6
@[scoped simp ↓ high] theorem lk_7 (a0 a1 a2 a3 a4 a5 a6:Option FV)(v:FV)(L:nT)(Q:FV->Prop):wp (lk (a0 :: a1 :: a2 :: a3 :: a4 :: a5 :: a6 :: Ψ v :: L) 7) Q=Q v:=propext m6
@[scoped simp ↓ high] theorem lk_8 (a0 a1 a2 a3 a4 a5 a6 a7:Option FV)(v:FV)(L:nT)(Q:FV->Prop):wp (lk (a0 :: a1 :: a2 :: a3 :: a4 :: a5 :: a6 :: a7 :: Ψ v :: L) 8) Q=Q v:=propext m6
@[scoped simp ↓ high] theorem lk_9 (a0 a1 a2 a3 a4 a5 a6 a7 a8:Option FV)(v:FV)(L:nT)(Q:FV->Prop):wp (lk (a0 :: a1 :: a2 :: a3 :: a4 :: a5 :: a6 :: a7 :: a8 :: Ψ v :: L) 9) Q=Q v:=propext m6
@[scoped simp ↓ high] theorem lk_10 (a0 a1 a2 a3 a4 a5 a6 a7 a8 a9:Option FV)(v:FV)(L:nT)(Q:FV->Prop):wp (lk (a0 :: a1 :: a2 :: a3 :: a4 :: a5 :: a6 :: a7 :: a8 :: a9 :: Ψ v :: L) 10) Q=Q v:=propext m6
@[scoped simp ↓ high] theorem lk_11 (a0 a1 a2 a3 a4 a5 a6 a7 a8 a9 a10:Option FV)(v:FV)(L:nT)(Q:FV->Prop):wp (lk (a0 :: a1 :: a2 :: a3 :: a4 :: a5 :: a6 :: a7 :: a8 :: a9 :: a10 :: Ψ v :: L) 11) Q=Q v:=propext m6
@[scoped simp ↓ high] theorem lk_12 (a0 a1 a2 a3 a4 a5 a6 a7 a8 a9 a10 a11:Option FV)(v:FV)(L:nT)(Q:FV->Prop):wp (lk (a0 :: a1 :: a2 :: a3 :: a4 :: a5 :: a6 :: a7 :: a8 :: a9 :: a10 :: a11 :: Ψ v :: L) 12) Q=Q v:=propext m6
@[scoped simp ↓ high] theorem lk_13 (a0 a1 a2 a3 a4 a5 a6 a7 a8 a9 a10 a11 a12:Option FV)(v:FV)(L:nT)(Q:FV->Prop):wp (lk (a0 :: a1 :: a2 :: a3 :: a4 :: a5 :: a6 :: a7 :: a8 :: a9 :: a10 :: a11 :: a12 :: Ψ v :: L) 13) Q=Q v:=propext m6
@[scoped simp ↓ high] theorem lk_14 (a0 a1 a2 a3 a4 a5 a6 a7 a8 a9 a10 a11 a12 a13:Option FV)(v:FV)(L:nT)(Q:FV->Prop):wp (lk (a0 :: a1 :: a2 :: a3 :: a4 :: a5 :: a6 :: a7 :: a8 :: a9 :: a10 :: a11 :: a12 :: a13 :: Ψ v :: L) 14) Q=Q v:=propext m6
@[scoped simp ↓ high] theorem lk_15 (a0 a1 a2 a3 a4 a5 a6 a7 a8 a9 a10 a11 a12 a13 a14:Option FV)(v:FV)(L:nT)(Q:FV->Prop):wp (lk (a0 :: a1 :: a2 :: a3 :: a4 :: a5 :: a6 :: a7 :: a8 :: a9 :: a10 :: a11 :: a12 :: a13 :: a14 :: Ψ v :: L) 15) Q=Q v:=propext m6
@[scoped simp ↓ high] theorem lk_16 (a0 a1 a2 a3 a4 a5 a6 a7 a8 a9 a10 a11 a12 a13 a14 a15:Option FV)(v:FV)(L:nT)(Q:FV->Prop):wp (lk (a0 :: a1 :: a2 :: a3 :: a4 :: a5 :: a6 :: a7 :: a8 :: a9 :: a10 :: a11 :: a12 :: a13 :: a14 :: a15 :: Ψ v :: L) 16) Q=Q v:=propext m6
@[scoped simp ↓ high] theorem lk_17 (a0 a1 a2 a3 a4 a5 a6 a7 a8 a9 a10 a11 a12 a13 a14 a15 a16:Option FV)(v:FV)(L:nT)(Q:FV->Prop):wp (lk (a0 :: a1 :: a2 :: a3 :: a4 :: a5 :: a6 :: a7 :: a8 :: a9 :: a10 :: a11 :: a12 :: a13 :: a14 :: a15 :: a16 :: Ψ v :: L) 17) Q=Q v:=propext m6
end Kq
namespace Kq
open PySem PySem.Spec PyProof.Rows L2
abbrev OR:SW:=λ_ _=>False
nonrec def Nl (L:nT)(Q:FFl->nT->Prop):OR L Q=False:=rfl
end Kq
namespace Kq
open PySem PySem.Spec PyProof.Rows L2 PySem.W
abbrev Ew (m:Nat):Nat->Nat->Nat
 | 0,i=>i
 | k+1,i=>Ew m k ((i*5+1) % m)
def uz (m:Nat):∀ a b i,Ew m (a+b) i=Ew m b (Ew m a i)
 | 0,b,i=>by rw[kR];rfl
 | a+1,b,i=>by rw[show a+1+b=(a+b)+1 by lia];exact uz m a b _
abbrev HQ (m:Nat):Nat->Nat->List Nat
 | 0,_=>[]
 | k+1,i=>i :: HQ m k ((i*5+1) % m)
def uY {m j:Nat}:∀ k i,j∈HQ m k i->∃ n,n<k/\Ew m n i=j
 | 0,i,h=>absurd h gu
 | k+1,i,h=>by
  rcases kj.mp h with z|z
  ·exact⟨0,⋯,z.symm⟩
  ·let(n,h1,h2):=uY k _ z
   exact⟨n+1,⋯,h2⟩
abbrev LB (m:Nat):Bool:=(mm m).all (λj=>(HQ m m 0).contains j) && Ew m m 0 == 0
abbrev Ex (mask:Nat):Prop:=mask=7 ∨ mask=31 ∨ mask=127 ∨ mask=511
def HP {mask:Nat}(h:Ex mask):LB (mask+1)=Ω:=by
 rcases h with rfl|rfl|rfl|rfl<;>nofun
def Ff {mask:Nat}(h:Ex mask){i j:Nat}(hi:i<mask+1)(hj:j<mask+1):∃ k,k<mask+1/\Ew (mask+1) k i=j:=by
 let(h1,h2):=b2 (HP h)
 let h2:Ew (mask+1) (mask+1) 0=0:=by simpa using h2
 let(a,ha,ea):=uY _ _ (by simpa using gK.mp h1 i (jv.mpr hi))
 let(b,hb,eb):=uY _ _ (by simpa using gK.mp h1 j (jv.mpr hj))
 by_cases z:a<=b
 ·exact⟨b-a,⋯,?_⟩
  rw[<- ea,<- uz,show a+(b-a)=b by lia];exact eb
 ·exact⟨mask+1-a+b,⋯,?_⟩
  rw[<- ea,<- uz,show a+(mask+1-a+b)=(mask+1)+b by lia,uz,h2];exact eb
abbrev qD (mask:Nat):Nat->Nat×Nat->Nat×Nat
 | 0,x=>x
 | k+1,x=>qD mask k (jW mask x.1 x.2)
def wd (mask:Nat):∀ a b x,qD mask (a+b) x=qD mask b (qD mask a x)
 | 0,b,x=>by rw[kR];rfl
 | a+1,b,x=>by rw[show a+1+b=(a+b)+1 by lia];exact wd mask a b _
def wb (mask:Nat):∀ k x,(qD mask k x).2=x.2 / 32 ^ k
 | 0,x=>by simp[qD]
 | k+1,x=>by
  rw[qD,wb mask k]
  show x.2 / 32 / 32 ^ k=_
  rw[Nat.div_div_eq_div_mul,<- Nat.pow_succ']
def wc (mask:Nat):∀ k x,x.1<mask+1->(qD mask k x).1<mask+1
 | 0,x,h=>h
 | k+1,x,h=>wc mask k _ (ml _ (kS _))
def vb (mask:Nat):∀ k i,qD mask k (i,0)=(Ew (mask+1) k i,0)
 | 0,i=>rfl
 | k+1,i=>by
  rw[qD,Ew,show jW mask i 0=((i*5+1) % (mask+1),0) by simp[jW]]
  exact vb mask k _
def AM {mask:Nat}(h:Ex mask){i p e:Nat}(hi:i<mask+1)(hp:p<2 ^ 64)(he:e<mask+1):∃ k,k<=mask+13/\(qD mask k (i,p)).1=e:=by
 let h1:(qD mask 13 (i,p)).2=0:=by
  rw[wb]
  exact Nat.div_eq_of_lt (dH hp (·))
 let h2:=wc mask 13 (i,p) hi
 let(k,hk,ek):=Ff h h2 he
 exact⟨13+k,⋯,?_⟩
 rw[wd,show qD mask 13 (i,p)=((qD mask 13 (i,p)).1,0) by rw[<- h1],vb]
 exact ek
def Bk (h:Int):j5 h<2 ^ 64:=by
 unfold j5
 have:=dX h (show (0:Int)<2 ^ 64 by decide)
 have:=iS h (show (2 ^ 64:Int)≠0 by decide)
 lia
abbrev o8 (t:mN):Nat->ji->ji
 | 0,p=>p
 | k+1,p=>o8 t k (t.advance p)
def rC (t:mN):∀ a b p,o8 t (a+b) p=o8 t b (o8 t a p)
 | 0,b,p=>by rw[kR];rfl
 | a+1,b,p=>by rw[show a+1+b=(a+b)+1 by lia];exact rC t a b _
abbrev yY (t:mN)(x:Nat×Nat) (d:Option Nat):ji:={ j:=x.1,more:=ie t.mask x.1-x.1,i:=x.1,perturb:=x.2,dummy:=d }
def xL (t:mN):∀ (r:Nat)(p:ji),p.more=r->o8 t (r+1) p=yY t (jW t.mask p.i p.perturb) p.dummy
 | 0,p,h=>by
  show t.advance p=_
  unfold f7
  rw[if_neg ⋯]
  rfl
 | r+1,p,h=>by
  show o8 t (r+1) (t.advance p)=_
  let e:t.advance p = { p with j:=p.j+1,more:=p.more-1 }:=by
   unfold f7
   rw[if_pos ⋯]
  rw[e]
  exact xL t r _ (by show p.more-1=r;lia)
def Hi (mask i:Nat):ie mask i-i<=9:=by
 unfold ie
 split<;>lia
def Ej (t:mN):∀ (k:Nat)(x:Nat×Nat) (d:Option Nat),∃ n,n<=10*k/\o8 t n (yY t x d)=yY t (qD t.mask k x) d
 | 0,x,d=>⟨0,⋯,rfl⟩
 | k+1,x,d=>by
  let h1:=xL t _ (yY t x d) rfl
  let h2:=Hi t.mask x.1
  let(n,h3,h4):=Ej t k (jW t.mask x.1 x.2) d
  exact⟨(yY t x d).more+1+n,?_,?_⟩
  ·show ie t.mask x.1-x.1+1+n<=_
   lia
  ·rw[rC,h1]
   exact h4
def t9 (t:mN):∀ n p,(o8 t n p).dummy=p.dummy
 | 0,p=>rfl
 | n+1,p=>by
  rw[o8,t9 t n]
  unfold f7
  split<;>rfl
def Cj {t:mN}(hm:Ex t.mask) (h:Int){e:Nat}(he:e<t.mask+1):∃ n,n<=10*(t.mask+13)/\(o8 t n (t.probeStart h)).j=e:=by
 let(k,hk,ek):=AM hm (i:=j5 h % (t.mask+1)) (ml _ (kS _)) (Bk h) he
 let(n,hn,en):=Ej t k (j5 h % (t.mask+1),j5 h) Φ
 exact⟨n,⋯,?_⟩
 have:t.probeStart h=yY t (j5 h % (t.mask+1),j5 h) Φ:=rfl
 rw[this,en]
 exact ek
def uL {t:mN}(hd:t.dummies = #[]) (j:Nat):t.slot j≠.dummy:=λq=>by
 unfold jV at q
 rw[hd,has_none] at q
 dsimp only at q
 by_cases z:(t.place[jh t.place j]? == Ψ j)=Ω
 ·rw[if_pos z] at q;exact nomatch q
 ·rw[if_neg z,if_neg ∅] at q;exact nomatch q
abbrev wU (t:mN) (h:Int) (n:Nat):Nat:=(o8 t n (t.probeStart h)).j
def yW {t t':mN}(e:t.mask=t'.mask):∀ n p,o8 t n p=o8 t' n p
 | 0,p=>rfl
 | n+1,p=>by
  rw[o8,o8,show t.advance p=t'.advance p by unfold f7;rw[e]]
  exact yW e n _
def yb {t t':mN}(e:t.mask=t'.mask) (h:Int) (n:Nat):wU t h n=wU t' h n:=by
 unfold wU
 rw[yW e,show t.probeStart h=t'.probeStart h by unfold SetTable.probeStart;rw[e]]
inductive Pth (t:mN)(occ:Nat->Prop) (h:Int) (j:Nat):Prop
 | mk (n:_)(_:wU t h n=j)(_:∀ n',n'<n->occ (wU t h n')):Pth t occ h j
def Pth.mono {t t':mN}{occ occ':Nat->Prop}{h:Int}{j:Nat}(x:Pth t occ h j)(e:t.mask=t'.mask)(k:∀ x,occ x->occ' x):Pth t' occ' h j:=by
 let(n,h1,h2):=x
 exact⟨n,by rw[<- yb e];exact h1,λn' hn=>by rw[<- yb e];exact k _ (h2 n' hn)⟩
def uc {t:mN}(hd:t.dummies = #[]){f:Nat->Int}{h:Int}:∀ (n fuel:Nat)(p:ji),n<fuel->p.dummy=Φ->t.slot (o8 t n p).j=.empty ->
  (∃ k,eT t f h fuel p=Ψ (.empty (o8 t k p).j Φ)/\t.slot (o8 t k p).j=.empty/\∀ k',k'<k->∃ i,t.slot (o8 t k' p).j=.live i/\f i≠h) ∨ ∃ i k,eT t f h fuel p=Ψ (.candidate (o8 t k p).j i (o8 t (k+1) p))/\t.slot (o8 t k p).j=.live i/\k<n/\∀ k',k'<k->∃ i,t.slot (o8 t k' p).j=.live i/\f i≠h
 | n,0,p,hf,_,_=>absurd hf (iq _)
 | n,fuel+1,p,hf,hp,he=>by
  unfold eT
  let ad:(t.advance p).dummy=Φ:=(t9 t 1 p).trans hp
  cases q:t.slot p.j with
  | empty=>exact .inl ⟨0,by rw[hp];rfl,q,λk' h=>absurd h (iq _)⟩
  | dummy=>exact absurd q (uL hd _)
  | live i =>
   cases n with
   | zero=>rw[show (o8 t 0 p).j=p.j from rfl,q] at he;cases he
   | succ n =>
    dsimp only
    split
    ·exact .inr ⟨i,0,rfl,q,⋯,λk' h=>absurd h (iq _)⟩
    ·rename_i ne
     let back:∀ {k:Nat},(∀ k',k'<k->∃ i,t.slot (o8 t k' (t.advance p)).j=.live i/\f i≠h)->∀ k',k'<k+1->∃ i,t.slot (o8 t k' p).j=.live i/\f i≠h:=λe k' hk=>by
      cases k' with
      | zero=>exact⟨i,q,λz=>ne (by rw[z];simp)⟩
      | succ k'=>exact e k' ⋯
     rcases uc (f:=f) (h:=h) hd n fuel (t.advance p) ⋯ ad he with⟨k,e1,e2,e3⟩|⟨i',k,e1,e2,e3,e4⟩
     ·exact .inl ⟨k+1,e1,e2,back e3⟩
     ·exact .inr ⟨i',k+1,e1,e2,⋯,back e4⟩
structure Owns (mask:Nat)(ow:Array (Option Nat)) (k:Nat):Prop where
 sz:ow.size=mask+1
 lt:∀ j i:Nat,ow[j]?=Ψ (Ψ i)->i<k
 on:∀ i,i<k->∃ j:Nat,ow[j]?=Ψ (Ψ i)
 inj:∀ j j' i:Nat,ow[j]?=Ψ (Ψ i)->ow[j']?=Ψ (Ψ i)->j=j'
def Owns.free {mask:Nat}{ow:Array (Option Nat)}{k:Nat}(h:Owns mask ow k)(hk:k<mask+1):∃ e:Nat,e<mask+1/\ow[e]?=Ψ Φ:=by
 exact aX λz=>?_
 let full:∀ j:Nat,j<mask+1->∃ i,ow[j]?=Ψ (Ψ i):=λj hj=>by
  cases e:ow[j]? with
  | none=>rw[Array.getElem?_eq_none_iff,h.sz] at e;lia
  | some o =>
   cases o with
   | none=>exact absurd ⟨j,hj,e⟩ z
   | some i=>exact⟨i,rfl⟩
 let nd:((mm (mask+1)).map λj=>((ow[j]?).getD Φ).getD 0).Nodup:=by
  exact fo.mpr (gv.imp_of_mem λ{a b} ha hb ne e=>ne ?_)
  let(i,ei):=full a (jv.mp ha)
  let(i',ei'):=full b (jv.mp hb)
  rw[ei,ei'] at e
  let e:i=i':=e
  subst e
  exact h.inj a b i ei ei'
 have:=nd.length_le_of_subset (l₂:=mm k) λx hx=>by
  let(j,hj,e):=k6.mp hx
  let(i,ei):=full j (jv.mp hj)
  rw[ei] at e
  let e:i=x:=e
  subst e
  exact jv.mpr (h.lt j i ei)
 simp at this
 lia
def Owns.put {mask:Nat}{ow:Array (Option Nat)}{k j:Nat}(h:Owns mask ow k)(hj:ow[j]?=Ψ Φ):Owns mask (ow.setIfInBounds j (Ψ k)) (k+1):=by
 let jl:j<ow.size:=(aN.mp hj).1
 let look:∀ x:Nat,(ow.setIfInBounds j (Ψ k))[x]?=if j=x then Ψ (Ψ k) else ow[x]?:=λx=>by
  rw[av]
  by_cases z:j=x
  ·rw[if_pos z,if_pos z,if_pos jl]
  ·rw[if_neg z,if_neg z]
 exact⟨by rw[Array.size_setIfInBounds];exact h.sz,λx i e=>?_,λi hi=>?_,λx y i e1 e2=>?_⟩
 ·rw[look] at e
  split at e
  ·cases e;lia
  ·have:=h.lt x i e;lia
 ·by_cases z:i=k
  ·exact⟨j,by rw[look,if_pos rfl,z]⟩
  ·let(x,ex):=h.on i ⋯
   exact⟨x,?_⟩
   rw[look,if_neg λq=>by rw[<- q,hj] at ex;cases ex]
   exact ex
 ·rw[look] at e1 e2
  split at e1
  ·split at e2
   ·rename_i a b;exact a.symm.trans b
   ·cases e1;have:=h.lt y k e2;lia
  ·split at e2
   ·cases e2;have:=h.lt x k e1;lia
   ·exact h.inj x y i e1 e2
def Ek (t:mN):∀ n p,n<=p.more->(o8 t n p).j=p.j+n
 | 0,p,_=>rfl
 | n+1,p,h=>by
  let e:t.advance p = { p with j:=p.j+1,more:=p.more-1 }:=by
   unfold f7
   rw[if_pos ⋯]
  rw[o8,e,Ek t n _ (by show n<=p.more-1;lia)]
  show p.j+1+n=_
  lia
inductive Occ (ow:Array (Option Nat)) (x:Nat):Prop
 | mk (i:_)(_:ow[x]?=Ψ (Ψ i)):Occ ow x
def wj {t:mN}{ow:Array (Option Nat)}{e:Nat}(hs:ow.size=t.mask+1)(he:ow[e]?=Ψ Φ):∀ (fuel i p:Nat),i<t.mask+1->(∃ k,k<fuel/\(qD t.mask k (i,p)).1=e)->∃ j,bH t.mask ow fuel i p=Ψ j/\ow[j]?=Ψ Φ/\∃ n,(o8 t n (yY t (i,p) Φ)).j=j/\∀ n',n'<n->Occ ow (o8 t n' (yY t (i,p) Φ)).j
 | 0,i,p,_,q1=>by let(k,hk,_):=q1;exact absurd hk (iq _)
 | fuel+1,i,p,hi,q2=>by
  let(k,hk,ek):=q2
  unfold bH
  let re:ie t.mask i<=t.mask/\i<=ie t.mask i:=by unfold ie;split<;>lia
  let occ:∀ x,x<=ie t.mask i-i->¬ (ow.getD (i+x) (Ψ 0)).isNone=Ω->Occ ow (i+x):=λx hx h=>by
   rw[aA,bg (show i+x<ow.size by lia)] at h
   cases g:ow[i+x]'⋯ with
   | none=>rw[g] at h;exact absurd rfl h
   | some y=>exact⟨y,by rw[bg ⋯,g]⟩
  let ai:∀ x,x<=ie t.mask i-i->(o8 t x (yY t (i,p) Φ)).j=i+x:=λx hx=>Ek t x _ hx
  cases q:(mm (ie t.mask i+1-i)).find? λk=>(ow.getD (i+k) (Ψ 0)).isNone with
  | some x =>
   let hx:x<ie t.mask i+1-i:=jv.mp (aP q)
   exact⟨i+x,rfl,?_,x,ai x ⋯,λn' hn=>?_⟩
   ·have:=iN q
    rw[aA] at this
    cases g:ow[i+x]? with
    | none=>rw[g] at this;cases this
    | some o =>
     rw[g] at this
     cases o with
     | none=>rfl
     | some y=>cases this
   ·rw[ai n' ⋯]
    exact occ n' ⋯ λz=>?_
    let(as,bs,e1,e2):=(List.find?_eq_some_iff_append.mp q).2
    let hl:as.length=x:=by
     let h1:=congrArg (·[as.length]?) e1
     let hl2:=congrArg lK e1
     simp at hl2
     rw[c9 ⋯] at h1
     simpa using h1
    have:n'∈as:=by
     let h1:=congrArg (·[n']?) e1
     rw[c9 ⋯,aT ⋯] at h1
     exact cH h1.symm
    have:=e2 n' this
    rw[z] at this
    cases this
  | none =>
   let h0:=dS.mp q
   cases k with
   | zero =>
    exfalso
    let ek:i=e:=ek
    let h0:=h0 0 (jv.mpr ⋯)
    rw[Nat.add_zero,aA,ek,he] at h0
    exact h0 rfl
   | succ k =>
    let(j,f1,f2,n,f3,f4):=wj hs he fuel _ _ (show (jW t.mask i p).1<t.mask+1 from ml _ (kS _)) ⟨k,⋯,ek⟩
    let ar:=xL t _ (yY t (i,p) Φ) rfl
    exact⟨j,f1,f2,(yY t (i,p) Φ).more+1+n,by rw[rC,ar];exact f3,λn' hn=>?_⟩
    let hm:(yY t (i,p) Φ).more=ie t.mask i-i:=rfl
    by_cases z:n'<=ie t.mask i-i
    ·rw[ai n' z]
     exact occ n' z (h0 n' (jv.mpr ⋯))
    ·have:=f4 (n'-((yY t (i,p) Φ).more+1)) ⋯
     rw[show n'=(yY t (i,p) Φ).more+1+(n'-((yY t (i,p) Φ).more+1)) by lia,rC,ar]
     exact this
abbrev Ox (t:mN)(ow:Array (Option Nat))(hs:List Int):Prop:=∀ j i:Nat,ow[j]?=Ψ (Ψ i)->∃ h,hs[i]?=Ψ h/\Pth t (Occ ow) h j
def wg {t:mN}(hm:Ex t.mask):∀ (hs ds:List Int)(ow:Array (Option Nat)),Owns t.mask ow ds.length->Ox t ow ds->ds.length+hs.length<=t.mask ->
  ∃ ow',hs.foldl (λ(Z8:Option (Array (Option Nat)×Nat)) h=>do
   let (owner,k) <- Z8
   let j <- bH t.mask owner (je t.mask) (j5 h % (t.mask+1)) (j5 h)
   pure (owner.setIfInBounds j (Ψ k),k+1)) (Ψ (ow,ds.length))=Ψ (ow',ds.length+hs.length)/\Owns t.mask ow' (ds.length+hs.length)/\Ox t ow' (ds++hs)
 | [],ds,ow,h,o,_=>⟨ow,rfl,h,by rw[iQ];exact o⟩
 | x :: hs,ds,ow,h,o,hl=>by
  rw[gC] at hl
  let(e,he,ee):=h.free ⋯
  let(n,hn,en):=AM hm (i:=j5 x % (t.mask+1)) (ml _ (kS _)) (Bk x) he
  let(j,ej,ij,pn,p1,p2):=wj (t:=t) h.sz ee (je t.mask) (j5 x % (t.mask+1)) (j5 x) (ml _ (kS _)) ⟨n,by unfold je;lia,en⟩
  let jl:j<ow.size:=(aN.mp ij).1
  let look:∀ y:Nat,(ow.setIfInBounds j (Ψ ds.length))[y]?=if j=y then Ψ (Ψ ds.length) else ow[y]?:=λy=>by
   rw[av]
   by_cases z:j=y
   ·rw[if_pos z,if_pos z,if_pos jl]
   ·rw[if_neg z,if_neg z]
  let up:∀ y,Occ ow y->Occ (ow.setIfInBounds j (Ψ ds.length)) y:=λy q1=>by
   let(i,ei):=q1
   exact⟨i,?_⟩
   rw[look,if_neg λz=>by rw[<- z,ij] at ei;cases ei]
   exact ei
  let ps:t.probeStart x=yY t (j5 x % (t.mask+1),j5 x) Φ:=rfl
  let o1:Ox t (ow.setIfInBounds j (Ψ ds.length)) (ds++[x]):=λy i ey=>by
   rw[look] at ey
   split at ey
   ·rename_i z
    cases ey
    exact⟨x,∅,pn,?_,λn' hn'=>up _ ?_⟩
    ·rw[wU,ps,p1,z]
    ·rw[wU,ps];exact p2 n' hn'
   ·let(h',e1,e2):=o y i ey
    exact⟨h',by rw[aT (aR.mp e1).1];exact e1,e2.mono rfl up⟩
  let(ow',h1,h2,h3):=wg hm hs (ds++[x]) _ (by rw[dP];exact h.put ij) o1 (by rw[dP,cn];lia)
  rw[dP,cn] at h1 h2
  exact⟨ow',?_,by rw[gC,show ds.length+(hs.length+1)=ds.length+1+hs.length by lia];exact h2,by rw[fE] at h3;exact h3⟩
  rw[iM,gC,show ds.length+(hs.length+1)=ds.length+1+hs.length by lia,<- h1]
  congr 1
  show (bH t.mask ow (je t.mask) (j5 x % (t.mask+1)) (j5 x)).bind (λj=>Ψ (ow.setIfInBounds j (Ψ ds.length),ds.length+1))=_
  rw[ej];rfl
def Dx {t:mN}(hm:Ex t.mask)(hs:Array Int)(hl:hs.size<=t.mask):∃ ow,eU t.mask hs=Ψ ow/\Owns t.mask ow hs.size/\Ox t ow hs.toList:=by
 let no:∀ j i:Nat,(iX (t.mask+1) (Φ:Option Nat))[j]?≠Ψ (Ψ i):=λj i e=>by
  rw[Array.getElem?_replicate] at e
  split at e<;>simp at e
 let h0:Owns t.mask (iX (t.mask+1) Φ) 0:=⟨∅,λj i e=>absurd e (no j i),λi hi=>absurd hi (iq _),λj j' i e=>absurd e (no j i)⟩
 let(ow,h1,h2,h3):=wg hm hs.toList [] _ h0 (λj i e=>absurd e (no j i)) (by simpa using hl)
 exact⟨ow,?_,by simpa using h2,by simpa using h3⟩
 unfold eU
 rw[<- Array.foldl_toList]
 let h1:=h1
 simp![iJ] at h1
 rw[h1]
 rfl
def tJ {mask:Nat}{ow:Array (Option Nat)}{k:Nat}(h:Owns mask ow k):((((mm (mask+1)).filterMap λj=>(ow.getD j Φ).map (j,·)).map (·.2)).length=k)/\(∀ i∈(((mm (mask+1)).filterMap λj=>(ow.getD j Φ).map (j,·)).map (·.2)),i<k)/\∀ i,i<k->i∈(((mm (mask+1)).filterMap λj=>(ow.getD j Φ).map (j,·)).map (·.2)):=by
 let gd:∀ (j i:Nat),ow.getD j Φ=Ψ i↔ow[j]?=Ψ (Ψ i):=λj i=>by
  rw[aA]
  cases ow[j]? with
  | none=>simp
  | some o=>simp
 let lt:∀ i∈(((mm (mask+1)).filterMap λj=>(ow.getD j Φ).map (j,·)).map (·.2)),i<k:=λi hi=>by
  let(p,hp,rfl):=k6.mp hi
  let(j,_,e):=dN.mp hp
  let(x,ex,rfl):=bK.mp e
  exact h.lt j x ((gd j x).mp ex)
 let on:∀ i,i<k->i∈(((mm (mask+1)).filterMap λj=>(ow.getD j Φ).map (j,·)).map (·.2)):=λx hx=>by
  let(j,ej):=h.on x hx
  exact k6.mpr ⟨(j,x),dN.mpr ⟨j,jv.mpr ?_,?_⟩,rfl⟩
  ·rw[<- h.sz];exact (aN.mp ej).1
  ·rw[(gd j x).mpr ej];rfl
 exact⟨iu ?_ ?_,lt,on⟩
 ·let nd:(((mm (mask+1)).filterMap λj=>(ow.getD j Φ).map (j,·)).map (·.2)).Nodup:=by
   exact fo.mpr (bz.mpr (gv.imp λ{a b} ne x hx y hy e=>ne ?_))
   let(u,eu,rfl):=bK.mp hx
   let(v,ev,rfl):=bK.mp hy
   let e:u=v:=e
   subst e
   exact h.inj a b u ((gd a u).mp eu) ((gd b u).mp ev)
  have:=nd.length_le_of_subset (l₂:=mm k) λx hx=>jv.mpr (lt x hx)
  simpa using this
 ·have:=(gv (n:=k)).length_le_of_subset (l₂:=((mm (mask+1)).filterMap λj=>(ow.getD j Φ).map (j,·)).map (·.2)) λx hx=>on x (jv.mp hx)
  simpa using this
def FC {t0:mN}(hm:Ex t0.mask) (f mv:Nat)(l pl:Bool)(hs:Array Int)(hl:hs.size<=t0.mask):∃ t od,jX t0.mask f mv l pl hs=Ψ (t,od)/\t.mask=t0.mask/\t.led=l/\t.plain=pl/\t.dummies = #[]/\uj t.place/\t.place.size=hs.size/\od.size=hs.size/\(∀ i∈od.toList,i<hs.size)/\(∀ i,i<hs.size->i∈od.toList)/\∀ p∈t.place.toList.zip od.toList,∃ h,hs.toList[p.2]?=Ψ h/\Pth t (λx=>x∈t.place.toList) h p.1:=by
 let(ow,h1,h2,h3):=Dx hm hs hl
 exact⟨{ mask:=t0.mask,place:=(((mm (t0.mask+1)).filterMap λj=>(ow.getD j Φ).map (j,·)).map (·.1)).toArray,dummies:=#[],finger:=f,led:=l,moves:=mv,plain:=pl },_,by unfold jX;rw[h1];rfl,rfl,rfl,rfl,rfl,?_,?_,?_,?_,(tJ h2).2.2,λp hp=>?_⟩
 ·rw[rise_list]
  show (mU mP (jx (λj=>(ow.getD j Φ).map (j,·)) (mm _))).Pairwise (· < ·)
  rw[fo,bz]
  exact bN.imp λ{a b} hab x hx y hy=>?_
  let(_,_,rfl):=bK.mp hx
  let(_,_,rfl):=bK.mp hy
  exact hab
 ·have:=(tJ h2).1
  rw[iK] at this
  show (mU mP (jx (λj=>(ow.getD j Φ).map (j,·)) (mm _))).toArray.size=_
  rw[fk,iK];exact this
 ·have:=(tJ h2).1
  show (mU mO (jx (λj=>(ow.getD j Φ).map (j,·)) (mm _))).toArray.size=_
  rw[fk];exact this
 ·exact (tJ h2).2.1
 ·let gd:∀ (j i:Nat),ow.getD j Φ=Ψ i↔ow[j]?=Ψ (Ψ i):=λj i=>by
   rw[aA]
   cases ow[j]? with
   | none=>simp
   | some o=>simp
  let hp:p∈(mU mP (jx (λj=>(ow.getD j Φ).map (j,·)) (mm (t0.mask+1)))).zip (mU mO (jx (λj=>(ow.getD j Φ).map (j,·)) (mm (t0.mask+1)))):=hp
  rw[List.zip_map',k6] at hp
  let(q,hq,rfl):=hp
  let(j,_,e):=dN.mp hq
  let(x,ex,rfl):=bK.mp e
  let(h,g1,g2):=h3 j x ((gd j x).mp ex)
  exact⟨h,g1,g2.mono rfl λy ⟨i,ey⟩=>?_⟩
  show y∈mU mP (jx (λj=>(ow.getD j Φ).map (j,·)) (mm (t0.mask+1)))
  exact k6.mpr ⟨(y,i),dN.mpr ⟨y,jv.mpr ?_,by rw[(gd y i).mpr ey];rfl⟩,rfl⟩
  rw[<- h2.sz];exact (aN.mp ey).1
section
variable {prog:mX}{w:nC}{A:nB}{E:nE->nh->Prop}{s:nh}
noncomputable abbrev IsT (prog:mX)(w:nC)(h:nM)(k:List Int)(b:nP):Prop:=IsTupleKey (intKind prog w) h k b
def xm {k:Int}{v:nE}(h:(intKind prog w).is k v=Ω):∃ t,v=.int k t:=by
 cases v with
 | int i t =>
  have:i=k:=(intKind prog w).inj (.int i t) _ _ (intKind_is _ _ _ _) h
  exact⟨t,by rw[this]⟩
 | _=>exact absurd h (by simp[intKind,lE])
def items_int {ks:List Int}{vs:List nE}(h:ItemsAre (intKind prog w) ks vs):∀ v∈vs,∃ k t,v=.int k t:=by
 induction h with
 | nil=>intro v hv;simp at hv
 | cons h1 _ ih =>
  intro v hv
  rcases kj.mp hv with rfl|hv
  ·let(t,e):=xm h1;exact⟨_,t,e⟩
  ·exact ih v hv
def yU {k:List Int}{b:nP}{Q:Bool->nh->Prop}(hk:IsT prog w s.heap k b)(h:Q Ω s):wpAny (model prog w) A (hashByValue 8 (.ref b)) Q E s:=by
 let hT:=hk.typeIs
 let(o,items,n,ho,_,hd,hi):=hk
 unfold hashByValue
 exact lR (gV hT F.slot_tuple_hash.lookup ?_)
 dsimp only
 exact lR (i6 ho hd ?_)
 exact lR ?_
 show wpAny _ _ (forIn items _ _) _ _ s
 rw[<- eB]
 exact fS _ (λrest r s'=>r.1=Φ/\s'=s/\∀ v∈rest,∃ k t,v=.int k t) _ ?_ ?_ _ _ ⟨rfl,rfl,items_int hi⟩
 ·rintro v rest r s' ⟨hr,rfl,hall⟩
  let(k,t,rfl):=hall v dO
  rw[show hashByValue 7 (.int k t)=pure Ω from rfl]
  exact lR (lP ?_)
  simp![kC,dZ,if_false]
  exact lP ⟨rfl,rfl,λu hu'=>hall u (cJ _ hu')⟩
 ·rintro⟨r1,r2⟩ s' ⟨hr,rfl,_⟩
  simp only at hr
  subst hr
  exact lP h
def ud {k:List Int}{b:nP}{Q:Bool->nh->Prop}(hk:IsT prog w s.heap k b)(h:Q Ξ s):wpAny (model prog w) A (ofAClassStatement 8 (.ref b)) Q E s:=by
 let hT:=hk.typeIs
 let(o,items,n,ho,_,hd,hi):=hk
 unfold ofAClassStatement
 exact lR (kH hT ?_)
 dsimp only
 exact lR (lP ?_)
 simp![kC,dZ,if_false]
 exact lR (i6 ho hd ?_)
 dsimp only
 exact lR ?_
 show wpAny _ _ (forIn items _ _) _ _ s
 rw[<- eB]
 exact fS _ (λrest r s'=>r.1=Φ/\s'=s/\∀ v∈rest,∃ k t,v=.int k t) _ ?_ ?_ _ _ ⟨rfl,rfl,items_int hi⟩
 ·rintro v rest r s' ⟨hr,rfl,hall⟩
  let(k,t,rfl):=hall v dO
  rw[show ofAClassStatement 7 (.int k t)=pure Ξ from rfl]
  exact lR (lP ?_)
  simp![dZ,if_false]
  exact lP ⟨rfl,rfl,λu hu'=>hall u (cJ _ hu')⟩
 ·rintro⟨r1,r2⟩ s' ⟨hr,rfl,_⟩
  simp only at hr
  subst hr
  exact lP h
def CP {k:List Int}{b:nP}{ys:List nE}{Q:Bool->nh->Prop}(hk:IsT prog w s.heap k b)(hy:∀ y∈ys,∃ k b,y=.ref b/\IsT prog w s.heap k b)(h:Q Ξ s):wpAny (model prog w) A (searchCouldBeSeen (.ref b) ys) Q E s:=by
 unfold searchCouldBeSeen
 exact lR ?_
 exact fS _ (λrest r s'=>r.1=Φ/\s'=s/\∀ y∈rest,∃ k b,y=.ref b/\IsT prog w s.heap k b) _ ?_ ?_ _ _ ⟨rfl,rfl,hy⟩
 ·rintro v rest r s' ⟨hr,rfl,hall⟩
  let(k2,b2,rfl,h2):=hall v dO
  dsimp only
  split
  ·exact lP ⟨rfl,rfl,λu hu'=>hall u (cJ _ hu')⟩
  ·exact lR (bY hk ?_)
   simp![kC,dZ,if_false]
   exact lR (bY h2 ?_)
   simp![kC,dZ,if_false]
   exact lR (ud hk ?_)
   simp![dZ,if_false]
   exact lR (ud h2 ?_)
   simp![dZ,if_false]
   exact lP ⟨rfl,rfl,λu hu'=>hall u (cJ _ hu')⟩
 ·rintro⟨r1,r2⟩ s' ⟨hr,rfl,_⟩
  simp only at hr
  subst hr
  exact lP h
end
structure TabT (t:mN) (n:Nat):Prop where
 m4:Ex t.mask
 dm:t.dummies = #[]
 rs:uj t.place
 sz:t.place.size=n
 lo:n*5<t.mask*3
def TabT.fits {t:mN}{n:Nat}(T:TabT t n):t.fits n=Ω:=by
 have:=T.lo
 have:=T.sz
 simp![jY,jZ,T.dm,T.sz,gR,beq_iff_eq,decide_eq_true_eq]
 exact⟨trivial,by simp;lia⟩
def tW {t:mN}{j i:Nat}(h:t.slot j=.live i):t.place[i]?=Ψ j:=by
 unfold jV at h
 dsimp only at h
 split at h
 ·rename_i z;cases h;exact beq_iff_eq.mp z
 ·split at h<;>cases h
def TabT.empty {t:mN}{n:Nat}(T:TabT t n):∃ e,e<t.mask+1/\t.slot e=.empty:=by
 exact aX λz=>?_
 have:=(gv (n:=t.mask+1)).length_le_of_subset (l₂:=t.place.toList) λx hx=>by
  cases q:t.slot x with
  | empty=>exact absurd ⟨x,jv.mp hx,q⟩ z
  | dummy=>exact absurd q (uL T.dm x)
  | live i=>exact cQ.mpr (cz (tW q))
 let h1:=T.lo
 let h2:=T.sz
 simp at this
 lia
section
variable {prog:mX}{w:nC}{A:nB}{E:nE->nh->Prop}{s:nh}
inductive Psd (prog:mX)(w:nC)(h0:nM)(t:mN)(es:Array (Int×nE)) (h:Int)(k:List Int) (n:Nat):Prop
 | mk (i:Nat)(e:Int×nE)(_:t.slot (wU t h n)=.live i)(_:es[i]?=Ψ e)(_:(e.1=h->∃ k' b',e.2=.ref b'/\IsT prog w h0 k' b'/\k'≠k)):Psd prog w h0 t es h k n
def vS {a b:nP}{k:List Int}{h:Int}{o:Obj}{es:Array (Int×nE)}{ep:Nat}{t:mN}{Q:SetFound->nh->Prop}(hk:IsT prog w s.heap k b)(ho:s.heap.get? a=Ψ o)(hd:o.data=.set es ep t)(T:TabT t es.size)
  (hes:∀ e∈es.toList,∃ k' b',e.2=.ref b'/\IsT prog w s.heap k' b')(hu:A.units<cLine)(qf:(∃ e∈es.toList,∃ b',e.2=.ref b'/\IsT prog w s.heap k b')->Q (.there Φ) s)(q:∀ n,t.slot (wU t h n)=.empty->(∀ n',n'<n->Psd prog w s.heap t es h k n')->Q (.free (wU t h n) Ξ) s) :
  ∀ (fuel r m:Nat)(st:Option ji),st.getD (t.probeStart h)=o8 t m (t.probeStart h)->(∀ n',n'<m->Psd prog w s.heap t es h k n')->t.slot (wU t h (m+r))=.empty->r<=10*(t.mask+13)->r<fuel->wpAny (model prog w) A (setSearchFrom a (.ref b) h Ω fuel st) Q E s
 | 0,r,m,st,_,_,_,_,hf=>absurd hf (iq _)
 | fuel+1,r,m,st,hp,hm,he,hr,hf=>by
  unfold setSearchFrom
  exact lR (eG ho hd T.fits ?_)
  dsimp only
  let gw:t.gaveWay=Ξ:=by
   rcases T.m4 with z|z|z|z<;>simp[SetTable.gaveWay,z]
  rw[gw,hp]
  simp![dZ,if_false]
  let tn:r<10*je t.mask:=by unfold je;lia
  let ad:∀ x,(o8 t x (o8 t m (t.probeStart h))).j=wU t h (m+x):=λx=>by rw[wU,rC]
  let live:∀ {j i:Nat},t.slot j=.live i->i<es.size:=λe=>by
   rw[<- T.sz];exact (aN.mp (tW e)).1
  let psd:∀ {x:Nat},(∀ k',k'<x->∃ i,t.slot (o8 t k' (o8 t m (t.probeStart h))).j=.live i/\jn es i≠h)->∀ n',n'<m+x->Psd prog w s.heap t es h k n':=λ{x} e n' hn=>by
   by_cases z:n'<m
   ·exact hm n' z
   ·let(i,e1,e2):=e (n'-m) ⋯
    rw[ad,show m+(n'-m)=n' by lia] at e1
    exact⟨i,es[i]'(live e1),e1,bg _,λz=>absurd ?_ e2⟩
    rw[<- z]
    simp[jn,live e1]
  rcases uc (f:=_) (h:=h) T.dm r (10*je t.mask) (o8 t m (t.probeStart h)) tn (t9 t m _) (by rw[ad];exact he) with⟨x,e1,e2,e3⟩|⟨i,n,e1,e2,e3,e4⟩
  ·unfold jf
   rw[e1]
   rw[ad] at e2 ⊢
   exact lP (q (m+x) e2 (psd e3))
  ·unfold jf
   rw[e1]
   dsimp only
   let hi:=live e2
   let mi:es[i]∈es.toList:=cQ.mpr (Array.getElem_mem hi)
   let(k',b',ey,hy):=hes _ mi
   let gi:es[i]?=Ψ (es[i].1,Value.ref b'):=by rw[bg hi,<- ey]
   let rcc:k'≠k->wpAny (model prog w) A (setSearchFrom a (.ref b) h Ω fuel (Ψ (o8 t (n+1) (o8 t m (t.probeStart h))))) Q E s:=λnk=>by
    exact vS hk ho hd T hes hu qf q fuel (r-(n+1)) (m+(n+1)) (Ψ (o8 t (n+1) (o8 t m (t.probeStart h)))) ?_ (λn' hn=>?_) ?_ ⋯ ⋯
    ·show o8 t (n+1) _=_
     rw[<- rC]
    ·by_cases z:n'<m+n
     ·exact psd e4 n' z
     ·rw[ad] at e2
      exact⟨i,es[i],by rw[show n'=m+n by lia];exact e2,bg hi,λ_=>⟨k',b',ey,hy,nk⟩⟩
    ·rw[show m+(n+1)+(r-(n+1))=m+r by lia];exact he
   let sm:t.sameMemory t.moves t.mask=Ψ Ω:=by unfold SetTable.sameMemory;rw[if_pos ∅]
   let main:wpAny (model prog w) A (do
     let equal <- holding [.ref b'] (eqBool (.ref b') (.ref b))
     let (es',_,t') <- setState a
     if Ω && equal then return .there Φ
     let Ψ sme:=t'.sameMemory t.moves t.mask|unsupported "set.changed-during-lookup:is-the-new-block-at-the-old-address"
     let still <- match (if sme then t'.slot (o8 t n (o8 t m (t.probeStart h))).j else .empty) with
      | .live i'=>match es'[i']? with
       | some (_,y')=>do pure (if <- isSame y' (.ref b') then Ψ i' else Φ)
       | none=>pure Φ
      | _=>pure Φ
     match still with
     | none=>rule "set.search.anew";setSearchFrom a (.ref b) h Ω fuel Φ
     | some i'=>if equal then return .there (Ψ i') else setSearchFrom a (.ref b) h Ω fuel (Ψ (o8 t (n+1) (o8 t m (t.probeStart h))))) Q E s:=by
    exact lR (jI (wpAny_eqBool_tuple hu hy hk ?_))
    exact lR (eG ho hd T.fits ?_)
    by_cases nk:k'=k
    ·subst nk
     rw[decide_eq_true rfl]
     simp![kF,if_true]
     exact lP (qf ⟨_,mi,b',ey,hy⟩)
    ·rw[decide_eq_false nk]
     rw[jC]
     dsimp only
     rw[if_neg dY,sm]
     dsimp only
     rw[if_pos rfl,e2]
     dsimp only
     rw[gi]
     dsimp only
     exact lR (show wpAny _ _ (isSame (.ref b') (.ref b')) _ E s from ?_)
     unfold isSame
     dsimp only
     rw[if_pos (beq_self_eq_true _)]
     exact lP (lR (lP (rcc nk)))
   cases hl:t.led with
   | false =>
    simp![jB,if_true]
    exact lR (CP hk (λy hy=>?_) ?_)
    ·let(e,he',rfl):=k6.mp hy
     have:=cQ.mp he'
     exact hes e (cQ.mpr (Array.mem_filter.mp this).1)
    ·simp![dZ,if_false]
     rw[gi]
     exact main
   | true =>
    simp![kC,dZ,if_false]
    rw[gi]
    exact main
def zp {a b:nP}{k:List Int}{h:Int}{o:Obj}{es:Array (Int×nE)}{ep:Nat}{t:mN}{Q:SetFound->nh->Prop}(hk:IsT prog w s.heap k b)(ho:s.heap.get? a=Ψ o)(hd:o.data=.set es ep t)(T:TabT t es.size)
  (hes:∀ e∈es.toList,∃ k' b',e.2=.ref b'/\IsT prog w s.heap k' b')(hu:A.units<cLine)(qf:(∃ e∈es.toList,∃ b',e.2=.ref b'/\IsT prog w s.heap k b')->Q (.there Φ) s)(q:∀ n,t.slot (wU t h n)=.empty->(∀ n',n'<n->Psd prog w s.heap t es h k n')->Q (.free (wU t h n) Ξ) s):wpAny (model prog w) A (setSearch a (.ref b) h Ω) Q E s:=by
 let(e,he,ee):=T.empty
 let(n,hn,en):=Cj T.m4 h he
 have:t.mask<=511:=by rcases T.m4 with z|z|z|z<;>lia
 exact vS hk ho hd T hes hu qf q 100000 n 0 Φ rfl (λn' h=>absurd h (iq _)) (by rw[kR,wU,en];exact ee) hn ⋯
end
def F1 {mask n:Nat}(h:Ex mask)(lo:n*5<mask*3)(tf:mask*3<=(n+1)*5)(hb:n+1<=300):Ex (dB (jg (n+1))-1)/\(n+1)*5<(dB (jg (n+1))-1)*3/\dB (jg (n+1))<=512:=by
 rcases h with rfl|rfl|rfl|rfl
 ·obtain rfl:n=4:=by lia
  refine⟨.inr (.inl (·)),(·),(·)⟩
 ·obtain rfl:n=18:=by lia
  refine⟨.inr (.inr (.inl (·))),(·),(·)⟩
 ·obtain rfl:n=76:=by lia
  refine⟨.inr (.inr (.inr (·))),(·),(·)⟩
 ·lia
abbrev hT (k:List Int):Int:=reduceHash (Builtin.Tuple.tupleHashOf (k.map hashInt))
structure SetD (o:Obj)(es:Array (Int×nE)) (ep:Nat)(t:mN)(gs:List (nP×List Int)):Prop where
 ex:o.ExactSet
 dat:o.data=.set es ep t
 sz:es.size=gs.length
 tup:∀ e∈es.toList,∃ g∈gs,e=(hT g.2,.ref g.1)
 all:∀ g∈gs,(hT g.2,.ref g.1)∈es.toList
 tab:TabT t es.size
 rch:∀ p∈t.place.toList.zip es.toList,Pth t (·∈t.place.toList) p.2.1 p.1
inductive SetT (h:nM)(a:nP)(gs:List (nP×List Int)):Prop
 | mk (_:gs.length<=300)(o:_)(es:_)(ep:_)(t:_)(_:h.get? a=Ψ o)(_:SetD o es ep t gs):SetT h a gs
def SetT.keep {h h':nM}{a:nP}{gs:List (nP×List Int)}(x:SetT h a gs)(k:∀ o,h.get? a=Ψ o->h'.get? a=Ψ o):SetT h' a gs:=let ⟨h1,o,es,ep,t,h2,h3⟩:=x;⟨h1,o,es,ep,t,k o h2,h3⟩
def slot_of {t:mN}{n i j:Nat}(T:TabT t n)(h:t.place[i]?=Ψ j):t.slot j=.live i:=by
 let(h1,h2,h3):=qB T.rs j
 let(hi,ei):=aN.mp h
 let e:jh t.place j=i:=by
  exact iu (mf.mp λz=>?_) (mf.mp λz=>?_)
  ·have:=h2 i hi z;lia
  ·let hr:jh t.place j<t.place.size:=by lia
   let g1:=h3 _ hr (lJ _)
   let g2:=T.rs _ i hr hi z
   lia
 unfold jV
 dsimp only
 rw[e,if_pos (by rw[h];simp)]
def Ia {t:mN}{n j:Nat}(T:TabT t n)(h:j∈t.place.toList):t.slot j≠.empty:=by
 let(i,hi):=ck.mp h
 rw[slot_of T (by simpa using hi)]
 exact λz=>nomatch z
def Ez {α β:Type}{a:List α}{b:List β}{p:Nat}{x:α}{y:β}(hl:a.length=b.length){q:α×β}(h:q∈(a.take p++x :: a.drop p).zip (b.take p++y :: b.drop p)):q=(x,y) ∨ q∈a.zip b:=by
 rw[iw (by simp[hl]),dI] at h
 rcases iF.mp h with z|z
 ·rw[cY,<- List.take_zipWith,<- cY] at z
  exact .inr (cF z)
 ·rcases kj.mp z with z|z
  ·exact .inl z
  ·rw[cY,<- List.drop_zipWith,<- cY] at z
   exact .inr (cG z)
section
variable {prog:mX}{w:nC}{A:nB}{E:nE->nh->Prop}{s:nh}
def Ao {h:nM}{a:nP}{o:Obj}(ho:h.get? a=Ψ o)(es:Array (Int×nE))(t:mN)(ex:o.ExactSet){es0:Array (Int×nE)}{ep0:Nat}{t0:mN}(hd:o.data=.set es0 ep0 t0):∃ o' ep',(h.update a (l0 es t)).get? a=Ψ o'/\o'.ExactSet/\o'.data=.set es ep' t:=by
 exact⟨_,ep0+1,cw (l0 es t) ho (by rw[mz es t hd];rfl),?_,?_⟩
 ·rw[mz es t hd];exact ex
 ·rw[mz es t hd]
def EQ {t:mN}{n j:Nat}(T:TabT t n)(ej:t.slot j=.empty):(t.put j).1.mask=t.mask/\(t.put j).1.dummies = #[]/\uj (t.put j).1.place/\(t.put j).1.place.size=n+1:=by
 exact⟨rfl,?_,?_,?_⟩
 ·show (if kM t.dummies j then _ else t.dummies) = #[]
  rw[T.dm,has_none];rfl
 ·exact yC T.rs λz=>?_
  unfold jV at ej
  rw[if_pos (by rw[z];simp)] at ej
  cases ej
 ·show (eV t.place _ j).size=_
  rw[<- dk,pL _ _ _ (qB T.rs j).1]
  have:=(qB T.rs j).1
  have:=T.sz
  simp
  lia
def FT {es:Array (Int×nE)}{p:Nat}{x e:Int×nE}(hp:p<=es.size)(h:e∈(eV es p x).toList):e=x ∨ e∈es.toList:=by
 rw[pL _ _ _ hp] at h
 rcases iF.mp h with z|z
 ·exact .inr (cF z)
 ·rcases kj.mp z with z|z
  ·exact .inl z
  ·exact .inr (cG z)
def DK {es:Array (Int×nE)}{p:Nat}{x:Int×nE}(hp:p<=es.size):(eV es p x).size=es.size+1:=by
 rw[<- dk,pL _ _ _ hp]
 simp
 lia
def Lg {es:Array (Int×nE)}{od:Array Nat}(h1:od.size=es.size)(h2:∀ i∈od.toList,i<es.size):(od.filterMap (es[·]?)).size=es.size/\(∀ e∈(od.filterMap (es[·]?)).toList,e∈es.toList)/\(od.filterMap (es[·]?)).toList=od.toList.map λi=>es.getD i (0,.none):=by
 let e0:(od.filterMap (es[·]?)).toList=od.toList.filterMap (es[·]?):=Array.toList_filterMap
 let e1:od.toList.filterMap (es[·]?)=od.toList.map λi=>es.getD i (0,.none):=by
  clear h1 e0
  generalize od.toList=l at h2
  induction l with
  | nil=>rfl
  | cons x r ih =>
   let hx:=h2 x dO
   rw[da,bg hx,kn,ih λi hi=>h2 i (cJ _ hi)]
   simp[Array.getD,hx]
 exact⟨?_,λe he=>?_,e0.trans e1⟩
 ·rw[<- h1,<- dk,e0,e1,iK,dk]
 ·rw[e0] at he
  let(i,_,e1):=dN.mp he
  exact cQ.mpr (cz e1)
def BV {k k':List Int}{vs:List nE}(h:ItemsAre (intKind prog w) k vs)(h':ItemsAre (intKind prog w) k' vs):k=k':=by
 induction h generalizing k' with
 | nil=>cases h';rfl
 | cons a _ ih =>
  cases h' with
  | cons a' r' =>
   rw[ih r']
   let(t,e):=xm a
   let(t',e'):=xm a'
   rw[e] at e'
   cases e'
   rfl
def AT {h:nM}{k k':List Int}{b:nP}(x:IsT prog w h k b)(y:IsT prog w h k' b):k=k':=by
 let(o,Z7,n,e1,_,e2,e3):=x
 let(o',its',n',f1,_,f2,f3):=y
 rw[e1] at f1;cases f1
 rw[e2] at f2;cases f2
 exact BV e3 f3
def add_tup {a b:nP}{k:List Int}{gs:List (nP×List Int)}{Q:Bool->nh->Prop}(hS:SetT s.heap a gs)(hk:IsT prog w s.heap k b)(hg:∀ g∈gs,IsT prog w s.heap g.2 g.1)(hr:gs.length+1<=300)(hu:A.units<cLine)
  (q1:(∀ g∈gs,g.2≠k)->∀ h',lh a s.heap h'->SetT h' a (gs++[(b,k)])->Q Ω { s with heap:=h' })(q0:(∃ g∈gs,g.2=k)->Q Ξ s):wpAny (model prog w) A (setAddHashed a (.ref b) (hT k)) Q E s:=by
 let(hl,o,es,ep,t,ho,d):=hS
 unfold setAddHashed setAddHashedIn
 exact jI (lR (eG ho d.dat d.tab.fits ?_))
 dsimp only
 rw[show byScan (.ref b) es=Ξ from rfl]
 simp -iota only[dZ,if_false]
 exact lR (zp hk ho d.dat d.tab (λe he=>?_) hu (λ⟨e,he,b',e1,e2⟩=>?_) λn ej hp=>?_)
 ·let(g,h1,rfl):=d.tup e he
  exact⟨_,_,rfl,hg g h1⟩
 ·let(g,h1,rfl):=d.tup e he
  cases e1
  exact lP (q0 ⟨g,h1,AT (hg g h1) e2⟩)
 let occ:∀ n',n'<n->wU t (hT k) n'∈t.place.toList:=λn' hn=>by
  let(i,e,e1,_):=hp n' hn
  exact cH (by simpa using tW e1)
 let nk:∀ g∈gs,g.2≠k:=λg hgm z=>by
  let(i0,hi0):=ck.mp (d.all g hgm)
  let hi0':i0<es.size:=by have:=(aR.mp hi0).1;simpa using this
  obtain⟨j0,hj0⟩:∃ j0,t.place[i0]?=Ψ j0:=⟨_,bg (by rw[d.tab.sz];exact hi0')⟩
  let sl:=slot_of d.tab hj0
  let(n0,p1,p2):=d.rch (j0,(hT g.2,.ref g.1)) (ck.mpr ⟨i0,by rw[aQ];exact⟨by simpa using hj0,hi0⟩⟩)
  let p1:wU t (hT k) n0=j0:=by rw[<- z];exact p1
  rcases Nat.lt_trichotomy n n0 with y|y|y
  ·exact Ia d.tab (by rw[<- z];exact p2 n y) ej
  ·rw[y,p1,sl] at ej;cases ej
  ·let(i,e,e1,e2,e3):=hp n0 y
   rw[p1,sl] at e1
   cases e1
   let e2:es.toList[i0]?=Ψ e:=by simpa using e2
   rw[hi0] at e2
   cases e2
   let(k',b',f1,f2,f3):=e3 (by rw[z])
   cases f1
   exact f3 ((AT f2 (hg g hgm)).trans z)
 let q:=q1 nk
 generalize ejd:wU t (hT k) n=j at ej
 dsimp only
 exact lR (eG ho d.dat d.tab.fits ?_)
 dsimp only
 let(p1,p2,p3,p4):=EQ d.tab ej
 let pl:(t.put j).2<=es.size:=by rw[<- d.tab.sz];exact (qB d.tab.rs j).1
 let sz1:=DK (x:=(hT k,Value.ref b)) pl
 let T0:=d.tab.lo
 let m4:=d.tab.m4
 let dsz:=d.sz
 let lst1:(eV es (t.put j).2 (hT k,Value.ref b)).toList=es.toList.take (t.put j).2++(hT k,Value.ref b) :: es.toList.drop (t.put j).2:=pL _ _ _ pl
 let lst2:(t.put j).1.place.toList=t.place.toList.take (t.put j).2++j :: t.place.toList.drop (t.put j).2:=pL _ _ _ (by rw[d.tab.sz];exact pl)
 let up:∀ x,x∈t.place.toList->x∈(t.put j).1.place.toList:=λx hx=>by
  rw[lst2]
  rw[<- cb (t.put j).2 t.place.toList] at hx
  rcases iF.mp hx with z|z
  ·exact cK _ z
  ·exact cm _ (cJ _ z)
 let rch1:∀ p∈(t.put j).1.place.toList.zip (eV es (t.put j).2 (hT k,Value.ref b)).toList,Pth (t.put j).1 (·∈(t.put j).1.place.toList) p.2.1 p.1:=λp hp=>by
  rw[lst1,lst2] at hp
  rcases Ez (by simp[d.tab.sz]) hp with rfl|z
  ·exact Pth.mono (t:=t) (occ:=(·∈t.place.toList)) ⟨n,ejd,occ⟩ p1.symm up
  ·exact (d.rch p z).mono p1.symm up
 let all1:∀ g∈gs++[(b,k)],(hT g.2,Value.ref g.1)∈(eV es (t.put j).2 (hT k,Value.ref b)).toList:=λg hgm=>by
  rw[lst1]
  rcases iF.mp hgm with z|z
  ·have:=d.all g z
   rw[<- cb (t.put j).2 es.toList] at this
   rcases iF.mp this with y|y
   ·exact cK _ y
   ·exact cm _ (cJ _ y)
  ·rw[dL.mp z];simp
 generalize hes1:eV es (t.put j).2 (hT k,Value.ref b)=es1 at sz1 rch1 all1 ⊢
 let tup1:∀ e∈es1.toList,∃ g∈gs++[(b,k)],e=(hT g.2,.ref g.1):=λe he=>by
  rw[<- hes1] at he
  rcases FT pl he with rfl|he
  ·exact⟨(b,k),∅,rfl⟩
  ·let(g,h1,h2):=d.tup e he
   exact⟨g,by simp[h1],h2⟩
 generalize (t.put j).1=t1 at p1 p2 p3 p4 rch1 ⊢
 let main:wpAny (model prog w) A (do
   storeSet a es1 t1
   if (!Ξ && t1.tooFull)=Ω then do
    setRelay a (jg (es.size+1))
    pure Ω
   else pure Ω) Q E s:=by
  exact lR (eF ho d.dat ?_ (by rw[sz1];exact kX (show es.size+1<=300 by lia) (·)))
  let sb:=dh s.heap a (l0 es1 t1)
  let(o1,ep1,ho1,ex1,hd1):=Ao ho es1 t1 d.ex d.dat
  by_cases tf:t1.tooFull=Ω
  ·rw[tf]
   simp -iota only[jB,kF,if_true]
   let tf':t.mask*3<=(es.size+1)*5:=by
    unfold fZ jZ at tf
    rw[p2,p4,p1] at tf
    simpa using tf
   let(g1,g2,g3):=F1 m4 T0 tf' ⋯
   let f1:t1.fits es1.size=Ω:=by
    simp -iota only[jY,jZ,p2,p4,sz1,p1,gR,beq_iff_eq,decide_eq_true_eq]
    exact⟨trivial,by simp;lia⟩
   unfold setRelay
   exact lR (lR (eG ho1 hd1 f1 ?_))
   dsimp only
   rw[if_neg (mf.mpr (kX g3 (·)))]
   let(t2,od,l1,l2,l3,l4,l5,l6,l7,l8,l9,l10,l11):=FC (t0:={ t1 with mask:=dB (jg (es.size+1))-1 }) g1 t1.finger (t1.movedTo (dB (jg (es.size+1))-1)) t1.led t1.plain (es1.map (·.1)) (by rw[jE,sz1];show es.size+1<=dB (jg (es.size+1))-1;lia)
   let l2:t2.mask=dB (jg (es.size+1))-1:=l2
   let rl:t1.relaid (es1.map (·.1)) (jg (es.size+1))=Ψ (t2,od):=l1
   rw[rl]
   let ms:(es1.map (·.1)).size=es1.size:=jE ..
   let(r1,r2,r3):=Lg (es:=es1) (by rw[l8,ms]) (λi hi=>by have:=l9 i hi;rwa [ms] at this)
   exact lR ?_
   show wpAny _ _ (if ((od.filterMap (es1[·]?)).size != es1.size)=Ω then _ else pure (od.filterMap (es1[·]?),t2)) _ _ _
   rw[if_neg (by rw[r1];simp)]
   exact lP ?_
   dsimp only
   exact eF ho1 hd1 ?_ (by rw[r1,sz1];exact kX (show es.size+1<=300 by lia) (·))
   let(o2,ep2,ho2,ex2,hd2):=Ao ho1 (od.filterMap (es1[·]?)) t2 ex1 hd1
   let sb2:=sb.trans (dh _ a (l0 (od.filterMap (es1[·]?)) t2))
   exact lP (q _ sb2 ⟨by simp;lia,o2,_,ep2,t2,ho2,ex2,hd2,by rw[r1,sz1,dsz];simp,λe he=>tup1 e (r2 e he),λg hgm=>?_,⟨by rw[l2];exact g1,l5,l6,by rw[l7,ms,r1],?_⟩,λp hp=>?_⟩)
   ·let(i,hi):=ck.mp (all1 g hgm)
    let hi':i<es1.size:=by have:=(aR.mp hi).1;simpa using this
    rw[r3]
    exact k6.mpr ⟨i,l10 i (by rw[ms];exact hi'),?_⟩
    have:es1[i]?=Ψ (hT g.2,Value.ref g.1):=by simpa using hi
    rw[aA,this];rfl
   ·rw[r1,sz1,l2];exact g2
   ·rw[r3,<- List.map_id t2.place.toList,List.zip_map,k6] at hp
    let(q,hq,rfl):=hp
    let(h,f2,f3):=l11 q hq
    rw[gS,fw] at f2
    let(e,f4,rfl):=bK.mp f2
    have:es1[q.2]?=Ψ e:=by simpa using f4
    show Pth t2 _ (es1.getD q.2 (0,.none)).1 q.1
    rw[aA,this]
    exact f3
  ·rw[Bool.not_eq_true] at tf
   rw[tf]
   simp -iota only[jB,jC,dZ,if_false]
   exact lP (q _ sb ⟨by simp;lia,o1,es1,ep1,t1,ho1,ex1,hd1,by rw[sz1,dsz];simp,tup1,all1,⟨by rw[p1];exact m4,p2,p3,by rw[p4,sz1],?_⟩,rch1⟩)
   unfold fZ jZ at tf
   rw[p2,p4,p1] at tf
   rw[sz1,p1]
   simpa using tf
 split
 ·exact lR (yU hk ?_)
  simp -iota only[if_true]
  exact main
 ·exact lR (lP ?_)
  simp -iota only[if_true]
  exact main
end
def SetT.none {w:nC}{h:nM}{a:nP}(e:h.get? a=Ψ (freshSet w)):SetT h a []:=⟨∅,_,#[],0,_,e,⟨rfl,rfl,rfl⟩,rfl,rfl,λe he=>absurd he ∅,λg hg=>absurd hg gu,⟨.inl rfl,rfl,λi j hi=>absurd hi (iq _),rfl,(show 0*5<7*3 by decide)⟩,λp hp=>absurd hp ∅⟩
abbrev SetR (a:nP)(gs:List (nP×List Int)):HO:=.ext λh=>SetT h a gs
def yz {prog:mX}{w:nC}:∀ {k:List Int}{Z7:List nE},L2.Vals (k.map V.int) Z7->ItemsAre (intKind prog w) k Z7
 | [],Z7,h=>by cases h;exact .nil
 | i :: k,Z7,h=>by
  cases h with
  | cons h1 h2 =>
   let(t,rfl):=h1
   exact .cons (intKind_is _ _ _ _) (yz h2)
def tup_isT {prog:mX}{w:nC}{H:Hp}{h:nM}{b:nP}{k:List Int}(x:ObjOk prog w H h b (.tup (k.map V.int))):IsT prog w h k b:=by
 let(_,Z7,hv,o,ho,hc,n,hd):=x
 exact⟨o,Z7.toArray,n,ho,hc,hd,yz hv⟩
end Kq
namespace L2
open PySem PySem.Spec PyProof.Rows
def Ck {Y:Cx}{Z9:List (nP×Obj)}{σ:St}{H:Hp}{s:nh}{Z8 b:nP}{gs:List (nP×List Int)}{k:List Int}{Q:nE->nh->Prop}{E:nE->nh->Prop}(I:Inv Y Z9 σ H s)(hy:H Z8=Ψ (Kq.SetR Z8 gs))(hb:H b=Ψ (.tup (k.map V.int)))(hd:∀ g∈gs,H g.1=Ψ (.tup (mU V.int g.2)))(hz:gs.length+1<=300)(hu:Y.A.units+1<cLine)
  (q:∀ s',Inv Y Z9 σ (if k∈gs.map (·.2) then H else oT H Z8 (Kq.SetR Z8 (gs++[(b,k)]))) s'->Q .none s'):wpAny (model Y.prog Y.w) Y.A (call (.builtin "set.add") [.ref Z8,.ref b]) Q E s:=by
 let hS:Kq.SetT s.heap Z8 gs:=(show ObjOk Y.prog Y.w H s.heap Z8 (Kq.SetR Z8 gs) from I.hok Z8 _ hy).1
 let hk:Kq.IsT Y.prog Y.w s.heap k b:=Kq.tup_isT (I.hok b _ hb)
 let hT:s.TypeIs (.ref Z8) "set":=by let(_,o,_,_,_,ho,d):=hS;exact⟨o,ho,d.ex.1⟩
 exact fV F.slot_set_add hT F.entry_set_add ?_ (F.args_set_add_2 _ _)
 unfold m7.«set.add» Builtin.Frozenset.oneOther
 simp![List.isEmpty_nil,bind_assoc]
 unfold Builtin.Frozenset.addrOf setAdd
 exact lR (lP (lR (lP (lR (jI (lR (wpAny_pyHash_tuple (knd:=intKind Y.prog Y.w) hu hk ?_)))))))
 exact Kq.add_tup (s:={ s with toks:=s.toks+(k.length+1) }) hS hk (λg hg=>Kq.tup_isT (I.hok g.1 _ (hd g hg))) hz hu (λnk h' sb x=>?_) λ⟨g,hg,e⟩=>?_
 ·rw[if_neg λz=>by let(g,hg,e):=k6.mp z;exact nk g hg e] at q
  exact lP ⟨_,rfl,q _ (I.write (x:=Z8) (e:=Z8) (t':=s.toks+(k.length+1)) (by rw[hy];exact True.intro) (.inl rfl) (λb o hb e=>(sb.2 b hb).trans e) ?_ ⟨x,?_,λh1 h2 y kk=>y.keep kk⟩)⟩
  all_goals
   let(_,o,_,_,_,ho,_):=x
   exact⟨o,ho⟩
 ·rw[if_pos (k6.mpr ⟨g,hg,e⟩)] at q
  exact lP ⟨_,rfl,q _ (I.kept (t':=s.toks+(k.length+1)) λ_ _ e=>e)⟩
section
variable {prog:mX}{w:nC}{A:nB}{R:nj->nh->Prop}{s:nh}
def zl {Z3:Expr}{Z1 Z5:Expr}{Z4:List Expr}{scope:nF}{pos:Pos}{it Z8:nE}{env:Env}
  (h0:codeAny (model prog w) A (.compLoop (.SetComp Z3 [⟨Z1,Z5,Z4,0⟩] scope pos) 0 it Z8 env) R s)
  (h:wpAny (model prog w) A (pyIter it) (λit' s'=>codeAny (model prog w) A (.compLoop (.SetComp Z3 [⟨Z1,Z5,Z4,0⟩] scope pos) 0 it' Z8 env) R s')
   (notedBy (model prog w) A env λx s'=>R (.error x) s') s) :
  codeAny (model prog w) A (.compStart (.SetComp Z3 [⟨Z1,Z5,Z4,0⟩] scope pos) 0 it Z8 env) R s:=by
 exact codeAny_of_tree ?_
 show wpAny _ _ ((compStart (.SetComp Z3 [⟨Z1,Z5,Z4,0⟩] scope pos) 0 it Z8 env).onRaise (λx=>do noteFrame x env;standAt theWindowsPlace)) _ _ s
 exact wpAny_notedAt ?_
 unfold compStart
 show wpAny _ _ (ask >>= _) _ _ s
 exact lR (fW (wpAny_ite ?_))
 split
 ·first
   | exact lR (lP (lP (And.intro rfl h0)))
   | exact lP (And.intro rfl h0)
 ·first
   | exact lR (lO (lR (jF (lR (lQ h (λit' s' h'=>lP (And.intro rfl h')) λ_ _ x=>x)))))
   | (exact lR (lO ?_);show wpAny _ _ (standAt Z5.pos >>= _) _ _ s;exact lR (jF (lR (lQ h (λit' s' h'=>lP (And.intro rfl h')) λ_ _ x=>x))))
end
abbrev QP (te:TE):nP->St->Hp->(Hp->Prop)->Prop:=λZ8 σ H K=>te σ H λv H4=>∃ gs b k,v=.ref b/\H4 Z8=Ψ (Kq.SetR Z8 gs)/\H4 b=Ψ (.tup (mU V.int k))/\(∀ g∈gs,H4 g.1=Ψ (.tup (mU V.int g.2)))/\gs.length+1<=300/\K (if k∈gs.map (·.2) then H4 else oT H4 Z8 (Kq.SetR Z8 (gs++[(b,k)])))
abbrev CA (wi:TI)(g:TG)(tt:TT)(te:TE) (own:Nat):TE:=uJ wi g tt (QP te) (λa=>Kq.SetR a []) own
section
variable {X:Cx}{Z3 tg Z5:Expr}{Z4:List Expr}{scope:nF}{own:List Str}{pos:Pos}{wi:TI}{g:TG}{tt:TT}{te:TE}
def Gd:CKind X (.SetComp Z3 [⟨tg,Z5,Z4,0⟩] scope pos) tg Z5 Z4 scope (newSet (.type "set")) (Kq.freshSet X.w) (λa=>Kq.SetR a []) (xu Z3) :=
 ⟨λ_ _ _=>rfl,λ_ _ _ _=>rfl,λ_ _ _=>rfl,λ_ _=>rfl,zl,λq=>Dl q,λ{_ _ _ s} I=>I.laid (a:=s.heap.objs.size) (o:=Kq.SetR s.heap.objs.size []) (t':=s.toks) (λ_ _ q=>bS _ q) (lJ _) ⟨Kq.SetT.none (dc _ rfl),⟨_,dc _ rfl⟩,λh1 h2 y kk=>y.keep kk⟩,λ_=>by rw[arm_eval_SetComp];rfl,rfl⟩
def C9 {Y:Cx}(hu:Y.A.units+1<cLine)(he:PE Y Z3 te):KG Y (xu Z3) (QP te):=by
 intro Z9 s σ H Z8 c K I q
 unfold xu
 exact lR (lR (oX (he _ s σ H _ I q) λy s11 ⟨v11,H11,I11,r11,bs,b,k,ev,hys,hb,hd,hz,kk⟩=>lR (jF (lR ?_))))
 subst ev
 cases r11
 exact Ck I11 hys hb hd hz hu λs12 I12=>lP (lP ⟨rfl,_,I12,kk⟩)
def Dd (hu:X.A.units+1<cLine)(hc:X.calm=Ω)(SC:CScope X scope own)(hi:PI X.nox tg Z5 wi)
  (Z2:∀ fp C s H,PG (rn X scope own fp C s H) tg g/\PTs (rn X scope own fp C s H) Z4 tt/\PE (rn X scope own fp C s H) Z3 te)
  (hs:∀ x,foldedSetIterable Z5 X.env x=pure x:=by intro _;rfl) :
  PE X.nox (.SetComp Z3 [⟨tg,Z5,Z4,0⟩] scope pos) (CA wi g tt te own.length) :=
 uX hc SC Gd hi (λfp C s H=>let ⟨a,b,c⟩:=Z2 fp C s H;⟨a,b,C9 hu c⟩) hs
end
end L2
namespace Kq
open PySem PySem.Spec PyProof.Rows L2
abbrev El (Z8:List (List Int))(k:List Int):List (List Int):=if k∈Z8 then Z8 else Z8++[k]
abbrev rK (n m:Nat)(tg:Tg)(t:BW)(e:EW):List FV->List (List Int)->nT->(List (List Int)->nT->Prop)->Prop
 | [],Z8,L,Q=>Q Z8 L
 | x :: xs,Z8,L,Q=>gW tg x (L++jt m Φ) λL1=>t L1 λb L2=>if b=Ω then e L2 λv L3=>∃ k:List Int,v=.tup (k.map .int)/\Z8.length<300/\rK n m tg t e xs (El Z8 k) (L3.take n) Q else rK n m tg t e xs Z8 (L2.take n) Q
abbrev uD (n m:Nat)(it:AW)(tg:Tg)(t:BW)(e:EW):EW:=λL Q=>it L λxs L1=>L1.length=n/\rK n m tg t e xs [] L1 λks L2=>Q (.int ks.length) L2
nonrec def Ju (n m:Nat)(it:AW)(tg:Tg)(t:BW)(e:EW)(L:nT)(Q:FV->nT->Prop):uD n m it tg t e L Q=(it L λxs L1=>L1.length=n/\rK n m tg t e xs [] L1 λks L2=>Q (.int ks.length) L2):=propext m6
def Gp (Z8:List (List Int))(k:List Int):(El Z8 k).length<=Z8.length+1:=by
 unfold El;split<;>simp
def wA {α:Type}{tg:Tg}{n m:Nat}{e:EW}{f:α->FV}{g:α->List Int}{Q:List (List Int)->nT->Prop}{L:nT}:∀ (xs:List α)(Z8:List (List Int)),Z8.length+xs.length<=300 ->
  (∀ x∈xs,∀ K:FV->nT->Prop,K (.tup ((g x).map .int)) L->gW tg (f x) (L++jt m Φ) λL1=>e L1 λv L3=>K v (L3.take n))->Q ((xs.map g).foldl El Z8) L->rK n m tg o6 e (xs.map f) Z8 L Q
 | [],Z8,_,_,E=>E
 | x :: xs,Z8,hl,B,E=>B x dO (λv L'=>∃ k:List Int,v=.tup (k.map .int)/\Z8.length<300/\rK n m tg o6 e (xs.map f) (El Z8 k) L' Q) ⟨g x,rfl,by simp at hl;lia,wA xs (El Z8 (g x)) (by have:=Gp Z8 (g x);simp at hl;lia) (λy hy=>B y (cJ _ hy)) E⟩
def Bn:∀ (ks Z8:List (List Int)),(Z8++ks).Nodup->ks.foldl El Z8=Z8++ks
 | [],Z8,_=>by simp
 | k :: ks,Z8,nd=>by
  rw[iM,show El Z8 k=Z8++[k] from if_neg λz=>(fq.mp nd).2.2 _ z _ dO rfl,Bn ks (Z8++[k]) (by simpa using nd)]
  simp
def Cf {α:Type}{tg:Tg}{n m:Nat}{e:EW}{f:α->FV}{g:α->List Int}{Q:List (List Int)->nT->Prop}{L:nT}(xs:List α)(Z8:List (List Int))(nd:(Z8++xs.map g).Nodup)(hl:Z8.length+xs.length<=300)
  (B:∀ x∈xs,∀ K:FV->nT->Prop,K (.tup ((g x).map .int)) L->gW tg (f x) (L++jt m Φ) λL1=>e L1 λv L3=>K v (L3.take n))(q:Q (Z8++xs.map g) L):rK n m tg o6 e (xs.map f) Z8 L Q :=
 wA xs Z8 hl B (by rw[Bn _ _ nd];exact q)
section
variable {K:kP}{c:Cn}{md:Md}{L:nT}{σ:L2.St}{S H:Hp}
def xX:∀ {k:List Int}{xs:List V},RVs K S (k.map .int) xs->xs=k.map V.int
 | [],xs,h=>h
 | i :: k,xs,q1=>by
  let(v,r,e,h1,h2):=q1
  rw[e,xX h2,kn,show v=V.int i from h1]
def Cc {J:It}{xs:List FV}{n m:Nat}{tg:Tg}{t:BW}{e:EW}{Q:VK}{Q1:List (List Int)->nT->Prop}(I:Iv K c md L σ S H)(hJ:Cr K c md J xs S)(hL:L.length=n)(hmd:md.length<=n)(ht:qW md tg=Ω)(hg:uI n tg=Ω)(h:rK n m tg t e xs [] L Q1)
  (k:∀ Z8 (gs:List (nP×List Int)) ks L' S' H',Q1 ks L'->H' Z8=Ψ (SetR Z8 gs)->gs.length=ks.length->Iv K c md L' σ S' H'->Same S S'->Q (.ref Z8) H') :
  ∀ Z8,H Z8=Φ->∃ W:Nat->Nat->Hp->Prop,(∃ m,W 0 m (oT H Z8 (SetR Z8 [])))/\∀ i j H,W i j H ->
   (J.stop i H/\Q (.ref Z8) H) ∨ (J.go i H/\∀ x H',J.yld i H x H'->gT K tg x (σ++jt m Φ) H' λσ2 H2=>Wk (σ++jt m Φ) σ2/\lb K md t σ2 H2 λb H3 =>
    if b=Ω then QP (lv K md e) Z8 σ2 H3 λH4=>∃ m',m'<j/\W (i+1) m' H4 else ∃ m',m'<j/\W (i+1) m' H3):=by
 intro Z8 hacc
 let h0:=I.h0 hacc
 let hp:∀ p∈c.pr,p.1≠Z8:=(I.fresh hacc).2.1
 let hz:=I.fzp
 exact sC (α:=List (List Int)) (β:=List (nP×List Int)) (fr:=λgs=>{ c with pr:=(Z8,SetR Z8 gs) :: c.pr }) (P:=λks gs S=>ks=gs.map (·.2)/\∀ g∈gs,S g.1=Ψ (.tup (g.2.map V.int))) (N:=λ_=>0) (Cm:=λxs ks L=>rK n m tg t e xs ks L Q1) (em:=λks L3 K'=>e L3 λv L4=>∃ k:List Int,v=.tup (k.map .int)/\ks.length<300/\K' (El ks k) L4) (a0:=[]) (b0:=[]) ((I.lay hacc _).prot n5 (I.sn hacc) (λj w hm hj=>(I.fresh hacc).2.2 j w (Mo.w_imm hm) hj) rfl) hJ hL hmd ht hg ⟨rfl,λg hg=>absurd hg gu⟩ rfl h (λ_ _ _ _ _ _ I _=>I.unprot hz) (λ_ _ _ _ ⟨e,r⟩ s=>⟨e,λg hg=>s _ _ (r g hg)⟩) (λ_ _ _ _ h=>h) (λks gs L3 σ2 S3 H3 K' Z hn I3 ⟨eg,r⟩ hv kz=>?_) λks gs L' S' H' q I' ⟨eg,r⟩ s'=>?_
 ·exact⟨_,L3,S3,_,I3,hv,λv L4 hv u S4 H4 r4 I4 s4=>?_⟩
  let(kk,rfl,hb,hv):=hv
  let(b,ys,rfl,sb,ry):=r4
  cases xX ry
  subst eg
  exact⟨gs,b,kk,rfl,(I4.prs (Z8,SetR Z8 gs) dO).1,I4.sub _ _ sb,λg hg=>I4.sub _ _ (s4 _ _ (r g hg)),by simp at hb ⊢;lia,?_⟩
  by_cases z:kk∈gs.map (·.2)
  ·rw[if_pos z]
   rw[show El (gs.map (·.2)) kk=gs.map (·.2) from if_pos z] at hv
   exact kz _ gs L4 S4 _ hv I4 ⟨rfl,λg hg=>s4 _ _ (r g hg)⟩ s4 (lH _)
  ·rw[if_neg z]
   rw[show El (gs.map (·.2)) kk=gs.map (·.2)++[kk] from if_neg z] at hv
   exact kz _ (gs++[(b,kk)]) L4 S4 _ hv (I4.regrow h0 hp hz rfl) ⟨∅,λg hg=>?_⟩ s4 (lH _)
   rcases iF.mp hg with y|y
   ·exact s4 _ _ (r g y)
   ·rw[dL.mp y];exact sb
 ·exact k Z8 gs _ L' S' H' q (I'.prs (Z8,SetR Z8 gs) dO).1 (by rw[eg];simp) (I'.unprot hz) s'
end
section
variable {X:Cx}{C:CC}{n:Nat}{sp:kP->Nat->Sp}{scope:nF}{own:List Str}{Z3 ZY Z5:Expr}{Z4:List Expr}{nn m:Nat}{md':Md}{it:AW}{tg:Tg}{t:BW}{e:EW}{pos p p2:Pos}
inductive rLenS (xs:List V)(H:Hp)(Q:VK):Prop
 | mk (a:nP)(bs:List (nP×List Int))(_:xs=[.ref a])(_:H a=Ψ (SetR a bs))(_:Q (.int bs.length) H):rLenS xs H Q
def JE:oR X (.builtin "len") rLenS:=by
 rintro Z9 s σ H xs us Q I r ⟨a,bs,rfl,ha,k⟩
 let(u,rfl,ru):=vals1 r
 cases (show u=Value.ref a from ru)
 let((hb,o,es,ep,t,ho,d),_,_):=(show ObjOk X.prog X.w H s.heap a (SetR a bs) from I.hok a _ ha)
 let hf:(es.size:Int)<2 ^ 63:=by rw[d.sz];lia
 exact call_len_set ho d.ex d.dat d.tab.fits hf ?_
 rw[d.sz]
 exact⟨.int bs.length,H,I.tok _,⟨_,rfl⟩,k⟩
def zn (h:CompOk X C n sp scope own Z3 ZY Z5 Z4 nn m md' it tg t e){σ:L2.St}{H:Hp}{Q:VK}:lv X.K C.md (uD nn m it tg t e) σ H Q->CA (li X.K C.md md' it) (gT X.K tg) (lb X.K md' t) (lv X.K md' e) own.length σ H λv H1=>rLenS [v] H1 Q:=by
 let h0:=b2 h.st;let h1:=b2 h0.1;let h2:=b2 h1.1;let h3:=b2 h2.1;let h4:=b2 h3.1;let h5:=b2 h4.1;let h6:=b2 h5.1
 rintro⟨c,L,S,Q0,I,hh,k⟩
 exact⟨c,L,S,_,I,hh,λxs L1 hx J c' S1 H1 I1 un e0 hJ s1=>?_⟩
 let(hl,hc):=hx
 rw[de h5.2]
 exact Cc (Q:=λv H1=>rLenS [v] H1 Q) I1 hJ hl (de h4.2) h2.2 h1.2 hc λZ8 bs ks L' S' H' q ha hb I' s'=>?_
 exact⟨Z8,bs,rfl,ha,by rw[hb];exact k _ L' q (.int ks.length) S' H' rfl (un _ _ _ _ I') (s1.trans s')⟩
def B6 (G:Good X C n sp)(hg:C.gl (kL "len")=Ω)(h:CompOk X C n sp scope own Z3 ZY Z5 Z4 nn m md' it tg t e):FE X C (.Call (.Name (kL "len") p) [.SetComp Z3 [⟨ZY,Z5,Z4,0⟩] scope p2] [] pos) (uD nn m it tg t e):=by
 let h0:=b2 h.st;let h1:=b2 h0.1;let h2:=b2 h1.1;let h3:=b2 h2.1;let h4:=b2 h3.1;let h5:=b2 h4.1;let h6:=b2 h5.1
 let hu:X.A.units+1<cLine:=by have:=G.room.units;lia
 let(s1,s2,s3):=h.blk G
 exact PE.imp (qZ JE (G.gl hg) (G.blt "len" (·)) (by nofun) (oy (Dd hu G.calm s1 h.it s2 s3) pM (nX rfl)) (by nofun) (by nofun) (nX rfl) rfl) λσ H Q q=>zn h q
end
abbrev ltN:FV->FV->Option FV:=qy λi j=>Ψ (.bl (Δ (i<j)))
abbrev O6:FV->FV->Option FV:=qy λi j=>Ψ (.bl (Δ (i<=j)))
section
variable {X:Cx}{C:CC}{a b d:Expr}{ea eb ec:EW}{pos:Pos}
def P9 (ha:FE X C a ea)(hb:FR X C b eb):FE X C (.Compare a [.Lt] [b] pos) (n6 ltN ea eb):=vk CU ha hb (pZ _ (·) (·))
def QD (ha:FE X C a ea)(hb:FR X C b eb):FB X C (.Compare a [.Lt] [b] pos) (n8 (n6 ltN ea eb)):=t7 ze CU ha hb (pZ _ (·) (·))
def Mr (ha:FE X C a ea)(hb:FE X C b eb)(hc:FR X C d ec)(hm:lastMarks [.LtE,.Lt] [b,d]=Ξ):FE X C (.Compare a [.LtE,.Lt] [b,d] pos) (vt O6 ltN ea eb ec):=DT ze Ln CU ha hb hc hm
end
nonrec def k_lti (i j:Int)(Q:FV->Prop):wp (ltN (.int i) (.int j)) Q=Q (.bl (Δ (i<j))):=propext m6
nonrec def k_lei (i j:Int)(Q:FV->Prop):wp (O6 (.int i) (.int j)) Q=Q (.bl (Δ (i<=j))):=propext m6
inductive RM (K:kP)(c:Cn)(md:Md)(L:nT)(σ:L2.St)(S H:Hp):List Bool->List FV->List V->Prop
 | nil:RM K c md L σ S H [] [] []
 | imm {ms vs xs v x}:RV K S v x->RM K c md L σ S H ms vs xs->RM K c md L σ S H (Ξ :: ms) (v :: vs) (x :: xs)
 | own {ms vs xs v a}:OwnAt K S H a v->sk c md L σ a->(∀ k:Nat,ms[k]?=Ψ Ω->xs[k]?≠Ψ (V.ref a))->RM K c md L σ S H ms vs xs->RM K c md L σ S H (Ω :: ms) (v :: vs) (V.ref a :: xs)
inductive lm (K:kP)(md:Md)(ms:List Bool)(e:AW)(σ:L2.St)(H:Hp)(Q:List V->Hp->Prop):Prop
 | mk (c:_)(L:_)(S:_)(Q0:_)(_:Iv K c md L σ S H)(_:e L Q0)(_:∀ vs L',Q0 vs L'->∀ xs S' H',RM K c md L' σ S' H' ms vs xs->Iv K c md L' σ S' H'->Same S S'->Q xs H'):lm K md ms e σ H Q
abbrev FM (X:Cx)(C:CC)(xs:List Expr)(ms:List Bool)(e:AW):Prop:=PA X.nox xs (lm X.K C.md ms e)
section
variable {X:Cx}{C:CC}{n:Nat}{sp:kP->Nat->Sp}{fr:Bool}{a:Expr}{xs:List Expr}{ms:List Bool}{e:EW}{as:AW}{pos:Pos}
variable {K:kP}{c:Cn}{md:Md}{L:nT}{σ:L2.St}{S H:Hp}
def RM.ne {l:nP}{o:HO}{ms:List Bool}{vs:List FV}{xs:List V}(h:RM K { c with pr:=(l,o) :: c.pr } md L σ S H ms vs xs):RM K c md L σ S H ms vs xs/\∀ k:Nat,ms[k]?=Ψ Ω->xs[k]?≠Ψ (V.ref l):=by
 induction h with
 | nil=>exact⟨.nil,λk h=>by cases h⟩
 | imm r _ ih =>
  exact⟨.imm r ih.1,λk hk=>?_⟩
  cases k with
  | zero=>cases hk
  | succ k=>exact ih.2 k hk
 | own o f d _ ih =>
  exact⟨.own o ⟨f.1,λp hp=>f.2.1 p (cJ _ hp),f.2.2⟩ d ih.1,λk hk=>?_⟩
  cases k with
  | zero =>
   intro z
   cases z
   exact f.2.1 (l,_) dO rfl
  | succ k=>exact ih.2 k hk
def IN:FM X C [] [] nU:=PA.imp pM λσ H Q q1=>by let(c,L,S,Q0,I,h,k):=q1;exact k [] L h [] S H .nil I (Same.refl S)
def IM (hs:oh a=Ξ)(h1:FF X C a e)(h2:FM X C xs ms as):FM X C (a :: xs) (Ω :: ms) (nR e as):=PA.imp (oy h1 h2 (nX hs)) λσ H Q q1=>by
 let(c,L,S,Q0,I,h,k):=q1
 exact⟨c,L,S,_,I,h,λv L1 q l S1 H1 o f I1 s1=>?_⟩
 let(o1,ps,us,e9,o2,o3):=o
 let I2:=I1.prot o2 o1 λy u hy hu=>f.2.2 y u (Mo.w_imm hy) hu
 exact⟨_,L1,S1,_,I2,q,λvs L2 q xs S2 H2 rs I3 s2=>?_⟩
 let(g1,g2,g3):=I3.prs (l,vJ v us) dO
 let I4:=I3.unprot I1.fzp
 let(r1,r2):=rs.ne
 exact k _ L2 q _ S2 H2 (.own ⟨g2,ps,us,e9,g1,o3.mono s2⟩ ⟨f.1,f.2.1,λy u hy hu hs=>?_⟩ r2 r1) I4 (s1.trans s2)
 by_cases mo:(nW C.md y).w=Ω
 ·exact g3 y u mo hu hs
 ·let mo:nW C.md y=.frz:=by cases z:nW C.md y with|imm=>exact absurd z hy|frz=>rfl|_=>rw[z] at mo;exact absurd rfl mo
  let(b',f1):=I4.fzm y u mo hu
  let(_,f2,_):=I4.fzs _ f1
  rw[hs] at f2;cases f2
  let(ys,f3):=I1.fzp _ f1
  exact f.2.1 _ f3 rfl
abbrev yp (md:Md):List Nat->List Bool->Bool
 | [],[]=>Ω
 | i :: is,Ξ :: ms=>Δ (nW md i=.imm) && yp md is ms
 | i :: is,Ω :: ms=>(Δ (nW md i=.own) && Δ (i≠0)) && yp md is ms
 | _,_=>Ξ
def RM.seti {i:Nat}{v:FV}{x:V}(hi:nW md i=.imm){ms:List Bool}{vs:List FV}{xs:List V}(h:RM K c md L σ S H ms vs xs):RM K c md (L.set i (Ψ v)) (σ.set i (Ψ x)) S H ms vs xs:=by
 induction h with
 | nil=>exact .nil
 | imm r _ ih=>exact .imm r ih
 | own o f d _ ih =>
  exact .own o ⟨f.1,f.2.1,λy u hy hu=>?_⟩ d ih
  let hyi:i≠y:=λz=>hy (by rw[<- z];exact hi)
  rw[cL hyi] at hu ⊢
  exact f.2.2 y u hy hu
def RM.seto {i:Nat}{v:FV}{l:nP}{ms:List Bool}{vs:List FV}{xs:List V}(h:RM K c md L σ S H ms vs xs):(∀ k:Nat,ms[k]?=Ψ Ω->xs[k]?≠Ψ (V.ref l))->RM K c md (L.set i (Ψ v)) (σ.set i (Ψ (.ref l))) S H ms vs xs:=by
 induction h with
 | nil=>intro _;exact .nil
 | imm r _ ih=>intro g;exact .imm r (ih λk=>g (k+1))
 | own o f d _ ih =>
  intro g
  exact .own o ⟨f.1,f.2.1,λy u hy hu=>?_⟩ d (ih λk=>g (k+1))
  by_cases hyi:i=y
  ·subst hyi
   intro z
   let hl:i<σ.length:=by
    have:=(aR.mp z).1
    rwa [iI] at this
   rw[bO hl] at z
   cases z
   exact g 0 rfl rfl
  ·rw[cL hyi] at hu ⊢
   exact f.2.2 y u hy hu
def K5 {ms:List Bool}{vs:List FV}{xs:List V}:∀ {is:List Nat}{L:nT}{σ:L2.St}{Q:nT->Prop},yp md is ms=Ω->Iv K c md L σ S H->RM K c md L σ S H ms vs xs->wp (tw L is vs) Q->∃ σ' L',(∀ R:L2.St->Hp->Prop,R σ' H->Kr is xs σ H R)/\Q L'/\Iv K c md L' σ' S H:=by
 induction ms generalizing vs xs with
 | nil =>
  intro is L σ Q m I r q
  cases r
  cases is with
  | nil=>exact⟨σ,L,λR r=>⟨rfl,r⟩,q,I⟩
  | cons=>cases m
 | cons b ms ih =>
  intro is L σ Q m I r q
  cases is with
  | nil=>cases m
  | cons i is =>
   cases r with
   | @imm _ vs xs v x r rs =>
    let m:=b2 m
    let(σ',L',g,q,I'):=ih (L:=L.set i (Ψ v)) (σ:=σ.set i (Ψ x)) m.2 (I.setI (de m.1) r) (rs.seti (de m.1)) q
    exact⟨σ',L',λR hr=>⟨x,xs,rfl,g R hr⟩,q,I'⟩
   | @own _ vs xs v l o f d rs =>
    let m:=b2 m
    let m1:=b2 m.1
    let(σ',L',g,q,I'):=ih (L:=L.set i (Ψ v)) (σ:=σ.set i (Ψ (.ref l))) m.2 (I.set (λ_ _=>de m1.2) (λz=>by rw[de m1.1] at z;cases z) (.inr ⟨de m1.1,l,rfl,o,f.1,f.2.1,λy u _ hy hu=>f.2.2 y u hy hu⟩)) (rs.seto d) q
    exact⟨σ',L',λR hr=>⟨.ref l,xs,rfl,g R hr⟩,q,I'⟩
def RM.len {ms:List Bool}{vs:List FV}{xs:List V}(h:RM K c md L σ S H ms vs xs):xs.length=ms.length/\vs.length=ms.length:=by
 induction h with
 | nil=>exact⟨rfl,rfl⟩
 | imm r _ ih=>exact⟨congrArg (· + 1) ih.1,congrArg (· + 1) ih.2⟩
 | own w f d _ ih=>exact⟨congrArg (· + 1) ih.1,congrArg (· + 1) ih.2⟩
def DQ (G:Good X C n sp){a b d:Expr}{px py pz pt p2:Pos}{i j l kt k2:Nat}{nx ny nz:Str}(hm:yp C.md [i,j,l] ms=Ω)(h:zB C i j l nx ny nz px py pz a b d=Ω)(ha:FM X C [a,b,d] ms as):FS X C fr (.Assign [.Tuple [.Name nx px,.Name ny py,.Name nz pz] kt pt] (.Tuple [a,b,d] k2 p2) pos) (oo (o9 as) (.tp [i,j,l])):=by
 unfold zB at h
 simp![gR,decide_eq_true_eq] at h
 let((((((((((((((((((h1,h2),h3),h4),h5),h6),h7),h8),h9),h10),h11),h12),h13),h14),h15),h16),h17),h18),h19):=h
 let lx:X.env.scope.names.lookup nx=Ψ .local:=by rw[G.sc];exact h10
 let ly:X.env.scope.names.lookup ny=Ψ .local:=by rw[G.sc];exact h11
 let lz:X.env.scope.names.lookup nz=Ψ .local:=by rw[G.sc];exact h12
 exact PS.imp (EV (X:=X.nox) G.calm G.nd' (G.ix (decide_eq_true h1)) (G.ix (decide_eq_true h2)) (G.ix (decide_eq_true h3)) h4 h5 h6 lx ly lz ha (sw3 (env:=X.env) G.kind lx ly lz h7 h8 h9 h13 h14 (nb h15) (nb h16) (nb h17) (nb h18) (nb h19))) λD σ H q1=>?_;let(c,L,S,Q0,I,h,k):=q1
 exact⟨c,L,S,_,I,h,λvs L1 hv xs S1 H1 r I1 s1=>?_⟩
 let(l1,l2):=r.len
 let(σ',L',g,q,I2):=K5 hm I1 r hv.2
 let(x,r1,e1,y,r2,e2,z,r3,e3,e4,e5):=g (λs _=>s=σ') rfl
 subst e1;subst e2;subst e3;subst e4
 exact⟨x,y,z,rfl,by have:=k .next L' q σ' S1 H1 I2 s1;rw[<- e5] at this;exact this⟩
abbrev Ig (md:Md)(is:List Nat):List Bool:=is.map λi=>Δ (nW md i=.own)
abbrev FN (X:Cx)(C:CC)(xs:List Expr)(is:List Nat)(e:AW):Prop:=FM X C xs (Ig C.md is) e
def Pz:FN X C [] [] nU:=IN
def Py {i:Nat}{is:List Nat}(hi:Δ (nW C.md i=.own)=Ω)(hs:oh a=Ξ)(h1:FF X C a e)(h2:FN X C xs is as):FN X C (a :: xs) (i :: is) (nR e as):=by
 show FM X C (a :: xs) (Δ (nW C.md i=.own) :: Ig C.md is) _
 rw[hi];exact IM hs h1 h2
def L7 (G:Good X C n sp){a b d:Expr}{px py pz pt p2:Pos}{i j l kt k2:Nat}{nx ny nz:Str}(hm:yp C.md [i,j,l] (Ig C.md [i,j,l])=Ω)(h:zB C i j l nx ny nz px py pz a b d=Ω)(ha:FN X C [a,b,d] [i,j,l] as):FS X C fr (.Assign [.Tuple [.Name nx px,.Name ny py,.Name nz pz] kt pt] (.Tuple [a,b,d] k2 p2) pos) (oo (o9 as) (.tp [i,j,l])):=DQ G hm h ha
end
end Kq
set_option maxHeartbeats 1000000
set_option maxHeartbeats 200000
set_option maxHeartbeats 1000000
namespace Kq
open PySem PySem.Spec PyProof.Rows L2 PySem.W
abbrev uf:Bool->nH->Array nH->Nat->Nat->Nat->StateT nc Sem (Option Nat):=sortPriv% PySem.Builtin.gallop
def DO (f:Bool)(k:nH)(r:Array nH) (b n h:Nat):uf f k r b n h=(do
 let yon (i:Nat):StateT nc Sem (Option Bool):=do
  let x <- elem' r (b+i);if f then lt' x k else return (<- lt' k x).map (!·)
 let mut z:=0;let mut o:=1;let mut u:=0;let mut v:=0
 let Ψ c <- yon h|return Φ
 if c then
  let m:=n-h
  for _ in [0:n] do
   if o ≥ m then break
   let Ψ t <- yon (h+o)|return Φ
   if !t then break
   z:=o;o:=2*o+1
  u:=h+z+1;v:=h+min o m
 else
  let m:=h+1
  for _ in [0:n] do
   if o ≥ m then break
   let Ψ t <- yon (h-o)|return Φ
   if t then break
   z:=o;o:=2*o+1
  u:=h+1-min o m;v:=h-z
 for _ in [0:n] do
  if u ≥ v then break
  let m:=u+(v-u) / 2
  let Ψ t <- yon m|return Φ
  if t then u:=m+1 else v:=m
 return Ψ v):=rfl
section
variable {prog:mX}{w:nC}{A:nB}{E:nE->nh->Prop}{s:nh}{kd:mM}{Ok:nH->Prop}{lt:nH->nH->Bool}
def B5 (C:Cmp prog w A E s kd Ok lt){f:Bool}{k:nH}{r:Array nH}{b n h:Nat}{st:nc}{Q:Option Nat->nc->Prop}(hst:kindOf st=kd)(ho:AllOk Ok r)(hk:Ok k)(hn:b+n<=r.size)(hh:h<n)
  (q:∀ t,t<=n->Q (Ψ t) st):wpS (model prog w) A E s (uf f k r b n h) Q st:=by
 let yon:∀ i,i<n->∀ {Q:Option Bool->nc->Prop},(∀ t,Q (Ψ t) st)->wpS (model prog w) A E s (do let x <- elem' r (b+i);if f=Ω then lt' x k else do let y <- lt' k x;pure (y.map (!·))) Q st:=by
  intro i hi Q q
  rw[mK,vi (show b+i<r.size by lia)]
  exact mJ (mG ?_)
  let hx:=ho.at (show b+i<r.size by lia)
  cases f with
  | true=>exact C.run _ _ hx hk _ _ hst (q _)
  | false=>exact mJ (C.run _ _ hk hx _ _ hst (mG (q _)))
 rw[DO]
 dsimp only
 exact mJ (yon h hh λc=>?_)
 cases c with
 | true =>
  simp![if_true]
  exact mJ (mH (kG (I:=λj c st'=>st'=st/\c.1=Φ) (Q:=λc st'=>st'=st/\c.1=Φ) ?_ (λ_ _ h=>h) ⟨rfl,rfl⟩) ?_)
  ·rintro j ⟨c,z,o⟩ st'-hj ⟨rfl,rfl⟩
   dsimp only
   split
   ·exact mG ⟨rfl,rfl⟩
   ·exact mJ (yon (h+o) ⋯ λt=>?_)
    cases t<;>exact mG ⟨rfl,rfl⟩
  rintro⟨c,z,o⟩ st' ⟨rfl,rfl⟩
  dsimp only
  generalize h+z+1=u
  obtain⟨v,hv,e⟩:∃ v,v<=n/\h+min o (n-h)=v:=⟨_,⋯,rfl⟩
  rw[e]
  clear e
  exact mJ (mH (kG (I:=λj c s'=>s'=st'/\c.1=Φ/\c.2.2<=n) (Q:=λc s'=>s'=st'/\c.1=Φ/\c.2.2<=n) ?_ (λ_ _ h=>h) ⟨rfl,rfl,hv⟩) ?_)
  ·rintro j ⟨c,u,v⟩ s'-hj ⟨rfl,rfl,hv⟩
   dsimp only at hv ⊢
   split
   ·exact mG ⟨rfl,rfl,hv⟩
   ·exact mJ (yon (u+(v-u) / 2) ⋯ λt=>?_)
    cases t
    ·exact mG ⟨rfl,rfl,show u+(v-u) / 2<=n by lia⟩
    ·exact mG ⟨rfl,rfl,hv⟩
  ·rintro⟨c,u,v⟩ s' ⟨rfl,rfl,hv⟩
   exact mG (q v hv)
 | false =>
  simp![dZ,if_false]
  exact mJ (mH (kG (I:=λj c st'=>st'=st/\c.1=Φ) (Q:=λc st'=>st'=st/\c.1=Φ) ?_ (λ_ _ h=>h) ⟨rfl,rfl⟩) ?_)
  ·rintro j ⟨c,z,o⟩ st'-hj ⟨rfl,rfl⟩
   dsimp only
   split
   ·exact mG ⟨rfl,rfl⟩
   ·exact mJ (yon (h-o) ⋯ λt=>?_)
    cases t<;>exact mG ⟨rfl,rfl⟩
  rintro⟨c,z,o⟩ st' ⟨rfl,rfl⟩
  dsimp only
  generalize h+1-min o (h+1)=u
  obtain⟨v,hv,e⟩:∃ v,v<=n/\h-z=v:=⟨_,⋯,rfl⟩
  rw[e]
  clear e
  exact mJ (mH (kG (I:=λj c s'=>s'=st'/\c.1=Φ/\c.2.2<=n) (Q:=λc s'=>s'=st'/\c.1=Φ/\c.2.2<=n) ?_ (λ_ _ h=>h) ⟨rfl,rfl,hv⟩) ?_)
  ·rintro j ⟨c,u,v⟩ s'-hj ⟨rfl,rfl,hv⟩
   dsimp only at hv ⊢
   split
   ·exact mG ⟨rfl,rfl,hv⟩
   ·exact mJ (yon (u+(v-u) / 2) ⋯ λt=>?_)
    cases t
    ·exact mG ⟨rfl,rfl,show u+(v-u) / 2<=n by lia⟩
    ·exact mG ⟨rfl,rfl,hv⟩
  ·rintro⟨c,u,v⟩ s' ⟨rfl,rfl,hv⟩
   exact mG (q v hv)
end
abbrev PM (x y o:Array nH) (i j:Nat):Prop:=(o.toList++(x.toList.drop i++y.toList.drop j)).Perm (x.toList++y.toList)
section
variable {x y o:Array nH}{i j k:Nat}
def A4 (h:i<x.size):x.toList.drop i=gA x i :: x.toList.drop (i+1):=by
 let hl:i<x.toList.length:=by simpa using h
 let e:gA x i=x.toList[i]:=by
  have:=vi h
  rw[<- cA,bo hl] at this
  exact (ip this).symm
 rw[e];exact aW hl
def yI (x:Array nH) (i k:Nat):(x.extract i (i+k)).toList++x.toList.drop (i+k)=x.toList.drop i:=by
 rw[cP,aU,show i+k-i=k by lia,<- jz,cb]
def uC (x:Array nH) (i:Nat):(x.extract i x.size).toList=x.toList.drop i:=by
 rw[cP,aU,bM ∅]
def PM.start:PM x y #[] 0 0:=by simp[PM]
def PM.pushX (h:PM x y o i j)(hi:i<x.size):PM x y (o.push (gA x i)) (i+1) j:=by
 unfold PM at h ⊢
 rw[A4 hi] at h
 simpa using h
def PM.pushY (h:PM x y o i j)(hj:j<y.size):PM x y (o.push (gA y j)) i (j+1):=by
 unfold PM at h ⊢
 rw[A4 hj] at h
 exact .trans ?_ h
 rw[fP,fE,cg]
 exact .append_left _ gt.symm
def PM.moreX (h:PM x y o i j) (k:Nat):PM x y (o++x.extract i (i+k)) (i+k) j:=by
 unfold PM at h ⊢
 rw[<- yI x i k] at h
 simpa only[dj,fE] using h
def PM.moreY (h:PM x y o i j) (k:Nat):PM x y (o++y.extract j (j+k)) i (j+k):=by
 unfold PM at h ⊢
 exact .trans ?_ h
 rw[<- yI y j k,dj,fE,<- fE (x.toList.drop i)]
 exact .append_left _ ?_
 rw[<- fE]
 exact .append_right _ cj
def PM.fin (h:PM x y o i j):(o++x.extract i x.size++y.extract j y.size).toList.Perm (x.toList++y.toList):=by
 rw[dj,dj,uC,uC,fE];exact h
def PM.lst (h:PM x y o i j):(o++y.extract j y.size++x.extract i x.size).toList.Perm (x.toList++y.toList):=by
 rw[dj,dj,uC,uC,fE]
 exact (cv _ cj).trans h
end
abbrev Dr:Array nH->Array nH->StateT nc Sem (Array nH):=sortPriv% PySem.Builtin.mergeLo
abbrev uP:Nat->StateT nc Sem Unit:=sortPriv% PySem.Builtin.setMinGallop
def sr (n:Nat):uP n=modify λs=>lY (kindOf s) (arrOf s) (pendingOf s) n (failedOf s):=rfl
noncomputable abbrev KA:=Array nH
noncomputable abbrev RA:=Option KA×KA×Nat×Nat×Nat×Nat
noncomputable abbrev RB:=Option KA×KA×Nat×Nat×Nat×Nat×Nat
noncomputable abbrev RU:=Option KA×KA×Nat×Nat×Nat
noncomputable abbrev yF (x y o:KA) (i j:Nat):KA:=o++x.extract i x.size++y.extract j y.size
noncomputable abbrev Ft (x y o:KA) (i j:Nat):KA:=o++y.extract j y.size++x.extract i x.size
abbrev O5 (x y o:KA) (i j G c d:Nat):StateT nc Sem (ForInStep RA):=do
 let e <- elem' y j
 if j+1 == y.size then pure (.done (Ψ (yF x y (o.push e) i (j+1)),o.push e,i,j+1,0,d+1))
 else if d+1 ≥ G then pure (.done (Φ,o.push e,i,j+1,0,d+1)) else pure (.yield (Φ,o.push e,i,j+1,0,d+1))
abbrev O4 (x y o:KA) (i j G c d:Nat):StateT nc Sem (ForInStep RA):=do
 let e <- elem' x i
 if i+1+1 == x.size then pure (.done (Ψ (Ft x y (o.push e) (i+1) j),o.push e,i+1,j,c+1,0))
 else if c+1 ≥ G then pure (.done (Φ,o.push e,i+1,j,c+1,0)) else pure (.yield (Φ,o.push e,i+1,j,c+1,0))
abbrev loA (x y o:KA) (i j G c d:Nat):StateT nc Sem (ForInStep RA):=do
 let a <- elem' y j
 let b <- elem' x i
 match <- lt' a b with
 | some t=>if t then O5 x y o i j G c d else O4 x y o i j G c d
 | none=>pure (.done (Ψ (yF x y o i j),o,i,j,c,d))
abbrev Io (x y o:KA) (i j G c d:Nat):StateT nc Sem (ForInStep RB):=do
 let e <- elem' x i
 if i+1+1 == x.size then pure (.done (Ψ (Ft x y (o.push e) (i+1) j),o.push e,i+1,j,G,c,d))
 else if c<7 && d<7 then pure (.done (Φ,o.push e,i+1,j,G,c,d)) else pure (.yield (Φ,o.push e,i+1,j,G,c,d))
abbrev Ip (x y o:KA) (i j G c d:Nat):StateT nc Sem (ForInStep RB):=do
 let e <- elem' y j
 if j+1 == y.size then pure (.done (Ψ (yF x y (o.push e) i (j+1)),o.push e,i,j+1,G,c,d))
 else do
  let b <- elem' x i
  match <- uf Ω b y (j+1) (y.size-(j+1)) 0 with
  | some k =>
   if k > 0 then
    if j+1+k == y.size then pure (.done (Ψ (yF x y (o.push e++y.extract (j+1) (j+1+k)) i (j+1+k)),o.push e++y.extract (j+1) (j+1+k),i,j+1+k,G,c,k))
    else Io x y (o.push e++y.extract (j+1) (j+1+k)) i (j+1+k) G c k
   else Io x y (o.push e) i (j+1) G c k
  | none=>pure (.done (Ψ (yF x y (o.push e) i (j+1)),o.push e,i,j+1,G,c,d))
abbrev Fv (x y o:KA) (i j G c d:Nat):StateT nc Sem (ForInStep RB):=do
 uP G
 let a <- elem' y j
 match <- uf Ξ a x i (x.size-i) 0 with
 | some k =>
  if k > 0 then
   if i+k+1 == x.size then pure (.done (Ψ (Ft x y (o++x.extract i (i+k)) (i+k) j),o++x.extract i (i+k),i+k,j,G,k,d))
   else if i+k == x.size then pure (.done (Ψ (yF x y (o++x.extract i (i+k)) (i+k) j),o++x.extract i (i+k),i+k,j,G,k,d))
   else Ip x y (o++x.extract i (i+k)) (i+k) j G k d
  else Ip x y o i j G k d
 | none=>pure (.done (Ψ (yF x y o i j),o,i,j,G,c,d))
abbrev loB (x y o:KA) (i j G c d:Nat):StateT nc Sem (ForInStep RB):=if G > 1 then Fv x y o i j (G-1) c d else Fv x y o i j G c d
abbrev LU (x y o:KA) (i j G c d:Nat):StateT nc Sem (ForInStep RU):=do
 rule "list.sort.gallop"
 let u <- forIn [0:x.size+y.size] ((Φ,o,i,j,G+1,c,d):RB) λ_ u=>loB x y u.2.1 u.2.2.1 u.2.2.2.1 u.2.2.2.2.1 u.2.2.2.2.2.1 u.2.2.2.2.2.2
 match u.1 with
 | some z=>pure (.done (Ψ z,u.2.1,u.2.2.1,u.2.2.2.1,u.2.2.2.2.1))
 | none=>do
  uP (u.2.2.2.2.1+1)
  pure (.yield (Φ,u.2.1,u.2.2.1,u.2.2.2.1,u.2.2.2.2.1+1))
abbrev loO (x y o:KA) (i j G:Nat):StateT nc Sem (ForInStep RU):=do
 let s <- forIn [0:x.size+y.size] ((Φ,o,i,j,0,0):RA) λ_ s=>loA x y s.2.1 s.2.2.1 s.2.2.2.1 G s.2.2.2.2.1 s.2.2.2.2.2
 match s.1 with
 | some z=>pure (.done (Ψ z,s.2.1,s.2.2.1,s.2.2.2.1,G))
 | none=>LU x y s.2.1 s.2.2.1 s.2.2.2.1 G s.2.2.2.2.1 s.2.2.2.2.2
def Dq (x y:KA):Dr x y=(do
 rule "list.sort.merge-lo"
 let e <- elem' y 0
 if 1 == y.size then pure (yF x y #[e] 0 1)
 else if 0+1 == x.size then pure (Ft x y #[e] 0 1)
 else do
  let z <- get
  let s <- forIn [0:x.size+y.size] ((Φ,#[e],0,1,gallopOf z):RU) λ_ s=>loO x y s.2.1 s.2.2.1 s.2.2.2.1 s.2.2.2.2
  match s.1 with
  | some r=>pure r
  | none=>unsupported "internal:list.sort.merge-bound"):=by
 let hb:∀ {α β:Type}{m:StateT nc Sem α}{f f':α->StateT nc Sem β},(∀ a,f a=f' a)->(m >>= f)=(m >>= f'):=λg=>congrArg _ (funext g)
 let hc:∀ {α β:Type}{m m':StateT nc Sem α}{f f':α->StateT nc Sem β},m=m'->(∀ a,f a=f' a)->(m >>= f)=(m' >>= f'):=λh g=>by rw[h,funext g]
 let hf:∀ {β:Type}{r:fY}{b:β}{f f':Nat->β->StateT nc Sem (ForInStep β)},(∀ a c,f a c=f' a c)->forIn r b f=forIn r b f':=λg=>congrArg _ (funext λa=>funext λc=>g a c)
 let hi:∀ {α:Type}{c:Prop} [Decidable c] {a a' b b':StateT nc Sem α},a=a'->b=b'->(if c then a else b)=(if c then a' else b'):=λh g=>by rw[h,g]
 exact hb λ_=>hb λe=>hi rfl (hi rfl (hb λz=>hc (hf λ_ s=>?_) λs=>?_))
 ·exact hc (hf λ_ s=>hb λa=>hb λb=>hb λc=>?_) λs=>?_
  ·cases c with
   | none=>rfl
   | some t=>cases t<;>rfl
  ·let(u,o,i,j,c,d):=s
   cases u with
   | some u=>rfl
   | none =>
    exact hb λ_=>hc (hf λ_ s=>?_) λs=>?_
    ·let(u,o,i,j,G,c,d):=s
     exact hi ?_ ?_
     all_goals
      exact hb λ_=>hb λ_=>hb λk=>?_
      cases k with
      | none=>rfl
      | some k =>
       exact hi (hi rfl (hi rfl ?_)) ?_
       all_goals
        exact hb fun _=>hi rfl (hb fun _=>hb fun k=>?_)
        cases k with
        | none=>rfl
        | some k=>exact hi (hi rfl rfl) rfl
    ·let(u,o,i,j,G,c,d):=s
     cases u<;>rfl
 ·let(u,o,i,j,c):=s
  cases u<;>rfl
section
variable {prog:mX}{w:nC}{A:nB}{E:nE->nh->Prop}{s:nh}{kd:mM}{Ok:nH->Prop}{lt:nH->nH->Bool}
def ol {α:Type}{c:Prop} [Decidable c] {a b:StateT nc Sem α}{Q:α->nc->Prop}{st:nc}(h:c->wpS (model prog w) A E s a Q st)(g:¬ c->wpS (model prog w) A E s b Q st):wpS (model prog w) A E s (if c then a else b) Q st:=by
 by_cases k:c
 ·rw[if_pos k];exact h k
 ·rw[if_neg k];exact g k
def oQ {x:KA}{i:Nat}(h:i<x.size){Q:nH->nc->Prop}{st:nc}(q:Q (gA x i) st):wpS (model prog w) A E s (elem' x i) Q st:=by
 rw[mK,vi h];exact mG q
abbrev Eo (x y o:KA) (i j T:Nat):Prop:=PM x y o i j/\i+1<x.size/\j<y.size/\T<=i+j
inductive LoR (x y:KA)(r:Option KA):Prop
 | mk (z:_)(_:r=Ψ z)(_:z.toList.Perm (x.toList++y.toList)):LoR x y r
abbrev Kh {α:Type}(x y:KA)(f:α->Option KA×KA×Nat×Nat) (T T':Nat):ForInStep α->Prop
 | .done c=>LoR x y (f c).1 ∨ (f c).1=Φ/\Eo x y (f c).2.1 (f c).2.2.1 (f c).2.2.2 T
 | .yield c=>(f c).1=Φ/\Eo x y (f c).2.1 (f c).2.2.1 (f c).2.2.2 T'
noncomputable abbrev fA (c:RA):Option KA×KA×Nat×Nat:=(c.1,c.2.1,c.2.2.1,c.2.2.2.1)
noncomputable abbrev fB (c:RB):Option KA×KA×Nat×Nat:=(c.1,c.2.1,c.2.2.1,c.2.2.2.1)
def oD {a b:Nat}(h:¬ (a == b)=Ω):a≠b:=by simpa using h
variable {x y o a:KA}{p:Array (Nat×Nat×Nat)}{g i j G c d T:Nat}
def Iq (C:Cmp prog w A E s kd Ok lt)(hx:AllOk Ok x)(hy:AllOk Ok y)(h:Eo x y o i j T){T':Nat}(hT:T'<=T+1):wpS (model prog w) A E s (loA x y o i j G c d) (λr st=>st=pc kd a p g/\Kh x y fA T' (T+1) r) (pc kd a p g):=by
 let(hM,hi,hj,hT):=h
 exact mJ (oQ hj (mJ (oQ ⋯ (mJ (C.run _ _ (hy.at hj) (hx.at ⋯) _ _ rfl ?_)))))
 cases lt (gA y j) (gA x i) with
 | true =>
  exact mJ (oQ hj (ol (λe=>mG ⟨rfl,.inl ⟨_,rfl,(hM.pushY hj).fin⟩⟩) λe=>?_))
  have:=oD e
  exact ol (λ_=>mG ⟨rfl,.inr ⟨rfl,hM.pushY hj,hi,by dsimp only;lia,by dsimp only;lia⟩⟩) λ_=>mG ⟨rfl,rfl,hM.pushY hj,hi,by dsimp only;lia,by dsimp only;lia⟩
 | false =>
  let hM:=hM.pushX (show i<x.size by lia)
  exact mJ (oQ ⋯ (ol (λe=>mG ⟨rfl,.inl ⟨_,rfl,hM.lst⟩⟩) λe=>?_))
  have:=oD e
  exact ol (λ_=>mG ⟨rfl,.inr ⟨rfl,hM,by dsimp only;lia,hj,by dsimp only;lia⟩⟩) λ_=>mG ⟨rfl,rfl,hM,by dsimp only;lia,hj,by dsimp only;lia⟩
def AE (h:PM x y o i j)(hi:i+1<x.size)(hj:j<y.size){T':Nat}(hT:T'<=i+j+1)(hT2:T<=i+j+1):wpS (model prog w) A E s (Io x y o i j G c d) (λr st=>(∃ g,st=pc kd a p g)/\Kh x y fB T' T r) (pc kd a p g):=by
 let hM:=h.pushX (show i<x.size by lia)
 exact mJ (oQ ⋯ (ol (λe=>mG ⟨⟨_,rfl⟩,.inl ⟨_,rfl,hM.lst⟩⟩) λe=>?_))
 have:=oD e
 exact ol (λ_=>mG ⟨⟨_,rfl⟩,.inr ⟨rfl,hM,by dsimp only;lia,hj,by dsimp only;lia⟩⟩) λ_=>mG ⟨⟨_,rfl⟩,rfl,hM,by dsimp only;lia,hj,by dsimp only;lia⟩
def AF (C:Cmp prog w A E s kd Ok lt)(hx:AllOk Ok x)(hy:AllOk Ok y)(h:PM x y o i j)(hi:i+1<x.size)(hj:j<y.size){T':Nat}(hT:T'<=i+j+1)(hT2:T<=i+j+1):wpS (model prog w) A E s (Ip x y o i j G c d) (λr st=>(∃ g,st=pc kd a p g)/\Kh x y fB T' T r) (pc kd a p g):=by
 let hM:=h.pushY hj
 exact mJ (oQ hj (ol (λe=>mG ⟨⟨_,rfl⟩,.inl ⟨_,rfl,hM.fin⟩⟩) λe=>?_))
 have:=oD e
 exact mJ (oQ ⋯ (mJ (B5 C (kd:=kd) rfl hy (hx.at ⋯) ⋯ ⋯ λk hk=>?_)))
 exact ol (λ_=>?_) λ_=>AE hM hi ⋯ ⋯ ⋯
 exact ol (λe=>mG ⟨⟨_,rfl⟩,.inl ⟨_,rfl,(hM.moreY k).fin⟩⟩) λe=>?_
 have:=oD e
 exact AE (hM.moreY k) hi ⋯ ⋯ ⋯
def AG (C:Cmp prog w A E s kd Ok lt)(hx:AllOk Ok x)(hy:AllOk Ok y)(h:PM x y o i j)(hi:i+1<x.size)(hj:j<y.size){T':Nat}(hT:T'<=i+j+1)(hT2:T<=i+j+1):wpS (model prog w) A E s (Fv x y o i j G c d) (λr st=>(∃ g,st=pc kd a p g)/\Kh x y fB T' T r) (pc kd a p g):=by
 unfold Fv
 rw[sr]
 exact mJ (lN (mJ (oQ hj (mJ (B5 C (kd:=kd) rfl hx (hy.at hj) ⋯ ⋯ λk hk=>?_)))))
 exact ol (λ_=>?_) λ_=>AF C hx hy h hi hj hT hT2
 exact ol (λe=>mG ⟨⟨_,rfl⟩,.inl ⟨_,rfl,(h.moreX k).lst⟩⟩) λe=>?_
 exact ol (λe=>mG ⟨⟨_,rfl⟩,.inl ⟨_,rfl,(h.moreX k).fin⟩⟩) λe'=>?_
 have:=oD e;have:=oD e'
 exact AF C hx hy (h.moreX k) ⋯ hj ⋯ ⋯
def Im (C:Cmp prog w A E s kd Ok lt)(hx:AllOk Ok x)(hy:AllOk Ok y)(h:Eo x y o i j T){T':Nat}(hT:T'<=T+1):wpS (model prog w) A E s (loB x y o i j G c d) (λr st=>(∃ g,st=pc kd a p g)/\Kh x y fB T' (T+1) r) (pc kd a p g):=by
 let(hM,hi,hj,hT):=h
 exact ol (λ_=>AG C hx hy hM hi hj ⋯ ⋯) λ_=>AG C hx hy hM hi hj ⋯ ⋯
def Fu (C:Cmp prog w A E s kd Ok lt)(hx:AllOk Ok x)(hy:AllOk Ok y)(h:Eo x y o i j (T+1))(hT:T<x.size+y.size):wpS (model prog w) A E s (LU x y o i j G c d) (λr st=>(∃ g,st=pc kd a p g)/\Kh x y (λc:RU=>(c.1,c.2.1,c.2.2.1,c.2.2.2.1)) (x.size+y.size) (T+1) r) (pc kd a p g):=by
 exact mJ (mI (lO ⟨rfl,?_⟩))
 refine mJ (mH (kG (I:=λn c st=>(∃ g,st=pc kd a p g)/\c.1=Φ/\Eo x y c.2.1 c.2.2.1 c.2.2.2.1 (T+1+n))
  (Q:=λc st=>(∃ g,st=pc kd a p g)/\(LoR x y c.1 ∨ c.1=Φ/\Eo x y c.2.1 c.2.2.1 c.2.2.2.1 (T+1))) ?_ ?_ ⟨⟨_,rfl⟩,rfl,h⟩) ?_)
 ·rintro n ⟨r,o,i,j,G,c,d⟩ st'-hn ⟨⟨g,rfl⟩,hc,h⟩
  exact mH (Im C hx hy h (T':=T+1) ⋯) λr st h=>?_
  cases r with
  | done c=>exact h
  | yield c=>exact h
 ·rintro c st ⟨g,hc,h⟩
  exact⟨g,.inr ⟨hc,h.1,h.2.1,h.2.2.1,by have:=h.2.2.2;lia⟩⟩
 ·rintro⟨u,o,i,j,G,c,d⟩ st ⟨⟨g,rfl⟩,h⟩
  rcases h with⟨z,e,hz⟩|⟨e,h⟩
  ·cases e
   exact mG ⟨⟨_,rfl⟩,.inl ⟨z,rfl,hz⟩⟩
  ·cases e
   dsimp only
   rw[sr]
   exact mJ (lN (mG ⟨⟨_,rfl⟩,rfl,h⟩))
def Il (C:Cmp prog w A E s kd Ok lt)(hx:AllOk Ok x)(hy:AllOk Ok y)(h:Eo x y o i j T)(hT:T<x.size+y.size):wpS (model prog w) A E s (loO x y o i j G) (λr st=>(∃ g,st=pc kd a p g)/\Kh x y (λc:RU=>(c.1,c.2.1,c.2.2.1,c.2.2.2.1)) (x.size+y.size) (T+1) r) (pc kd a p g):=by
 refine mJ (mH (kG (I:=λn c st=>st=pc kd a p g/\c.1=Φ/\Eo x y c.2.1 c.2.2.1 c.2.2.2.1 (T+n))
  (Q:=λc st=>st=pc kd a p g/\(LoR x y c.1 ∨ c.1=Φ/\Eo x y c.2.1 c.2.2.1 c.2.2.2.1 (T+1))) ?_ ?_ ⟨rfl,rfl,h⟩) ?_)
 ·rintro n ⟨r,o,i,j,c,d⟩ st'-hn ⟨rfl,hc,h⟩
  exact mH (Iq C hx hy h (T':=T+1) ⋯) λr st h=>?_
  cases r with
  | done c=>exact h
  | yield c=>exact h
 ·rintro c st ⟨g,hc,h⟩
  exact⟨g,.inr ⟨hc,h.1,h.2.1,h.2.2.1,by have:=h.2.2.2;lia⟩⟩
 ·rintro⟨u,o,i,j,c,d⟩ st ⟨rfl,h⟩
  rcases h with⟨z,e,hz⟩|⟨e,h⟩
  ·cases e
   exact mG ⟨⟨_,rfl⟩,.inl ⟨z,rfl,hz⟩⟩
  ·cases e
   exact Fu C hx hy h hT
def O1 (C:Cmp prog w A E s kd Ok lt){Q:KA->nc->Prop}(hx:AllOk Ok x)(hy:AllOk Ok y)(nx:1<=x.size)(ny:1<=y.size)(q:∀ r g',r.toList.Perm (x.toList++y.toList)->Q r (pc kd a p g')):wpS (model prog w) A E s (Dr x y) Q (pc kd a p g):=by
 rw[Dq]
 exact mJ (mI (lO ⟨rfl,?_⟩))
 let M0:PM x y #[gA y 0] 0 1:=PM.start.pushY ⋯
 exact mJ (oQ ⋯ (ol (λ_=>mG (q _ _ M0.fin)) λe1=>ol (λ_=>mG (q _ _ M0.lst)) λe2=>mJ (mW ?_)))
 have:=oD e1;have:=oD e2
 refine mJ (mH (kG (I:=λn c st=>(∃ g,st=pc kd a p g)/\c.1=Φ/\Eo x y c.2.1 c.2.2.1 c.2.2.2.1 n)
  (Q:=λc st=>(∃ g,st=pc kd a p g)/\LoR x y c.1) ?_ ?_ ⟨⟨_,rfl⟩,rfl,M0,by dsimp only;lia,by dsimp only;lia,lH _⟩) ?_)
 ·rintro n ⟨r,o,i,j,G⟩ st'-hn ⟨⟨g,rfl⟩,hc,h⟩
  exact mH (Il C hx hy h hn) λr st h=>?_
  cases r with
  | done c=>exact⟨h.1,h.2.elim id λk=>by have:=k.2.2;lia⟩
  | yield c=>exact h
 ·rintro c st ⟨g,hc,h⟩
  have:=h.2
  lia
 ·rintro⟨u,o,i,j,G⟩ st ⟨⟨g,rfl⟩,z,e,hz⟩
  cases e
  exact mG (q _ _ hz)
end
abbrev PH (x y o:Array nH) (i j:Nat):Prop:=(o.toList++(x.toList.take i++y.toList.take j)).Perm (x.toList++y.toList)
section
variable {x y o:Array nH}{i j t:Nat}
def A3 (h:i<x.size):x.toList.take (i+1)=x.toList.take i++[gA x i]:=by
 let hl:i<x.toList.length:=by simpa using h
 let e:gA x i=x.toList[i]:=by
  have:=vi h
  rw[<- cA,bo hl] at this
  exact (ip this).symm
 rw[e,List.take_add_one,bo hl];rfl
def vm (x:Array nH)(h:t<=i):x.toList.take t++(x.extract t i).toList=x.toList.take i:=by
 rw[cP,aU]
 conv=>rhs;rw[show i=t+(i-t) by lia,ke]
def tP (x:Array nH) (i:Nat):(x.extract 0 i).toList=x.toList.take i:=by
 rw[<- vm x (lH i)];simp
def PH.pushX (h:PH x y o (i+1) j)(hi:i<x.size):PH x y (o.push (gA x i)) i j:=by
 unfold PH at h ⊢
 exact .trans ?_ h
 rw[A3 hi,fP,fE]
 exact .append_left _ ?_
 rw[<- fE]
 exact .append_right _ cj
def PH.pushY (h:PH x y o i (j+1))(hj:j<y.size):PH x y (o.push (gA y j)) i j:=by
 unfold PH at h ⊢
 exact .trans ?_ h
 rw[A3 hj,fP,fE,<- fE (x.toList.take i)]
 exact .append_left _ cj
def PH.moreX (h:PH x y o i j)(ht:t<=i):PH x y (o++(x.extract t i).reverse) t j:=by
 unfold PH at h ⊢
 exact .trans ?_ h
 rw[<- vm x ht,dj,cO,fE]
 exact .append_left _ ?_
 rw[<- fE]
 exact .append_right _ ((bQ _ (fm _)).trans cj)
def PH.moreY (h:PH x y o i j)(ht:t<=j):PH x y (o++(y.extract t j).reverse) i t:=by
 unfold PH at h ⊢
 exact .trans ?_ h
 rw[<- vm y ht,dj,cO,fE,<- fE (x.toList.take i)]
 exact .append_left _ ((bQ _ (fm _)).trans cj)
def PH.fin (h:PH x y o i j):(x.extract 0 i++y.extract 0 j++o.reverse).toList.Perm (x.toList++y.toList):=by
 rw[dj,dj,tP,tP,cO]
 exact (cj.trans (bQ _ (fm _))).trans h
def PH.lst (h:PH x y o i j):(y.extract 0 j++x.extract 0 i++o.reverse).toList.Perm (x.toList++y.toList):=by
 rw[dj,dj,tP,tP,cO]
 exact ((cj.trans (bQ _ (fm _))).trans (cv _ cj)).trans h
def PH.popX (h:PH x y o i j)(h1:1<=i)(hi:i<=x.size):PH x y (o.push (gA x (i-1))) (i-1) j:=PH.pushX (by rw[dG h1];exact h) ⋯
def PH.popY (h:PH x y o i j)(h1:1<=j)(hj:j<=y.size):PH x y (o.push (gA y (j-1))) i (j-1):=PH.pushY (by rw[dG h1];exact h) ⋯
end
abbrev Dt:Array nH->Array nH->StateT nc Sem (Array nH):=sortPriv% PySem.Builtin.mergeHi
noncomputable abbrev HA:=Option KA×Nat×Nat×KA×Nat×Nat
noncomputable abbrev HB:=Option KA×Nat×Nat×KA×Nat×Nat×Nat
noncomputable abbrev HU:=Option KA×Nat×Nat×KA×Nat
noncomputable abbrev yG (x y o:KA) (i j:Nat):KA:=x.extract 0 i++y.extract 0 j++o.reverse
noncomputable abbrev F2 (x y o:KA) (i j:Nat):KA:=y.extract 0 j++x.extract 0 i++o.reverse
abbrev Pl (x y o:KA) (i j G c d:Nat):StateT nc Sem (ForInStep HA):=do
 let e <- elem' x (i-1)
 if i-1 == 0 then pure (.done (Ψ (yG x y (o.push e) (i-1) j),i-1,j,o.push e,c+1,0))
 else if c+1 ≥ G then pure (.done (Φ,i-1,j,o.push e,c+1,0)) else pure (.yield (Φ,i-1,j,o.push e,c+1,0))
abbrev Pk (x y o:KA) (i j G c d:Nat):StateT nc Sem (ForInStep HA):=do
 let e <- elem' y (j-1)
 if j-1 == 1 then pure (.done (Ψ (F2 x y (o.push e) i (j-1)),i,j-1,o.push e,0,d+1))
 else if d+1 ≥ G then pure (.done (Φ,i,j-1,o.push e,0,d+1)) else pure (.yield (Φ,i,j-1,o.push e,0,d+1))
abbrev hiA (x y o:KA) (i j G c d:Nat):StateT nc Sem (ForInStep HA):=do
 let a <- elem' y (j-1)
 let b <- elem' x (i-1)
 match <- lt' a b with
 | some t=>if t then Pl x y o i j G c d else Pk x y o i j G c d
 | none=>pure (.done (Ψ (yG x y o i j),i,j,o,c,d))
abbrev IH (x y o:KA) (i j G c d:Nat):StateT nc Sem (ForInStep HB):=do
 let e <- elem' x (i-1)
 if i-1 == 0 then pure (.done (Ψ (yG x y (o.push e) (i-1) j),i-1,j,o.push e,G,c,d))
 else if c<7 && d<7 then pure (.done (Φ,i-1,j,o.push e,G,c,d)) else pure (.yield (Φ,i-1,j,o.push e,G,c,d))
abbrev II (x y o:KA) (i j G c d:Nat):StateT nc Sem (ForInStep HB):=do
 let e <- elem' y (j-1)
 if j-1 == 1 then pure (.done (Ψ (F2 x y (o.push e) i (j-1)),i,j-1,o.push e,G,c,d))
 else do
  let b <- elem' x (i-1)
  match <- uf Ω b y 0 (j-1) (j-1-1) with
  | some t =>
   if j-1-t > 0 then
    if t == 1 then pure (.done (Ψ (F2 x y (o.push e++(y.extract t (j-1)).reverse) i t),i,t,o.push e++(y.extract t (j-1)).reverse,G,c,j-1-t))
    else if t == 0 then pure (.done (Ψ (yG x y (o.push e++(y.extract t (j-1)).reverse) i t),i,t,o.push e++(y.extract t (j-1)).reverse,G,c,j-1-t))
    else IH x y (o.push e++(y.extract t (j-1)).reverse) i t G c (j-1-t)
   else IH x y (o.push e) i (j-1) G c (j-1-t)
  | none=>pure (.done (Ψ (yG x y (o.push e) i (j-1)),i,j-1,o.push e,G,c,d))
abbrev F0 (x y o:KA) (i j G c d:Nat):StateT nc Sem (ForInStep HB):=do
 uP G
 let a <- elem' y (j-1)
 match <- uf Ξ a x 0 i (i-1) with
 | some t =>
  if i-t > 0 then
   if t == 0 then pure (.done (Ψ (yG x y (o++(x.extract t i).reverse) t j),t,j,o++(x.extract t i).reverse,G,i-t,d))
   else II x y (o++(x.extract t i).reverse) t j G (i-t) d
  else II x y o i j G (i-t) d
 | none=>pure (.done (Ψ (yG x y o i j),i,j,o,G,c,d))
abbrev hiB (x y o:KA) (i j G c d:Nat):StateT nc Sem (ForInStep HB):=if G > 1 then F0 x y o i j (G-1) c d else F0 x y o i j G c d
abbrev L6 (x y o:KA) (i j G c d:Nat):StateT nc Sem (ForInStep HU):=do
 rule "list.sort.gallop"
 let u <- forIn [0:x.size+y.size] ((Φ,i,j,o,G+1,c,d):HB) λ_ u=>hiB x y u.2.2.2.1 u.2.1 u.2.2.1 u.2.2.2.2.1 u.2.2.2.2.2.1 u.2.2.2.2.2.2
 match u.1 with
 | some z=>pure (.done (Ψ z,u.2.1,u.2.2.1,u.2.2.2.1,u.2.2.2.2.1))
 | none=>do
  uP (u.2.2.2.2.1+1)
  pure (.yield (Φ,u.2.1,u.2.2.1,u.2.2.2.1,u.2.2.2.2.1+1))
abbrev hiO (x y o:KA) (i j G:Nat):StateT nc Sem (ForInStep HU):=do
 let s <- forIn [0:x.size+y.size] ((Φ,i,j,o,0,0):HA) λ_ s=>hiA x y s.2.2.2.1 s.2.1 s.2.2.1 G s.2.2.2.2.1 s.2.2.2.2.2
 match s.1 with
 | some z=>pure (.done (Ψ z,s.2.1,s.2.2.1,s.2.2.2.1,G))
 | none=>L6 x y s.2.2.2.1 s.2.1 s.2.2.1 G s.2.2.2.2.1 s.2.2.2.2.2
def Ds (x y:KA):Dt x y=(do
 rule "list.sort.merge-hi"
 let e <- elem' x (x.size-1)
 if x.size-1 == 0 then pure (yG x y #[e] (x.size-1) y.size)
 else if y.size == 1 then pure (F2 x y #[e] (x.size-1) y.size)
 else do
  let z <- get
  let s <- forIn [0:x.size+y.size] ((Φ,x.size-1,y.size,#[e],gallopOf z):HU) λ_ s=>hiO x y s.2.2.2.1 s.2.1 s.2.2.1 s.2.2.2.2
  match s.1 with
  | some r=>pure r
  | none=>unsupported "internal:list.sort.merge-bound"):=by
 let hb:∀ {α β:Type}{m:StateT nc Sem α}{f f':α->StateT nc Sem β},(∀ a,f a=f' a)->(m >>= f)=(m >>= f'):=λg=>congrArg _ (funext g)
 let hc:∀ {α β:Type}{m m':StateT nc Sem α}{f f':α->StateT nc Sem β},m=m'->(∀ a,f a=f' a)->(m >>= f)=(m' >>= f'):=λh g=>by rw[h,funext g]
 let hf:∀ {β:Type}{r:fY}{b:β}{f f':Nat->β->StateT nc Sem (ForInStep β)},(∀ a c,f a c=f' a c)->forIn r b f=forIn r b f':=λg=>congrArg _ (funext λa=>funext λc=>g a c)
 let hi:∀ {α:Type}{c:Prop} [Decidable c] {a a' b b':StateT nc Sem α},a=a'->b=b'->(if c then a else b)=(if c then a' else b'):=λh g=>by rw[h,g]
 exact hb λ_=>hb λe=>hi rfl (hi rfl (hb λz=>hc (hf λ_ s=>?_) λs=>?_))
 ·exact hc (hf λ_ s=>hb λa=>hb λb=>hb λc=>?_) λs=>?_
  ·cases c with
   | none=>rfl
   | some t=>cases t<;>rfl
  ·let(u,i,j,o,c,d):=s
   cases u with
   | some u=>rfl
   | none =>
    exact hb λ_=>hc (hf λ_ s=>?_) λs=>?_
    ·let(u,i,j,o,G,c,d):=s
     exact hi ?_ ?_
     all_goals
      exact hb λ_=>hb λ_=>hb λk=>?_
      cases k with
      | none=>rfl
      | some k =>
       exact hi (hi rfl ?_) ?_
       all_goals
        exact hb fun _=>hi rfl (hb fun _=>hb fun k=>?_)
        cases k with
        | none=>rfl
        | some k=>exact hi (hi rfl (hi rfl rfl)) rfl
    ·let(u,i,j,o,G,c,d):=s
     cases u<;>rfl
 ·let(u,i,j,o,c):=s
  cases u<;>rfl
section
variable {prog:mX}{w:nC}{A:nB}{E:nE->nh->Prop}{s:nh}{kd:mM}{Ok:nH->Prop}{lt:nH->nH->Bool}
variable {x y o a:KA}{p:Array (Nat×Nat×Nat)}{g i j G c d T:Nat}
abbrev HiG (x y o:KA) (i j T:Nat):Prop:=PH x y o i j/\1<=i/\i<x.size/\2<=j/\j<=y.size/\T+i+j<=x.size+y.size
abbrev Ki {α:Type}(x y:KA)(f:α->Option KA×KA×Nat×Nat) (T T':Nat):ForInStep α->Prop
 | .done c=>LoR x y (f c).1 ∨ (f c).1=Φ/\HiG x y (f c).2.1 (f c).2.2.1 (f c).2.2.2 T
 | .yield c=>(f c).1=Φ/\HiG x y (f c).2.1 (f c).2.2.1 (f c).2.2.2 T'
noncomputable abbrev hA (c:HA):Option KA×KA×Nat×Nat:=(c.1,c.2.2.2.1,c.2.1,c.2.2.1)
noncomputable abbrev hB (c:HB):Option KA×KA×Nat×Nat:=(c.1,c.2.2.2.1,c.2.1,c.2.2.1)
noncomputable abbrev hU (c:HU):Option KA×KA×Nat×Nat:=(c.1,c.2.2.2.1,c.2.1,c.2.2.1)
def HiG.mk (h:PH x y o i j)(b:1<=i/\i<x.size/\2<=j/\j<=y.size/\T+i+j<=x.size+y.size):HiG x y o i j T:=⟨h,b⟩
def IJ (C:Cmp prog w A E s kd Ok lt)(hx:AllOk Ok x)(hy:AllOk Ok y)(h:HiG x y o i j T){T':Nat}(hT:T'<=T+1):wpS (model prog w) A E s (hiA x y o i j G c d) (λr st=>st=pc kd a p g/\Ki x y hA T' (T+1) r) (pc kd a p g):=by
 let(hM,h1,h2,h3,h4,h5):=h
 exact mJ (oQ ⋯ (mJ (oQ ⋯ (mJ (C.run _ _ (hy.at ⋯) (hx.at ⋯) _ _ rfl ?_)))))
 cases lt (gA y (j-1)) (gA x (i-1)) with
 | true =>
  let hM:=hM.popX h1 ⋯
  exact mJ (oQ ⋯ (ol (λe=>mG ⟨rfl,.inl ⟨_,rfl,hM.fin⟩⟩) λe=>?_))
  have:=oD e
  exact ol (λ_=>mG ⟨rfl,.inr ⟨rfl,.mk hM (by dsimp only;lia)⟩⟩) λ_=>mG ⟨rfl,rfl,.mk hM (by dsimp only;lia)⟩
 | false =>
  let hM:=hM.popY ⋯ h4
  exact mJ (oQ ⋯ (ol (λe=>mG ⟨rfl,.inl ⟨_,rfl,hM.lst⟩⟩) λe=>?_))
  have:=oD e
  exact ol (λ_=>mG ⟨rfl,.inr ⟨rfl,.mk hM (by dsimp only;lia)⟩⟩) λ_=>mG ⟨rfl,rfl,.mk hM (by dsimp only;lia)⟩
def AY (h:PH x y o i j)(b:1<=i/\i<x.size/\2<=j/\j<=y.size/\T+i+j<=x.size+y.size+1){T':Nat}(hT:T'<=T):wpS (model prog w) A E s (IH x y o i j G c d) (λr st=>(∃ g,st=pc kd a p g)/\Ki x y hB T' T r) (pc kd a p g):=by
 let hM:=h.popX b.1 ⋯
 exact mJ (oQ ⋯ (ol (λe=>mG ⟨⟨_,rfl⟩,.inl ⟨_,rfl,hM.fin⟩⟩) λe=>?_))
 have:=oD e
 exact ol (λ_=>mG ⟨⟨_,rfl⟩,.inr ⟨rfl,.mk hM (by dsimp only;lia)⟩⟩) λ_=>mG ⟨⟨_,rfl⟩,rfl,.mk hM (by dsimp only;lia)⟩
def AZ (C:Cmp prog w A E s kd Ok lt)(hx:AllOk Ok x)(hy:AllOk Ok y)(h:PH x y o i j)(b:1<=i/\i<x.size/\2<=j/\j<=y.size/\T+i+j<=x.size+y.size+1){T':Nat}(hT:T'<=T):wpS (model prog w) A E s (II x y o i j G c d) (λr st=>(∃ g,st=pc kd a p g)/\Ki x y hB T' T r) (pc kd a p g):=by
 let hM:=h.popY ⋯ b.2.2.2.1
 exact mJ (oQ ⋯ (ol (λe=>mG ⟨⟨_,rfl⟩,.inl ⟨_,rfl,hM.lst⟩⟩) λe=>?_))
 have:=oD e
 exact mJ (oQ ⋯ (mJ (B5 C (kd:=kd) rfl hy (hx.at ⋯) ⋯ ⋯ λt ht=>?_)))
 exact ol (λ_=>?_) λ_=>AY hM ⋯ hT
 exact ol (λe=>mG ⟨⟨_,rfl⟩,.inl ⟨_,rfl,(hM.moreY ht).lst⟩⟩) λe=>?_
 exact ol (λe=>mG ⟨⟨_,rfl⟩,.inl ⟨_,rfl,(hM.moreY ht).fin⟩⟩) λe'=>?_
 have:=oD e;have:=oD e'
 exact AY (hM.moreY ht) ⋯ hT
def A0 (C:Cmp prog w A E s kd Ok lt)(hx:AllOk Ok x)(hy:AllOk Ok y)(h:PH x y o i j)(b:1<=i/\i<x.size/\2<=j/\j<=y.size/\T+i+j<=x.size+y.size+1){T':Nat}(hT:T'<=T):wpS (model prog w) A E s (F0 x y o i j G c d) (λr st=>(∃ g,st=pc kd a p g)/\Ki x y hB T' T r) (pc kd a p g):=by
 unfold F0
 rw[sr]
 exact mJ (lN (mJ (oQ ⋯ (mJ (B5 C (kd:=kd) rfl hx (hy.at ⋯) ⋯ ⋯ λt ht=>?_)))))
 exact ol (λ_=>?_) λ_=>AZ C hx hy h b hT
 exact ol (λe=>mG ⟨⟨_,rfl⟩,.inl ⟨_,rfl,(h.moreX ht).fin⟩⟩) λe=>?_
 have:=oD e
 exact AZ C hx hy (h.moreX ht) ⋯ hT
def IG (C:Cmp prog w A E s kd Ok lt)(hx:AllOk Ok x)(hy:AllOk Ok y)(h:HiG x y o i j T){T':Nat}(hT:T'<=T+1):wpS (model prog w) A E s (hiB x y o i j G c d) (λr st=>(∃ g,st=pc kd a p g)/\Ki x y hB T' (T+1) r) (pc kd a p g):=by
 let(hM,b):=h
 exact ol (λ_=>A0 C hx hy hM ⋯ hT) λ_=>A0 C hx hy hM ⋯ hT
def FZ (C:Cmp prog w A E s kd Ok lt)(hx:AllOk Ok x)(hy:AllOk Ok y)(h:HiG x y o i j (T+1))(hT:T<x.size+y.size):wpS (model prog w) A E s (L6 x y o i j G c d) (λr st=>(∃ g,st=pc kd a p g)/\Ki x y hU (x.size+y.size) (T+1) r) (pc kd a p g):=by
 exact mJ (mI (lO ⟨rfl,?_⟩))
 refine mJ (mH (kG (I:=λn c st=>(∃ g,st=pc kd a p g)/\c.1=Φ/\HiG x y c.2.2.2.1 c.2.1 c.2.2.1 (T+1+n))
  (Q:=λc st=>(∃ g,st=pc kd a p g)/\(LoR x y c.1 ∨ c.1=Φ/\HiG x y c.2.2.2.1 c.2.1 c.2.2.1 (T+1))) ?_ ?_ ⟨⟨_,rfl⟩,rfl,h⟩) ?_)
 ·rintro n ⟨r,i,j,o,G,c,d⟩ st'-hn ⟨⟨g,rfl⟩,hc,h⟩
  exact mH (IG C hx hy h (T':=T+1) ⋯) λr st h=>?_
  cases r with
  | done c=>exact h
  | yield c=>exact h
 ·rintro c st ⟨g,hc,h⟩
  exact⟨g,.inr ⟨hc,.mk h.1 (by have:=h.2;lia)⟩⟩
 ·rintro⟨u,i,j,o,G,c,d⟩ st ⟨⟨g,rfl⟩,h⟩
  rcases h with⟨z,e,hz⟩|⟨e,h⟩
  ·cases e
   exact mG ⟨⟨_,rfl⟩,.inl ⟨z,rfl,hz⟩⟩
  ·cases e
   dsimp only
   rw[sr]
   exact mJ (lN (mG ⟨⟨_,rfl⟩,rfl,h⟩))
def IF (C:Cmp prog w A E s kd Ok lt)(hx:AllOk Ok x)(hy:AllOk Ok y)(h:HiG x y o i j T)(hT:T<x.size+y.size):wpS (model prog w) A E s (hiO x y o i j G) (λr st=>(∃ g,st=pc kd a p g)/\Ki x y hU (x.size+y.size) (T+1) r) (pc kd a p g):=by
 refine mJ (mH (kG (I:=λn c st=>st=pc kd a p g/\c.1=Φ/\HiG x y c.2.2.2.1 c.2.1 c.2.2.1 (T+n))
  (Q:=λc st=>st=pc kd a p g/\(LoR x y c.1 ∨ c.1=Φ/\HiG x y c.2.2.2.1 c.2.1 c.2.2.1 (T+1))) ?_ ?_ ⟨rfl,rfl,h⟩) ?_)
 ·rintro n ⟨r,i,j,o,c,d⟩ st'-hn ⟨rfl,hc,h⟩
  exact mH (IJ C hx hy h (T':=T+1) ⋯) λr st h=>?_
  cases r with
  | done c=>exact h
  | yield c=>exact h
 ·rintro c st ⟨g,hc,h⟩
  exact⟨g,.inr ⟨hc,.mk h.1 (by have:=h.2;lia)⟩⟩
 ·rintro⟨u,i,j,o,c,d⟩ st ⟨rfl,h⟩
  rcases h with⟨z,e,hz⟩|⟨e,h⟩
  ·cases e
   exact mG ⟨⟨_,rfl⟩,.inl ⟨z,rfl,hz⟩⟩
  ·cases e
   exact FZ C hx hy h hT
def O2 (C:Cmp prog w A E s kd Ok lt){Q:KA->nc->Prop}(hx:AllOk Ok x)(hy:AllOk Ok y)(nx:1<=x.size)(ny:1<=y.size)(q:∀ r g',r.toList.Perm (x.toList++y.toList)->Q r (pc kd a p g')):wpS (model prog w) A E s (Dt x y) Q (pc kd a p g):=by
 rw[Ds]
 exact mJ (mI (lO ⟨rfl,?_⟩))
 let M0:PH x y #[gA x (x.size-1)] (x.size-1) y.size:=by
  let h0:PH x y #[] x.size y.size:=by
   unfold PH
   rw[bM ∅,bM ∅];exact .refl _
  exact h0.popX nx (lJ _)
 exact mJ (oQ ⋯ (ol (λ_=>mG (q _ _ M0.fin)) λe1=>ol (λ_=>mG (q _ _ M0.lst)) λe2=>mJ (mW ?_)))
 have:=oD e1;have:=oD e2
 refine mJ (mH (kG (I:=λn c st=>(∃ g,st=pc kd a p g)/\c.1=Φ/\HiG x y c.2.2.2.1 c.2.1 c.2.2.1 n)
  (Q:=λc st=>(∃ g,st=pc kd a p g)/\LoR x y c.1) ?_ ?_ ⟨⟨_,rfl⟩,rfl,.mk M0 (by dsimp only;lia)⟩) ?_)
 ·rintro n ⟨r,i,j,o,G⟩ st'-hn ⟨⟨g,rfl⟩,hc,h⟩
  exact mH (IF C hx hy h hn) λr st h=>?_
  cases r with
  | done c=>exact⟨h.1,h.2.elim id λk=>by have:=k.2.2;lia⟩
  | yield c=>exact h
 ·rintro c st ⟨g,hc,h⟩
  have:=h.2
  lia
 ·rintro⟨u,i,j,o,G⟩ st ⟨⟨g,rfl⟩,z,e,hz⟩
  cases e
  exact mG (q _ _ hz)
end
abbrev Ad (r:Array nH) (s:Nat)(a:Array nH):Array nH:=r.toList.zipIdx.foldl (λa q=>a.setIfInBounds (s+q.2) q.1) a
def ug (s:Nat):∀ (l:List nH) (k:Nat)(a:Array nH),s+k+l.length<=a.size->((l.zipIdx k).foldl (λa q=>a.setIfInBounds (s+q.2) q.1) a).toList=a.toList.take (s+k)++l++a.toList.drop (s+k+l.length)
 | [],k,a,_=>by simp
 | x :: l,k,a,h=>by
  rw[gp,iM,ug s l (k+1) _ (by simp at h ⊢;lia)]
  let hk:s+k<a.toList.length:=by simp at h ⊢;lia
  let e:(a.setIfInBounds (s+k) x).toList=a.toList.take (s+k)++x :: a.toList.drop (s+k+1):=by
   rw[Array.toList_setIfInBounds,List.set_eq_take_append_cons_drop,if_pos hk]
  show (a.setIfInBounds (s+k) x).toList.take (s+(k+1))++l++(a.setIfInBounds (s+k) x).toList.drop (s+(k+1)+l.length)=_
  let hl:(a.toList.take (s+k)).length=s+k:=by rw[gz];lia
  let e1:(a.setIfInBounds (s+k) x).toList.take (s+(k+1))=a.toList.take (s+k)++[x]:=by
   rw[e,List.take_append,bM (by rw[hl];lia),hl,show s+(k+1)-(s+k)=1 by lia];rfl
  let e2:(a.setIfInBounds (s+k) x).toList.drop (s+(k+1)+l.length)=a.toList.drop (s+k+(x :: l).length):=by
   rw[e,gH,bP (by rw[hl];lia),hl,show s+(k+1)+l.length-(s+k)=l.length+1 by lia,iD,List.drop_succ_cons,jz,gC]
   congr 1;lia
  rw[e1,e2];simp
def yV {r a:Array nH}{s:Nat}(h:s+r.size<=a.size):(Ad r s a).toList=a.toList.take s++r.toList++a.toList.drop (s+r.size):=by
 have:=ug s r.toList 0 a (by simpa using h)
 simpa[Ad] using this
def xc (i:Nat):mergeAt' i=(do
 let z <- get
 let (Ψ (u,m,e),Ψ (v,n,_)):=((pendingOf z)[i]?,(pendingOf z)[i+1]?)|unsupported "internal:list.sort.pending"
 set (lY (kindOf z) (arrOf z) (((pendingOf z).setIfInBounds i (u,m+n,e)).eraseIdxIfInBounds (i+1)) (gallopOf z) (failedOf z))
 let Ψ k <- uf Ξ (<- elem' (arrOf z) v) (arrOf z) u m 0|return Ξ
 let (u,m):=(u+k,m-k)
 if m == 0 then return Ω
 let Ψ n <- uf Ω (<- elem' (arrOf z) (u+m-1)) (arrOf z) v n (n-1)|return Ξ
 if n == 0 then return Ω
 let x:=(arrOf z).extract u v
 let y:=(arrOf z).extract v (v+n)
 let r <- if m<=n then Dr x y else Dt x y
 modify λz=>setArr z (r.toList.zipIdx.foldl (λa (p,j)=>a.setIfInBounds (u+j) p) (arrOf z))
 return (failedOf (<- get)).isNone):=rfl
section
variable {prog:mX}{w:nC}{A:nB}{E:nE->nh->Prop}{s:nh}{kd:mM}{Ok:nH->Prop}{lt:nH->nH->Bool}
def Bt {Q:PUnit->nc->Prop}{st st':nc}(h:Q ⟨⟩ st'):wpS (model prog w) A E s (set st':StateT nc Sem PUnit) Q st:=by
 unfold wpS;rw[StateT.run_set];exact lP ⟨rfl,h⟩
def O3 (C:Cmp prog w A E s kd Ok lt){a:Array nH}{p:Array (Nat×Nat×Nat)}{g i u m e n f:Nat}{Q:Bool->nc->Prop}(ho:AllOk Ok a)(h1:p[i]?=Ψ (u,m,e))(h2:p[i+1]?=Ψ (u+m,n,f))(hm:1<=m)(hn:1<=n)(hz:u+m+n<=a.size)
  (q:∀ b g',b.Perm a->Q Ω (pc kd b ((p.setIfInBounds i (u,m+n,e)).eraseIdxIfInBounds (i+1)) g')):wpS (model prog w) A E s (mergeAt' i) Q (pc kd a p g):=by
 rw[xc]
 exact mJ (mW ?_)
 show wpS _ _ _ _ (match (p[i]?,p[i+1]?) with|(Ψ (u,m,e),Ψ (v,n,_))=>_|_=>_) _ _
 rw[h1,h2]
 exact mJ (Bt ?_)
 generalize ((p.setIfInBounds i (u,m+n,e)).eraseIdxIfInBounds (i+1))=p' at q ⊢
 rw[show arrOf (pc kd a p g)=a from rfl,show lY (kindOf (pc kd a p g)) a p' (gallopOf (pc kd a p g)) (failedOf (pc kd a p g))=pc kd a p' g from rfl]
 exact mJ (oQ (x:=a) ⋯ ?_)
 exact mJ (B5 C (kd:=kd) rfl ho (ho.at ⋯) ⋯ ⋯ λk hk=>?_)
 dsimp only
 exact ol (λ_=>mG (q a g (.refl _))) λhb=>?_
 let hb:=oD hb
 exact mJ (oQ (x:=a) ⋯ ?_)
 exact mJ (B5 C (kd:=kd) rfl ho (ho.at ⋯) ⋯ ⋯ λt ht=>?_)
 dsimp only
 exact ol (λ_=>mG (q a g (.refl _))) λhb2=>?_
 let hb2:=oD hb2
 let xl:(a.extract (u+k) (u+m)).toList=(a.toList.drop (u+k)).take (m-k):=by rw[cP,aU];congr 1;lia
 let yl:(a.extract (u+m) (u+m+t)).toList=(a.toList.drop (u+m)).take t:=by rw[cP,aU];congr 1;lia
 let hx:AllOk Ok (a.extract (u+k) (u+m)):=λz hz=>ho z (by rw[xl] at hz;exact cG (cF hz))
 let hy:AllOk Ok (a.extract (u+m) (u+m+t)):=λz hz=>ho z (by rw[yl] at hz;exact cG (cF hz))
 let xs:1<=(a.extract (u+k) (u+m)).size:=by rw[eA];lia
 let ys:1<=(a.extract (u+m) (u+m+t)).size:=by rw[eA];lia
 let last:∀ r g',r.toList.Perm ((a.extract (u+k) (u+m)).toList++(a.extract (u+m) (u+m+t)).toList)->Q Ω (pc kd (Ad r (u+k) a) p' g'):=by
  intro r g' hr
  rw[xl,yl] at hr
  let rs:r.size=m-k+t:=by
   have:=hr.length_eq
   simp at this;lia
  let bl:=yV (r:=r) (a:=a) (s:=u+k) ⋯
  exact q _ g' ?_
  rw[aM,bl,rs]
  have:a.toList=a.toList.take (u+k)++((a.toList.drop (u+k)).take (m-k)++(a.toList.drop (u+m)).take t)++a.toList.drop (u+k+(m-k+t)):=by
   let e1:(a.toList.drop (u+k)).take (m-k)++(a.toList.drop (u+m)).take t=(a.toList.drop (u+k)).take (m-k+t):=by
    rw[ke,jz,show u+k+(m-k)=u+m by lia]
   rw[e1,<- ke,cb]
  conv=>rhs;rw[this]
  exact (hr.append_left _).append_right _
 generalize a.extract (u+k) (u+m)=X at hx xs last ⊢
 generalize a.extract (u+m) (u+m+t)=Y at hy ys last ⊢
 exact ol (λ_=>mJ ?_) λ_=>mJ ?_
 ·exact O1 C hx hy xs ys λr g' hr=>mJ (lN (mJ (mW (mG (last r g' hr)))))
 ·exact O2 C hx hy xs ys λr g' hr=>mJ (lN (mJ (mW (mG (last r g' hr)))))
end
abbrev Cvr:List (Nat×Nat×Nat)->Nat->Nat->Prop
 | [],s,e=>s=e
 | (u,n,_) :: r,s,e=>u=s/\1<=n/\Cvr r (s+n) e
def Cvr.le:∀ {l:List (Nat×Nat×Nat)}{s e:Nat},Cvr l s e->s+l.length<=e
 | [],s,e,h=>by cases (show s=e from h);simp
 | (u,n,_) :: r,s,e,q1=>by let(_,h2,h4):=q1;have:=h4.le;simp;lia
def Cvr.snoc:∀ {l:List (Nat×Nat×Nat)}{s e n f:Nat},Cvr l s e->1<=n->Cvr (l++[(e,n,f)]) s (e+n)
 | [],s,e,n,f,h,h1=>by cases (show s=e from h);exact⟨rfl,h1,rfl⟩
 | (u,m,_) :: r,s,e,n,f,q1,h1=>by let(g1,g2,g4):=q1;exact⟨g1,g2,g4.snoc h1⟩
def Cvr.join:∀ {l:List (Nat×Nat×Nat)}{i s e:Nat},Cvr l s e->i+1<l.length->∃ u m f n f',l[i]?=Ψ (u,m,f)/\l[i+1]?=Ψ (u+m,n,f')/\1<=m/\1<=n/\u+m+n<=e/\Cvr ((l.set i (u,m+n,f)).eraseIdx (i+1)) s e
 | [],i,s,e,h,hi=>by simp at hi
 | [_],i,s,e,h,hi=>by simp at hi
 | (u,m,f) :: (v,n,f') :: r,0,s,e,q1,hi=>by
  let(g1,g2,g4,g5,g7):=q1
  subst g1;subst g4
  exact⟨u,m,f,n,f',rfl,rfl,g2,g5,by have:=g7.le;lia,rfl,⋯,?_⟩
  rw[<- ka]
  exact g7
 | (u,m,f) :: q :: r,i+1,s,e,q2,hi=>by
  let(g1,g2,g4):=q2
  let(u',m',f1,n',f2,e1,e2,h1,h2,h4,h7):=Cvr.join (i:=i) g4 (by simpa using hi)
  exact⟨u',m',f1,n',f2,by simpa using e1,by simpa using e2,h1,h2,h4,?_⟩
  rw[List.set_cons_succ,bB]
  exact⟨g1,g2,h7⟩
def Cvr.pow:∀ {l:List (Nat×Nat×Nat)}{i s e:Nat}(f:Nat×Nat×Nat->Nat×Nat×Nat),(∀ x,(f x).1=x.1/\(f x).2.1=x.2.1)->Cvr l s e->Cvr (l.modify i f) s e
 | [],i,s,e,f,hf,h=>by simpa using h
 | (u,n,w) :: r,0,s,e,f,hf,q1=>by
  let(h1,h2,h4):=q1
  let(e1,e2):=hf (u,n,w)
  rw[List.modify_zero_cons]
  rcases e0:f (u,n,w) with⟨u',n',w'⟩
  rw[e0] at e1 e2
  dsimp only at e1 e2
  subst e1;subst e2
  exact⟨h1,h2,h4⟩
 | q :: r,i+1,s,e,f,hf,h=>by
  let(u,n,w):=q
  rw[List.modify_succ_cons]
  exact⟨h.1,h.2.1,h.2.2.pow f hf⟩
section
variable {prog:mX}{w:nC}{A:nB}{E:nE->nh->Prop}{s:nh}{kd:mM}{Ok:nH->Prop}{lt:nH->nH->Bool}
def Dn (C:Cmp prog w A E s kd Ok lt){a:Array nH}{p:Array (Nat×Nat×Nat)}{g i e:Nat}{Q:Bool->nc->Prop}(ho:AllOk Ok a)(hc:Cvr p.toList 0 e)(hh:e<=a.size)(hi:i+1<p.size)
  (q:∀ b p' g',b.Perm a->Cvr p'.toList 0 e->p'.size+1=p.size->Q Ω (pc kd b p' g')):wpS (model prog w) A E s (mergeAt' i) Q (pc kd a p g):=by
 let(u,m,f,n,f',e1,e2,h1,h2,h4,h7):=hc.join (i:=i) (by simpa using hi)
 rw[cA] at e1 e2
 exact O3 C ho e1 e2 h1 h2 ⋯ λb g' o=>?_
 let hl:((p.setIfInBounds i (u,m+n,f)).eraseIdxIfInBounds (i+1)).toList=(p.toList.set i (u,m+n,f)).eraseIdx (i+1):=by
  simp
 exact q b _ g' o (by rw[hl];exact h7) ?_
 rw[<- dk,hl,List.length_eraseIdx_of_lt (by simpa using hi),iI,dk]
 lia
def Ld (C:Cmp prog w A E s kd Ok lt){a:Array nH}{g:Nat}{Q:Unit->nc->Prop}(ho:AllOk Ok a)(h2:2<=a.size)
  (q:∀ b p g',b.Perm a->Q () (pc kd b p g')):wpS (model prog w) A E s sortRuns' Q (pc kd a #[] g):=by
 rw[sortRuns'_eq]
 exact mJ (mW ?_)
 dsimp only
 rw[show arrOf (pc kd a #[] g)=a from rfl]
 generalize minRun' a.size a.size 0=mr
 refine mJ (mH (kG (I:=λn c st'=>∃ b p g' lo,st'=pc kd b p g'/\c=(Φ,lo)/\b.Perm a/\Cvr p.toList 0 lo/\lo<=a.size/\(lo=a.size ∨ n<=lo))
  (Q:=λc st'=>∃ b p g',st'=pc kd b p g'/\c=(Φ,a.size)/\b.Perm a/\Cvr p.toList 0 a.size) ?_ ?_ ⟨a,#[],g,0,rfl,rfl,iY _,rfl,⋯,⋯⟩) ?_)
 ·rintro x c st'-hx ⟨b,p,g',lo,rfl,rfl,hp,hc,hlo,hor⟩
  dsimp only
  by_cases hge:lo ≥ a.size
  ·rw[if_pos hge]
   have:lo=a.size:=⋯
   subst this
   exact mG ⟨b,p,g',rfl,rfl,hp,hc⟩
  rw[if_neg hge]
  let hbz:=hp.size_eq
  let hob:=ho.perm hp
  exact mJ (Hh C hob ⋯ ⋯ λm b1 m1 m2 o1 s1=>?_)
  dsimp only
  let hp1:=o1.1.trans hp
  let hc1:=hc
  let hob1:=ho.perm hp1
  let hb1:=hp1.size_eq
  by_cases hmr:m<mr
  rw[if_pos hmr]
  exact mJ (mI (lO ⟨rfl,?_⟩))
  exact mJ (ID C (n:=min (a.size-lo) mr) hob1 m1 ⋯ ⋯ s1 λb2 o2 s2=>?_)
  simp -iota only[kC,dZ,if_false]
  let hp2:=o2.1.trans hp1
  let hc2:=hc1
  let hn1:1<=min (a.size-lo) mr:=⋯
  let hn2:lo+min (a.size-lo) mr<=a.size:=⋯
  generalize min (a.size-lo) mr=n at s2 hn1 hn2 ⊢
  clear s1 o1 o2 hp1 hc1 hob1 hb1 hob hbz hc hp
  rotate_left
  rw[if_neg hmr]
  let hp2:=hp1
  let hc2:=hc1
  let s2:=s1
  let hn1:=m1
  let hn2:lo+m<=a.size:=⋯
  clear s1 o1 hp1 hc1 hob1 hb1 hob hbz hc hp m2
  generalize b1=b2 at hp2 hc2 s2 ⊢
  generalize m=n at s2 hn1 hn2 ⊢
  all_goals
   let fin:∀ (b3:Array nH)(p3:Array (Nat×Nat×Nat)) (g3:Nat),b3.Perm a->Cvr p3.toList 0 lo->∃ (b:Array nH)(p:Array (Nat×Nat×Nat)) (g' lo':Nat),pc kd b3 (p3.push (lo,n,0)) g3=pc kd b p g'/\((Φ,lo+n):Option Unit×Nat)=(Φ,lo')/\b.Perm a/\Cvr p.toList 0 lo'/\lo'<=a.size/\(lo'=a.size ∨ x+1<=lo'):=by
    intro b3 p3 g3 i1 i2
    exact⟨b3,_,g3,lo+n,rfl,rfl,i1,?_,hn2,⋯⟩
    rw[fP]
    exact i2.snoc hn1
   exact mJ (mW ?_)
   rw[show pendingOf (pc kd b2 p g')=p from rfl]
   rcases hbk:p.back? with _|⟨s1,n1,w1⟩
   ·exact mJ (lN (mG (fin b2 p g' hp2 hc2)))
   ·dsimp only
    generalize power' a.size (2*s1+n1) (2*s1+n1+n1+n) a.size=pw
    refine mJ (mH (kG (I:=λ_ c st'=>∃ b p g',st'=pc kd b p g'/\c=(Φ,())/\b.Perm a/\Cvr p.toList 0 lo)
     (Q:=λc st'=>∃ b p g',st'=pc kd b p g'/\c=(Φ,())/\b.Perm a/\Cvr p.toList 0 lo) ?_ (λ_ _ h=>h) ⟨b2,p,g',rfl,rfl,hp2,hc2⟩) ?_)
    ·rintro x' c st'-hx' ⟨b3,p3,g3,rfl,rfl,i1,i2⟩
     exact mJ (mW ?_)
     rw[show pendingOf (pc kd b3 p3 g3)=p3 from rfl]
     let hb3:=i1.size_eq
     by_cases hz:p3.size > 1
     ·rw[if_pos hz]
      rcases hq:p3[p3.size-2]? with _|⟨t1,t2,t3⟩
      ·exact mG ⟨b3,p3,g3,rfl,rfl,i1,i2⟩
      ·dsimp only
       by_cases ht:t3<=pw
       ·rw [if_pos ht]; exact mG ⟨b3,p3,g3,rfl,rfl,i1,i2⟩
       ·rw [if_neg ht]
        exact mJ (Dn C (ho.perm i1) i2 ⋯ ⋯ fun b4 p4 g4 o4 c4 _=>?_)
        simp -iota only [kC,dZ,if_false]
        exact mG ⟨b4,p4,g4,rfl,rfl,o4.trans i1,c4⟩
     ·rw[if_neg hz]
      exact mG ⟨b3,p3,g3,rfl,rfl,i1,i2⟩
    ·rintro c st' ⟨b3,p3,g3,rfl,rfl,i1,i2⟩
     dsimp only
     exact mJ (lN (mJ (lN (mG (fin b3 _ g3 i1 ?_)))))
     show Cvr (p3.modify (p3.size-1) _).toList 0 lo
     rw[Array.toList_modify]
     exact i2.pow _ λz=>⟨rfl,rfl⟩
 ·rintro c st' ⟨b,p,g',lo,rfl,rfl,hp,hc,hlo,hor⟩
  have:lo=a.size:=⋯
  subst this
  exact⟨b,p,g',rfl,rfl,hp,hc⟩
 ·rintro c st' ⟨b,p,g',rfl,rfl,hp,hc⟩
  dsimp only
  let hbz:=hp.size_eq
  refine mJ (mH (kG (I:=λn c st'=>∃ b p g',st'=pc kd b p g'/\c=(Φ,())/\b.Perm a/\Cvr p.toList 0 a.size/\p.size<=max 1 (a.size-n))
   (Q:=λc st'=>∃ b p g',st'=pc kd b p g'/\c=(Φ,())/\b.Perm a/\Cvr p.toList 0 a.size/\p.size<=1) ?_ ?_ ⟨b,p,g',rfl,rfl,hp,hc,by have:=hc.le;simp at this;lia⟩) ?_)
  ·rintro x c st'-hx ⟨b,p,g',rfl,rfl,hp,hc,hz⟩
   exact mJ (mW ?_)
   rw[show pendingOf (pc kd b p g')=p from rfl]
   let hbz:=hp.size_eq
   by_cases h1:p.size<=1
   ·rw[if_pos h1]
    exact mG ⟨b,p,g',rfl,rfl,hp,hc,h1⟩
   rw[if_neg h1]
   generalize hi0:(if ((if p.size-2 > 0 then Option.map (λx=>x.2.1) p[p.size-2-1]? else Φ).any λx=>Δ (x<p[p.size-2+1]?.elim 0 λx=>x.2.1))=Ω then p.size-2-1 else p.size-2)=i0
   let two:∀ c:Bool,(if c=Ω then p.size-2-1 else p.size-2)+1<p.size:=by
    intro c
    cases c
    ·rw[if_neg dY];lia
    ·rw[if_pos rfl];lia
   let hi:i0+1<p.size:=by rw[<- hi0];exact two _
   exact mJ (Dn C (ho.perm hp) hc ⋯ hi λb4 p4 g4 o4 c4 hz4=>?_)
   simp -iota only[kC,dZ,if_false]
   exact mG ⟨b4,p4,g4,rfl,rfl,o4.trans hp,c4,⋯⟩
  ·rintro c st' ⟨b,p,g',rfl,rfl,hp,hc,hz⟩
   exact⟨b,p,g',rfl,rfl,hp,hc,⋯⟩
  ·rintro c st' ⟨b,p,g',rfl,rfl,hp,hc,hz⟩
   exact mG (q b p g' hp)
end
end Kq
set_option maxHeartbeats 4000000
namespace Kq
open PySem PySem.Spec PyProof.Rows L2 PySem.W
section
variable {prog:mX}{w:nC}{A:nB}{E:nE->nh->Prop}{s:nh}{vs:List nE}{kd:mM}{kf:nE->List Int}
def Ik {a:nP}{n:Nat}{P:PySem.Fin->nh->Prop}(ho:s.heap.get? a=Ψ (seqObj "list" vs.toArray n))(hb:vs.length<=100000)
  (hk:2<=vs.length->∀ h3:nM,(∀ b o,b≠a->s.heap.get? b=Ψ o->h3.get? b=Ψ o)->∀ Q:mM->nh->Prop,Q kd { s with heap:=h3 }->wpAny (model prog w) A (keyKind' vs.toArray) Q E { s with heap:=h3 })
  (hc:∀ h3:nM,(∀ b o,b≠a->s.heap.get? b=Ψ o->h3.get? b=Ψ o)->∀ x∈vs,∀ y∈vs,∀ Q:Bool->nh->Prop,∀ E':nE->nh->Prop,Q (lexLt (kf x) (kf y)) { s with heap:=h3 }->wpAny (model prog w) A (keyLt' kd x y) Q E' { s with heap:=h3 })
  (K:∀ (vs':List nE)(h':nM) (c tk:Nat),vs'.Perm vs->h'.get? a=Ψ (seqObj "list" vs'.toArray c)->(∀ b o,b≠a->s.heap.get? b=Ψ o->h'.get? b=Ψ o)->P (.done (.ret .none)) { s with heap:=h',toks:=tk }) :
  wpAny (model prog w) A (m7.«list.sort» ⟨[.ref a],[]⟩) P E s:=by
 obtain⟨e1,ho1⟩:∃ e1,(s.heap.update a (ma λ_=>(#[]:Array nE))).get? a=Ψ (seqObj "list" #[] e1):=⟨_,ia ho λ_=>#[]⟩
 let kp:∀ b o,b≠a->s.heap.get? b=Ψ o->(((s.heap.update a (ma λ_=>(#[]:Array nE))).push (seqObj "tuple" vs.toArray 0)).push (seqObj "list" #[] 0)).get? b=Ψ o:=λb o hb e =>
  bS _ (bS _ ((bR _ _ (mZ hb)).trans e))
 let ho2:(((s.heap.update a (ma λ_=>(#[]:Array nE))).push (seqObj "tuple" vs.toArray 0)).push (seqObj "list" #[] 0)).get? a=Ψ (seqObj "list" #[] e1):=bS _ (bS _ ho1)
 rw[list_sort_plain]
 exact lR (listItems_at ho rfl ?_)
 exact lR (jO ho rfl ?_ (by rw[fk,lA];lia) (lH _))
 exact lR (seqEpoch_at ho1 rfl ?_)
 exact lR (i7 ?_ (by show vs.length<=_;rw[lA];lia))
 exact lR (jH ?_ (lH _))
 exact jI ?_
 show wpAny (model prog w) A _ P E { s with heap:=((s.heap.update a (ma λ_=>(#[]:Array nE))).push (seqObj "tuple" vs.toArray 0)).push (seqObj "list" #[] 0) }
 dsimp only
 generalize ((s.heap.update a (ma λ_=>(#[]:Array nE))).push (seqObj "tuple" vs.toArray 0)).push (seqObj "list" #[] 0)=h3 at kp ho2
 -- what comes behind the sorting
 let fin:∀ b:Array nH,b.Perm (pairsOf vs)->∀ st:nc,arrOf st=b->failedOf st=Φ->wpAny (model prog w) A (do
   let touched:=(<- seqEpoch a) != e1
   Builtin.List.listUpdate (.ref a) λ_=>(arrOf st).map (·.2)
   if let Ψ e:=failedOf st then rule "list.sort.comparison-raised";throw e
   if touched then rule "list.sort.modified";raiseError "ValueError" "list modified during sort"
   ret .none) P E { s with heap:=h3 }:=by
  intro b hp st hst hf
  let hpl:b.toList.Perm (vs.zip vs):=by rw[<- jc];exact aM.mp hp
  let hself:∀ p∈b.toList,p.1=p.2/\p.1∈vs:=λp hp=>mem_zip_self (hpl.mem_iff.mp hp)
  let hperm:((b.map (·.2)).toList).Perm vs:=by
   rw[gS]
   have:=hpl.map (·.2)
   rwa [show (vs.zip vs).map (·.2)=vs by rw[List.map_snd_zip (lJ _)]] at this
  let hsz:(b.map (·.2)).size=vs.length:=by rw[<- dk];exact hperm.length_eq
  obtain⟨c2,hc2⟩:∃ c2,(h3.update a (ma λ_=>b.map (·.2))).get? a=Ψ (seqObj "list" (b.map (·.2)) c2):=⟨_,ia ho2 λ_=>b.map (·.2)⟩
  exact lR (seqEpoch_at ho2 rfl ?_)
  rw[hst]
  exact lR (jO ho2 rfl ?_ (lH _) (kX (kZ hsz) (by rw[lA];lia)))
  rw[hf]
  simp![bne_self_eq_false,dZ,if_false]
  exact lP (K (b.map (·.2)).toList _ c2 _ hperm (by rw[Array.toArray_toList];exact hc2) λb' o hb' e=>(bR _ _ (mZ hb')).trans (kp b' o hb' e))
 by_cases h2:vs.toArray.size<2
 ·rw[if_pos h2,if_pos h2]
  exact lR (lP ?_)
  rw[StateT.run_pure]
  exact lR (lP ?_)
  exact fin (pairsOf vs) (iY _) _ rfl rfl
 ·rw[if_neg h2,if_neg h2]
  let h2':2<=vs.length:=by simpa using h2
  exact lR (hk h2' h3 kp _ ?_)
  refine lR (lQ (Ld (Jz (E:=E) (hc h3 kp)) (a:=pairsOf vs) (g:=7) (Q:=λ_ st'=>∃ b,b.Perm (pairsOf vs)/\arrOf st'=b/\failedOf st'=Φ)
   (λp hp=>by rw[jc] at hp;exact (mem_zip_self hp).2) (by rw[pairsOf_size];exact h2') λb p g' q1=>⟨b,q1,rfl,rfl⟩) ?_ λ_ _ e=>e)
  rintro⟨⟨⟩,st'⟩ s' ⟨rfl,b,q1,q3,q4⟩
  exact fin b q1 st' q3 q4
def xV {l:nP}{Q:nE->nh->Prop}(hl:SqH s.heap l vs.toArray)(hb:vs.length<=100000)
  (hk:∀ A':nB,2<=vs.length->∀ h3:nM,(∀ b o,s.heap.get? b=Ψ o->h3.get? b=Ψ o)->∀ Q:mM->nh->Prop,Q kd { s with heap:=h3 }->wpAny (model prog w) A' (keyKind' vs.toArray) Q E { s with heap:=h3 })
  (hc:∀ A':nB,∀ h3:nM,(∀ b o,s.heap.get? b=Ψ o->h3.get? b=Ψ o)->∀ x∈vs,∀ y∈vs,∀ Q:Bool->nh->Prop,∀ E':nE->nh->Prop,Q (lexLt (kf x) (kf y)) { s with heap:=h3 }->wpAny (model prog w) A' (keyLt' kd x y) Q E' { s with heap:=h3 })
  (K:∀ (D:nP)(vs':List nE)(h':nM) (c tk:Nat),vs'.Perm vs->s.heap.objs.size<=D->h'.get? D=Ψ (seqObj "list" vs'.toArray c)->(∀ b o,s.heap.get? b=Ψ o->h'.get? b=Ψ o)->Q (.ref D) { s with heap:=h',toks:=tk }) :
  wpAny (model prog w) A (call (.builtin "sorted") [.ref l]) Q E s:=by
 exact Calls.call_function_entry kind_sorted plain_sorted entry_sorted (args_sorted1 _) ?_
 unfold m7.«sorted»
 exact lR (m:=checkCount "sorted" 1 1 _) (lP ?_)
 exact lR (zY hl ?_ (by rw[lA];lia))
 exact lR (jH ?_ (by rw[lA];lia))
 let hsz:((s.heap.push (seqObj "list" #[] 0)).update s.heap.objs.size (ma (·++vs.toArray))).objs.size=s.heap.objs.size+1:=by
  rw[Heap.size_update,size_push']
 let hoL:(((s.heap.push (seqObj "list" #[] 0)).update s.heap.objs.size (ma (·++vs.toArray))).push (seqObj "list" vs.toArray 0)).get? (s.heap.objs.size+1)=Ψ (seqObj "list" vs.toArray 0):=by
  rw[<- hsz];exact dc _ rfl
 let keep:∀ b o,s.heap.get? b=Ψ o->(((s.heap.push (seqObj "list" #[] 0)).update s.heap.objs.size (ma (·++vs.toArray))).push (seqObj "list" vs.toArray 0)).get? b=Ψ o:=λb o q=>by
  let hlt:b<s.heap.objs.size:=lg q
  rw[fH _ _ _ (by rw[hsz];exact kU (fg hlt)),Heap.get?_update_ne _ _ _ _ (kU hlt),fH _ _ _ (kU hlt)]
  exact q
 let old:∀ b o,s.heap.get? b=Ψ o->b≠s.heap.objs.size+1:=λb o e=>kU (fg (lg e))
 show wpAny _ _ _ _ _ { s with heap:=((s.heap.push (seqObj "list" #[] 0)).update s.heap.objs.size (ma (·++vs.toArray))).push (seqObj "list" vs.toArray 0) }
 rw[hsz]
 exact lR (jI (fV slot_list_sort ⟨_,hoL,rfl⟩ entry_list_sort (Ik (kd:=kd) (kf:=kf) hoL hb (λh2 h3 kp=>hk _ h2 h3 λb o e=>kp b o (old b o e) (keep b o e)) (λh3 kp=>hc _ h3 λb o e=>kp b o (old b o e) (keep b o e)) λvs' h' c tk a1 a3 a4=>⟨_,rfl,?_⟩) (args_list_sort _)))
 exact lP ⟨_,rfl,K _ vs' h' c tk a1 (lI _) a3 λb o e=>a4 b o (old b o e) (keep b o e)⟩
def wO {l:nP}{Q:nE->nh->Prop}(hl:SqH s.heap l vs.toArray)(hb:vs.length<=100000)(ht:∀ v∈vs,∃ ks,NumTup s.heap v ks)
  (K:∀ (D:nP)(vs':List nE)(h':nM) (c tk:Nat),vs'.Perm vs->s.heap.objs.size<=D->h'.get? D=Ψ (seqObj "list" vs'.toArray c)->(∀ b o,s.heap.get? b=Ψ o->h'.get? b=Ψ o)->Q (.ref D) { s with heap:=h',toks:=tk }) :
  wpAny (model prog w) A (call (.builtin "sorted") [.ref l]) Q E s:=by
 exact xV (kd:=tuples' Ω) (kf:=numsOf s.heap) hl hb (λA' h2 h3 kp Q q=>?_) (λA' h3 kp x hx y hy Q E' q=>?_) K
 ·let(fs,t1,t2,t3):=yw (h:=h3) (vs:=vs) λv hv=>by
   let(ks,hk):=ht v hv
   exact (hk.keep kp).it
  exact kat_kind (T:=.type "int") t1 ⋯ (λv hv=>?_) (·) q
  let(k,t,rfl):=t3 v hv
  exact .now
 ·let(ks,hk):=ht x hx
  let(js,hj):=ht y hy
  rw[hk.nums,hj.nums] at q
  exact LR (hk.keep kp) (hj.keep kp) q
end
abbrev xw (a:EW):EW:=λL Q=>a L λv L1=>wp (qa v) λxs=>sN xs=Ω/\xs.length<=100000/\∀ ys:List FV,ys.Perm xs->Q (.lst ys) L1
nonrec def Ks (a:EW)(L:nT)(Q:FV->nT->Prop):xw a L Q=(a L λv L1=>wp (qa v) λxs=>sN xs=Ω/\xs.length<=100000/\∀ ys:List FV,ys.Perm xs->Q (.lst ys) L1):=propext m6
section
variable {X:Cx}
inductive rSortP (X:Cx)(xs:List V)(H:Hp)(Q:VK):Prop
 | mk (a:nP)(ys:List V)(_:xs=[.ref a])(_:(SqL X.K H a ys ∨ SqT X.K H a ys))(_:ys.length<=100000)(_:(∀ y∈ys,∃ (b:nP)(ks:List Int),y=.ref b/\ks≠[]/\H b=Ψ (.tup (ks.map V.int))))(_:∀ p zs,H p=Φ->zs.Perm ys->Q (.ref p) (oT H p (.lst zs))):rSortP X xs H Q
def Gf:oR X (.builtin "sorted") (rSortP X):=by
 rintro Z9 s σ H xs us Q I r ⟨a,ys,rfl,hl,hb,ht,k⟩
 let(u,rfl,ru):=vals1 r
 cases (show u=Value.ref a from ru)
 obtain⟨Z7,rv,pl,hz⟩:∃ Z7:List nE,Vals ys Z7/\SqH s.heap a Z7.toArray/\ys.length<=sizeLine:=by
  rcases hl with hl|hl
  ·let(Z7,rv,pl,hz):=I.list hl
   let(o,ho,hc,n,hd):=pl.isList
   exact⟨Z7,rv,⟨o,_,n,ho,.inl rfl,hc,hd⟩,hz⟩
  ·let(Z7,rv,(o,ho,hc,n,hd),hz):=I.tuple hl
   exact⟨Z7,rv,⟨o,_,n,ho,.inr rfl,hc,hd⟩,hz⟩
 let ll:ys.length=Z7.length:=rv.length
 let nt:∀ (b:nP)(ks:List Int),H b=Ψ (.tup (ks.map V.int))->ks≠[]->NumTup s.heap (.ref b) ks:=by
  intro b ks hb hn
  let(_,jts,rr,o,e1,e2,n,e3):=(show ObjOk X.prog X.w H s.heap b (.tup (ks.map V.int)) from I.hok b _ hb)
  exact⟨b,o,jts,n,rfl,e1,e2,e3,rr,hn⟩
 let tv:∀ v∈Z7,∃ ks,NumTup s.heap v ks:=by
  intro v hv
  let(i,hi):=ck.mp hv
  let hil:i<ys.length:=by rw[ll];exact (aR.mp hi).1
  let(u,e,ru):=rv.get (i:=i) (x:=ys[i]) (by simp[hil])
  rw[hi] at e;cases e
  let(b,ks,e,hn,hb):=ht _ (gD hil)
  rw[e] at ru
  cases (show v=Value.ref b from ru)
  exact⟨ks,nt b ks hb hn⟩
 exact wO pl ⋯ tv λD vs' h' c tk p1 p2 p3 p4=>?_
 let(zs,e,g):=Vals.perm p1 rv
 let hn:H D=Φ:=I.hok.fresh p2
 refine⟨.ref D,_,I.laid (a:=D) (o:=.lst zs) (t':=tk) p4 p2 ⟨by rw[e.length_eq];exact hz,vs',c,g,p3⟩,rfl,k D zs hn e⟩
end
section
variable {X:Cx}{C:CC}{n:Nat}{sp:kP->Nat->Sp}{a:Expr}{ea:EW}{pos p:Pos}
def Mp (G:Good X C n sp)(hg:C.gl (kL "sorted")=Ω)(hs:oh a=Ξ)(ha:FR X C a ea):FE X C (.Call (.Name (kL "sorted") p) [a] [] pos) (xw ea) :=
 PE.imp (qZ Gf (G.gl hg) (G.blt "sorted" (·)) (by nofun) (oy ha pM (nX hs)) (by nofun) (by nofun) (nX hs) rfl) λσ H Q q1=>by let(c,L,S,Q0,I,h,k):=q1;exact
 ⟨c,L,S,_,I,h,λv L1 hv x S1 H1 r1 I1 s1=>by
  let(xs,e1,t1,t2,q):=oS hv
  let(a,ys,rfl,hq,ry):=r1.seq I1.sub e1
  let hl:=ry.length
  let(i1,i2):=xP t1 ry
  let hq2:SqL X.K H1 a ys ∨ SqT X.K H1 a ys:=by
   revert hq
   cases LW v with
   | true=>exact .inl
   | false=>exact .inr
  exact⟨a,ys,rfl,hq2,⋯,λy hy=>?_,λp zs hp hz=>?_⟩
  ·let(b,ks,e,hn,hb):=i1 y hy
   exact⟨b,ks,e,hn,I1.sub _ _ hb⟩
  ·let(qs,e,g):=RVs.perm hz ry
   refine k _ L1 (q qs e) _ _ _ ⟨p,zs,rfl,n5,g.mono (oA (I1.sn hp))⟩ (I1.new hp _) (s1.trans (oA (I1.sn hp)))⟩
end
end Kq
set_option maxRecDepth 10000
set_option maxHeartbeats 1000000
namespace Kq
abbrev On (call:CW):SW:=ou (tS (oH (t5 .int) (nQ 0)) (oH Fl (oH (t5 .bool) (nQ 0))))
abbrev Om (call:CW):SW:=ou (tS (oH (t5 .tuple) (nQ 0)) (n6 vn (oH qI (nQ 0)) (nQ 1)))
abbrev Ol (call:CW):SW:=ou (tS (ox call 0 (nR (nQ 0) nU)) (n6 Kp (nQ 0) (eC (.int 1))))
abbrev Oj (call:CW):SW:=ou (tS (ox call 0 (nR (nQ 0) nU)) (vt O6 ltN (eC (.int 0)) (nQ 0) (nQ 1)))
abbrev Sd (call:CW):SW:=nY (oo (oH qI (n6 pY (nQ 0) (eC (.int 0)))) (.nm 2)) (nY (rD (qp (n8 (ox call 1 (nR (nQ 1) (nR (nQ 2) nU))))) (ou (eC (.bl Ξ))) pD) (nY (oo (ox call 6 (nR (nQ 0) nU)) (.nm 3)) (nY (pT (rh (nQ 1)) (.tp [4,5]) (rD (rM (n8 (oH pB (nQ 5))) (qp (rM (n8 (ox call 0 (nR (nQ 5) nU))) (n8 (n6 rY (o9 (nR (nQ 5) (nR (nQ 4) nU))) (nQ 3)))))) (ou (eC (.bl Ξ))) pD)) (ou (oH xK (oW 6 1 (qE (nQ 2)) (.nm 6) o6 (ox call 5 (nR (nQ 1) (nR (nQ 6) nU)))))))))
abbrev Sc (call:CW):SW:=nY (oo (n6 pY (nQ 0) (nQ 1)) (.nm 2)) (nY (pT (qE (oH qI (nQ 0))) (.nm 3) (nY (rD (n8 (oH qN (nQ 2))) (ou (eC (.bl Ω))) pD) (oo (n6 pY (nQ 0) (nQ 2)) (.nm 2)))) (ou (eC (.bl Ξ))))
abbrev Oi (call:CW):SW:=ou (zT 1 3 (qb (n6 pY (nQ 0) (eC (.int 1)))) (.tp [1,2,3]) o6 (o9 (nR (nQ 1) (nR (nQ 2) nU))) (nQ 3))
abbrev Sb (call:CW):SW:=nY (oo (ox call 6 (nR (nQ 0) nU)) (.nm 2)) (ou (oW 3 2 (rh (nQ 1)) (.tp [3,4]) o6 (Jw (n8 (oH qN (nQ 4))) (n6 pY (n6 pY (nQ 0) (eC (.int 0))) (nQ 3)) (n6 Ba (nQ 2) (o9 (nR (nQ 4) (nR (nQ 3) nU)))))))
abbrev Oh (call:CW):SW:=ou (oH Ak (ox call 7 (nR (nQ 0) (nR (nQ 1) nU))))
abbrev Sa (call:CW):SW:=nY (rD (qp (n8 (ox call 1 (nR (nQ 1) (nR (eC (.int 3)) nU))))) (ou (eC (.bl Ξ))) pD) (nY (oo (nQ 1) (.tp [2,3,4])) (nY (rD (yZ (qp (n8 (ox call 0 (nR (nQ 2) nU)))) (yZ (qp (n8 (ox call 4 (nR (nQ 0) (nR (nQ 3) nU))))) (qp (n8 (ox call 10 (nR (nQ 0) (nR (nQ 4) nU))))))) (ou (eC (.bl Ξ))) pD) (ou (tS (n6 vn (ox call 8 (nR (nQ 0) (nR (nQ 3) nU))) (nQ 2)) (n6 vn (oH wN (oW 5 2 (qb (nQ 4)) (.tp [5,6]) o6 (nQ 6))) (nQ 2))))))
abbrev Ka (call:CW):SW:=nY (rD (yZ (qp (n8 (oH (t5 .list) (nQ 1)))) (qp (n8 (oH xK (oW 2 1 (qb (nQ 1)) (.nm 2) o6 (ox call 11 (nR (nQ 2) (nR (oH qI (n6 pY (nQ 0) (eC (.int 0)))) nU)))))))) (ou (eC (.bl Ξ))) pD) (nY (rD (n8 (n6 ltN (uD 2 2 (qb (nQ 1)) (.tp [2,3]) o6 (nQ 2)) (oH qI (nQ 1)))) (ou (eC (.bl Ξ))) pD) (ou (tS (ox call 13 (nR (nQ 0) (nR (nQ 1) nU))) (ox call 14 (nR (nQ 0) (nR (nQ 1) nU))))))
abbrev J9 (call:CW):SW:=nY (rD (qp (n8 (ox call 1 (nR (nQ 0) (nR (eC (.int 2)) nU))))) (ou (eC (.bl Ξ))) pD) (nY (oo (nQ 0) (.tp [2,3])) (ou (tS (ox call 2 (nR (nQ 3) nU)) (ox call 12 (nR (nQ 2) (nR (nQ 1) nU))))))
abbrev J8 (call:CW):SW:=nY (rD (yZ (qp (n8 (oH (t5 .tuple) (nQ 0)))) (qp (n8 (nQ 0)))) (ou (eC (.bl Ξ))) pD) (nY (rD (qp (n8 (oH xK (oW 2 1 (qb (nQ 0)) (.nm 2) o6 (ox call 3 (nR (nQ 2) (nR (nQ 1) nU))))))) (ou (eC (.bl Ξ))) pD) (ou (oH xK (oW 2 2 (IE (nQ 0) (Mx (nQ 0) (rf (eC (.int 1))) uZ)) (.tp [2,3]) o6 (n6 ltN (nQ 2) (nQ 3))))))
abbrev J7 (call:CW):SW:=nY (pT (rh (n6 pY (nQ 0) (eC (.int 0)))) (.tp [2,3]) (rD (n8 (n6 ltN (nQ 3) (oH wN (oW 4 2 (qb (nQ 1)) (.tp [4,5]) (n8 (n6 rY (nQ 2) (nQ 4))) (nQ 5))))) (ou (eC (.bl Ξ))) pD)) (ou (eC (.bl Ω)))
abbrev J6 (call:CW):SW:=nY (pT (qb (n6 pY (nQ 0) (eC (.int 1)))) (.tp [2,3,4]) (rD (n8 (n6 ltN (nQ 4) (oH wN (oW 5 2 (qb (nQ 1)) (.tp [5,6]) (rM (n8 (n6 rY (nQ 3) (nQ 5))) (n8 (n6 sP (nQ 2) (nQ 5)))) (nQ 6))))) (ou (eC (.bl Ξ))) pD)) (ou (eC (.bl Ω)))
abbrev J5 (call:CW):SW:=nY (oo (oH qI (n6 pY (nQ 0) (eC (.int 0)))) (.nm 1)) (nY (oo (ox call 16 (nR (nQ 0) nU)) (.nm 2)) (nY (oo (pK nU) (.nm 3)) (nY (oo (pK nU) (.nm 4)) (nY (oo (rJ call 17 (nR (nQ 1) (vM 3 nU))) (.nm 5)) (nY (zq (n8 (nQ 5)) (nY (Hf 2 (oo (oW 9 2 (zL 2) (.tp [9,10]) (rM (n8 (n6 rY (nQ 10) (nQ 5))) (n8 (n6 sP (nQ 9) (nQ 5)))) (o9 (nR (nQ 9) (nR (nQ 10) nU)))) (.nm 6))) (nY (oo (oH AB (oW 9 1 (qb (nQ 6)) (.nm 9) o6 (qk zW 2 (nQ 9)))) (.nm 7)) (nY (rT (rN um 4 (o9 (nR (nQ 5) (nR (nQ 7) nU))))) (nY (pT (qb (nQ 6)) (.nm 8) (Am (λi j=>i-j) 2 (nQ 8) (nQ 7))) (nY (An 3 (oW 9 1 (qb (nQ 6)) (.nm 9) (n8 (n6 vn (qk zW 2 (nQ 9)) (eC (.int 0)))) (nQ 9))) (oo (rJ call 17 (nR (nQ 1) (vM 3 nU))) (.nm 5)))))))) (ou (o9 (nR (oH wN (oW 9 1 (qb (nQ 4)) (.nm 9) o6 (n6 pY (nQ 9) (eC (.int 1))))) (nR (rJ call 19 (nR (nQ 1) (vM 3 nU))) (nR (Ku 4) nU))))))))))
abbrev J4 (call:CW):SW:=nY (oo (xx 5 2 (rh (n6 pY (nQ 0) (eC (.int 0)))) (.tp [5,6]) o6 (o9 (nR (eC .non) (nR (nQ 5) nU))) (nQ 6)) (.nm 1)) (nY (pT (qb (n6 pY (nQ 0) (eC (.int 1)))) (.tp [2,3,4]) (CQ 1 (o9 (nR (nQ 2) (nR (nQ 3) nU))) (nQ 4))) (ou (nQ 1)))
abbrev J3 (call:CW):SW:=nY (oo (pK nU) (.nm 2)) (nY (pT (qE (nQ 0)) (.nm 3) (nY (oo (ox call 18 (nR (nQ 1) (nR (nQ 3) nU))) (.nm 4)) (rD (rM (n8 (n6 sP (eC .non) (nQ 4))) (yZ (qp (n8 (nQ 2))) (n8 (n6 ltN (oH qI (nQ 4)) (oH qI (nQ 2)))))) (oo (nQ 4) (.nm 2)) pD))) (ou (oH pQ (vq (nQ 2)))))
abbrev J2 (call:CW):SW:=nY (oo (pK (nR (nQ 1) nU)) (.nm 2)) (nY (oo (eC (.int 0)) (.nm 3)) (nY (zq (n8 (n6 ltN (nQ 3) (oH qI (nQ 2)))) (nY (An 2 (oW 4 2 (qb (nQ 0)) (.tp [4,5]) (rM (n8 (n6 vn (nQ 5) (qk pY 2 (nQ 3)))) (n8 (n6 sP (nQ 4) (nQ 2)))) (nQ 4))) (EL (Eg λi j=>i+j) 3 (eC (.int 1))))) (ou (nQ 2))))
abbrev J1 (call:CW):SW:=nY (oo (eC (.dci [] [])) (.nm 2)) (nY (zq (n8 (n6 ltN (oH AL (nQ 2)) (nQ 0))) (nY (oo (n6 pY (oW 5 1 (qb (nQ 1)) (.nm 5) (rM (n8 (n6 sP (n6 pY (nQ 5) (eC (.int 1))) (nQ 2))) (yZ (n8 (oH qN (n6 pY (nQ 5) (eC (.int 0))))) (n8 (n6 rY (n6 pY (nQ 5) (eC (.int 0))) (nQ 2))))) (nQ 5)) (eC (.int 0))) (.tp [3,4])) (CS 2 (nQ 4) (nQ 3)))) (ou (oH pQ (oW 5 1 (qE (nQ 0)) (.nm 5) o6 (qk QW 2 (nQ 5))))))
abbrev JZ (call:CW):SW:=nY (oo (n6 vK (n6 qR (n6 pG (n6 pG (n6 vK (nQ 0) (eC (.int 2147483629))) (n6 qR (n6 qR (nQ 1) (nQ 1)) (eC (.int 7919)))) (eC (.int 11))) (eC (.int 48271))) (eC (.int 2147483647))) (.nm 2)) (ou (n6 vK (n6 qR (nQ 2) (nQ 2)) (eC (.int 1999999973))))
abbrev JY (call:CW):SW:=nY (oo (Jw (n8 (n6 ltN (nQ 1) (oH qI (nQ 0)))) (n6 pY (nQ 0) (nQ 1)) (eC (.int 0))) (.nm 2)) (ou (pK (nR (n6 qR (oH Em (nQ 2)) (oH qQ (n6 Kp (oH Em (nQ 2)) (n6 BD (eC (.int 10)) (eC (.int 18)))))) (nR (n6 pG (nQ 2) (n6 qR (eC (.int 1000003)) (nQ 1))) (nR (eC (.int 0)) nU)))))
abbrev Gj (call:CW):SW:=nY (wQ 0 (eC (.int 2)) (n6 pG (qk pY 0 (eC (.int 2))) (eC (.int 1)))) (nY (rD (n8 (n6 B2 (qk pY 0 (eC (.int 0))) (eC (.int 0)))) (nY (oo (n6 vK (qk pY 0 (eC (.int 0))) (nQ 1)) (.nm 2)) (nY (wQ 0 (eC (.int 0)) (n6 yH (qk pY 0 (eC (.int 0))) (nQ 1))) (ou (nQ 2)))) pD) (ou (n6 vK (n6 yH (ox call 20 (nR (ox call 20 (nR (qk pY 0 (eC (.int 1))) (nR (qk pY 0 (eC (.int 2))) nU))) (nR (n6 pG (qk pY 0 (eC (.int 2))) (eC (.int 64))) nU))) (eC (.int 64))) (nQ 1))))
abbrev JX (call:CW):SW:=nY (oo (oH qL (F8 (nQ 0) uZ (rf (nQ 1)))) (.nm 2)) (nY (pT (rh (F8 (nQ 0) (rf (nQ 1)) (rf (eC (.int 63))))) (.tp [3,4]) (wQ 2 (n6 vK (nQ 3) (nQ 1)) (n6 pG (qk pY 2 (n6 vK (nQ 3) (nQ 1))) (n6 qR (nQ 4) (n6 pG (nQ 3) (eC (.int 2))))))) (ou (nQ 2)))
abbrev JW (call:CW):SW:=nY (oo (og call 22 0 (nR (eC (.int 4)) nU)) (.nm 2)) (nY (rD (rM (n8 (n6 vn (nQ 2) (eC (.int 3)))) (n8 (n6 vn (nQ 1) (eC (.int 0))))) (ou (n6 pG (eC (.int 1)) (og call 22 0 (nR (n6 xR (n6 BD (eC (.int 10)) (eC (.int 9))) (eC (.int 20))) nU)))) pD) (ou (n6 pG (eC (.int 1)) (og call 22 0 (nR (n6 pY (pK (nR (eC (.int 9)) (nR (eC (.int 9)) (nR (eC (.int 40)) (nR (eC (.int 3)) nU))))) (nQ 2)) nU)))))
abbrev JV (call:CW):SW:=nY (rD (n8 (n6 vn (og call 22 0 (nR (eC (.int 8)) nU)) (eC (.int 0)))) (ou (n6 pG (eC (.int 7)) (og call 22 0 (nR (n6 xR (nQ 1) (eC (.int 6))) nU)))) pD) (ou (n6 pY (pK (nR (eC (.int 0)) (nR (eC (.int 1)) (nR (eC (.int 2)) (nR (eC (.int 3)) (nR (eC (.int 4)) (nR (eC (.int 5)) (nR (eC (.int 6)) (nR (eC (.int 4)) (nR (eC (.int 5)) (nR (eC (.int 3)) nU))))))))))) (og call 22 0 (nR (eC (.int 10)) nU))))
abbrev JU (call:CW):SW:=nY (oo (o9 (nR (og call 22 0 (nR (eC (.int 4)) nU)) (nR (n6 pG (eC (.int 1)) (og call 22 0 (nR (eC (.int 4)) nU))) nU))) (.tp [2,3])) (nY (oo (oH pQ (oW 8 1 (qE (nQ 1)) (.nm 8) o6 (n6 pG (og call 24 0 (nR (nQ 2) nU)) (n6 pY (pK (nR (eC (.int 0)) (nR (eC (.int 12)) nU))) (og call 22 0 (nR (eC (.int 2)) nU)))))) (.nm 4)) (nY (oo (pK nU) (.nm 5)) (nY (pT (qE (nQ 1)) (.nm 6) (pT (qE (nQ 1)) (.nm 7) (rD (rM (n8 (n6 BN (nQ 6) (nQ 7))) (n8 (n6 vn (og call 22 0 (nR (nQ 3) nU)) (eC (.int 0))))) (rT (rN um 5 (o9 (nR (nQ 6) (nR (nQ 7) (nR (og call 24 0 (nR (nQ 2) nU)) nU)))))) pD))) (ou (o9 (nR (nQ 4) (nR (oH pQ (nQ 5)) nU)))))))
abbrev JT (call:CW):SW:=nY (oo (oH qI (n6 pY (nQ 1) (eC (.int 0)))) (.nm 2)) (nY (oo (pK nU) (.nm 3)) (nY (pT (qE (nQ 2)) (.nm 4) (rT (sW zK 3 (nR (og call 22 0 (nR (n6 pG (nQ 4) (eC (.int 1))) nU)) (nR (nQ 4) nU))))) (nY (oo (n6 (qK qR) (pK (nR (eC .non) nU)) (nQ 2)) (.nm 5)) (nY (pT (rh (nQ 3)) (.tp [6,7]) (nY (oo (oW 9 3 (qb (n6 pY (nQ 1) (eC (.int 1)))) (.tp [9,10,11]) (rM (n8 (n6 vn (nQ 10) (nQ 7))) (n8 (n6 rY (nQ 9) (B8 3 uZ (rf (nQ 6)))))) (nQ 9)) (.nm 8)) (rD (rM (n8 (n6 BN (nQ 8) (pK nU))) (n8 (n6 B2 (og call 22 0 (nR (eC (.int 3)) nU)) (eC (.int 0))))) (wQ 5 (nQ 7) (n6 pY (nQ 8) (og call 22 0 (nR (oH qI (nQ 8)) nU)))) pD))) (ou (oH pQ (nQ 5)))))))
abbrev JS (call:CW):SW:=ou (oH xK (oW 1 1 (qb (nQ 0)) (.nm 1) o6 (tS (oH (t5 .int) (nQ 1)) (oH Fl (oH (t5 .bool) (nQ 1))))))
abbrev Gi (call:CW):SW:=ou (oH D3 (oW 1 3 (qb (n6 pY (nQ 0) (eC (.int 1)))) (.tp [1,2,3]) o6 (o9 (nR (o9 (nR (nQ 1) (nR (nQ 2) nU))) (nR (nQ 3) nU)))))
abbrev JR (call:CW):SW:=nY (oo (pK (nR (nQ 1) nU)) (.nm 2)) (nY (zq (n8 (oH pB (n6 pY (nQ 0) (qk pY 2 (eC (.int 0)))))) (rT (sW zK 2 (nR (eC (.int 0)) (nR (n6 pY (nQ 0) (qk pY 2 (eC (.int 0)))) nU))))) (ou (nQ 2)))
abbrev JQ (call:CW):SW:=nY (oo (ox call 29 (nR (nQ 0) nU)) (.nm 2)) (nY (oo (eC (.int 0)) (.nm 3)) (nY (pT (rh (nQ 1)) (.tp [4,5]) (oo (n6 pG (nQ 3) (Jw (n8 (oH qN (nQ 5))) (n6 pY (n6 pY (nQ 0) (eC (.int 0))) (nQ 4)) (n6 Ba (nQ 2) (o9 (nR (nQ 5) (nR (nQ 4) nU)))))) (.nm 3))) (ou (nQ 3))))
abbrev MQ (call:CW):SW:=nY (oo (ox call 29 (nR (nQ 0) nU)) (.nm 2)) (nY (rD (n8 (oH Go (oW 6 2 (rh (nQ 1)) (.tp [6,7]) o6 (tS (oH pB (nQ 7)) (n6 sP (o9 (nR (nQ 7) (nR (nQ 6) nU))) (nQ 2)))))) (ou (eC (.bl Ξ))) pD) (nY (pT (qE (oH qI (nQ 1))) (.nm 3) (nY (oo (nQ 3) (.nm 4)) (nY (pT (qE (oH qI (nQ 1))) (.nm 5) (rD (n8 (oH pB (nQ 4))) (oo (n6 pY (nQ 1) (nQ 4)) (.nm 4)) pD)) (rD (n8 (oH pB (nQ 4))) (ou (eC (.bl Ξ))) pD)))) (ou (eC (.bl Ω)))))
abbrev Gh (call:CW):SW:=ou (oH wN (oW 3 2 (qb (nQ 0)) (.tp [3,4]) (rM (n8 (n6 rY (nQ 2) (nQ 3))) (n8 (n6 sP (nQ 1) (nQ 3)))) (nQ 4)))
abbrev MP (call:CW):SW:=nY (rD (qp (n8 (oH (t5 .list) (nQ 1)))) (ou (eC (.bl Ξ))) pD) (nY (oo (pK nU) (.nm 2)) (nY (pT (qb (nQ 1)) (.nm 3) (nY (rD (yZ (qp (n8 (oH (t5 .tuple) (nQ 3)))) (yZ (n8 (n6 BN (oH qI (nQ 3)) (eC (.int 2)))) (yZ (qp (n8 (oH (t5 .tuple) (n6 pY (nQ 3) (eC (.int 0)))))) (n8 (n6 vn (n6 pY (nQ 3) (eC (.int 0))) (o9 nU)))))) (ou (eC (.bl Ξ))) pD) (nY (oo (nQ 3) (.tp [4,5])) (nY (rD (yZ (qp (n8 (ox call 28 (nR (n6 pG (oH qL (nQ 4)) (pK (nR (nQ 5) nU))) nU)))) (yZ (n8 (n6 ltN (nQ 5) (eC (.int 1)))) (n8 (n6 rY (nQ 4) (nQ 2))))) (ou (eC (.bl Ξ))) pD) (nY (rD (n8 (n6 BN (oH qL (nQ 4)) (oW 6 1 (qE (oH qI (n6 pY (nQ 0) (eC (.int 0))))) (.nm 6) (n8 (n6 rY (nQ 6) (nQ 4))) (nQ 6)))) (ou (eC (.bl Ξ))) pD) (rT (rN um 2 (nQ 4)))))))) (nY (rD (n8 (oH Go (oW 6 2 (rh (n6 pY (nQ 0) (eC (.int 0)))) (.tp [6,7]) o6 (n6 ltN (nQ 7) (ox call 33 (nR (nQ 1) (nR (oH BM (eC (.int 1))) (nR (nQ 6) nU)))))))) (ou (eC (.bl Ξ))) pD) (ou (oH xK (oW 6 3 (qb (n6 pY (nQ 0) (eC (.int 1)))) (.tp [6,7,8]) o6 (n6 Kp (nQ 8) (ox call 33 (nR (nQ 1) (nR (nQ 6) (nR (nQ 7) nU)))))))))))
abbrev JP (call:CW):SW:=nY (oo (n6 (qK qR) (pK (nR (eC .non) nU)) (nQ 1)) (.nm 2)) (nY (oo (pK nU) (.nm 3)) (nY (pT (qE (nQ 1)) (.nm 4) (rT (sW zK 3 (nR (og call 22 0 (nR (n6 pG (nQ 4) (eC (.int 1))) nU)) (nR (nQ 4) nU))))) (nY (pT (rh (nQ 3)) (.tp [5,6]) (rD (rM (n8 (n6 B2 (nQ 5) (eC (.int 0)))) (n8 (n6 B2 (og call 22 0 (nR (eC (.int 4)) nU)) (eC (.int 0))))) (wQ 2 (nQ 6) (qk pY 3 (og call 22 0 (nR (nQ 5) nU)))) pD)) (nY (oo (pK nU) (.nm 7)) (nY (pT (qE (nQ 1)) (.nm 6) (nY (oo (oW 17 1 (qE (nQ 1)) (.nm 17) (n8 (n6 rY (nQ 6) (zU call 30 (vM 2 (nR (nQ 17) nU))))) (nQ 17)) (.nm 8)) (pT (qb (pK (nR (o9 (nR (nQ 6) nU)) (nR (oH pQ (nQ 8)) nU)))) (.nm 9) (nY (oo (n6 pY (pK (nR (eC (.int 1)) (nR (eC (.int 0)) (nR (eC (.int 3)) (nR (n6 pG (eC (.int 1)) (og call 22 0 (nR (eC (.int 40)) nU))) (nR (n6 pG (eC (.int 1)) (og call 22 0 (nR (n6 BD (eC (.int 10)) (eC (.int 7))) nU))) nU)))))) (og call 22 0 (nR (eC (.int 5)) nU))) (.nm 10)) (nY (oo (n6 yr (nQ 10) (oH qQ (n6 vn (oH qI (nQ 9)) (eC (.int 1))))) (.nm 10)) (rD (rM (n8 (n6 B2 (nQ 10) (eC (.int 0)))) (n8 (n6 sP (nQ 9) (oW 17 2 (qb (nQ 7)) (.tp [17,18]) o6 (nQ 17))))) (rT (rN um 7 (o9 (nR (nQ 9) (nR (nQ 10) nU))))) pD)))))) (nY (oo (o9 (nR (pK nU) (nR (pK nU) nU))) (.tp [11,12])) (nY (pT (qE (nQ 1)) (.nm 13) (nY (oo (og call 22 0 (nR (n6 pY (pK (nR (eC (.int 1)) (nR (eC (.int 2)) (nR (eC (.int 9)) nU)))) (og call 22 0 (nR (eC (.int 3)) nU))) nU)) (.nm 14)) (nY (rT (rN um 11 (n6 pG (rJ call 33 (vM 7 (nR (oH BM (eC (.int 1))) (nR (nQ 13) nU)))) (n6 qR (oH qQ (oH pB (qk pY 2 (nQ 13)))) (nQ 14))))) (pT (qE (nQ 1)) (.nm 15) (nY (oo (og call 22 0 (nR (n6 pY (pK (nR (eC (.int 1)) (nR (eC (.int 2)) (nR (eC (.int 9)) nU)))) (og call 22 0 (nR (eC (.int 3)) nU))) nU)) (.nm 14)) (nY (oo (n6 pG (rJ call 33 (vM 7 (nR (nQ 15) (nR (nQ 13) nU)))) (n6 qR (oH qQ (n6 BN (qk pY 2 (nQ 13)) (nQ 15))) (nQ 14))) (.nm 16)) (rD (rM (n8 (n6 BN (nQ 15) (nQ 13))) (rM (n8 (n6 B2 (nQ 16) (eC (.int 0)))) (yZ (n8 (n6 vn (qk pY 2 (nQ 13)) (nQ 15))) (n8 (n6 B2 (og call 22 0 (nR (eC (.int 3)) nU)) (eC (.int 0))))))) (rT (rN um 12 (o9 (nR (nQ 15) (nR (nQ 13) (nR (nQ 16) nU)))))) pD))))))) (ou (o9 (nR (o9 (nR (oH pQ (nQ 11)) (nR (oH pQ (xw (nQ 12))) nU))) (nR (oH pQ (nQ 2)) (nR (Ku 7) nU))))))))))))
abbrev JO (call:CW):SW:=nY (oo (o9 (nR (pK nU) (nR (n6 (qK qR) (pK (nR (eC .non) nU)) (nQ 1)) (nR (pK nU) nU)))) (.tp [2,3,4])) (nY (pT (qE (nQ 1)) (.nm 5) (rT (sW zK 2 (nR (og call 22 0 (nR (n6 pG (nQ 5) (eC (.int 1))) nU)) (nR (nQ 5) nU))))) (nY (pT (qE (nQ 1)) (.nm 6) (nY (wQ 3 (qk pY 2 (nQ 6)) (Jw (n8 (n6 B2 (nQ 6) (eC (.int 0)))) (qk pY 2 (n6 xR (nQ 6) (eC (.int 1)))) (eC .non))) (pT (iRng2 (n6 pG (nQ 6) (eC (.int 1))) (n6 pG (nQ 1) (eC (.int 1)))) (.nm 7) (rT (rN um 4 (o9 (nR (oH pQ (vq (B8 2 (rf (nQ 6)) (rf (nQ 7))))) (nR (n6 pG (eC (.int 1)) (og call 22 0 (nR (eC (.int 3)) nU))) nU)))))))) (nY (oo (o9 (nR (pK nU) (nR (pK nU) nU))) (.tp [8,9])) (nY (pT (qE (nQ 1)) (.nm 10) (nY (rT (rN um 8 (n6 pG (rJ call 33 (vM 4 (nR (oH BM (eC (.int 1))) (nR (nQ 10) nU)))) (n6 qR (oH qQ (oH pB (qk pY 3 (nQ 10)))) (og call 22 0 (nR (eC (.int 3)) nU)))))) (pT (qE (nQ 1)) (.nm 11) (rD (rM (n8 (n6 BN (nQ 11) (nQ 10))) (yZ (n8 (n6 vn (qk pY 3 (nQ 10)) (nQ 11))) (n8 (n6 B2 (og call 22 0 (nR (eC (.int 3)) nU)) (eC (.int 0)))))) (rT (rN um 9 (o9 (nR (nQ 11) (nR (nQ 10) (nR (n6 pG (rJ call 33 (vM 4 (nR (nQ 11) (nR (nQ 10) nU)))) (n6 qR (oH qQ (n6 BN (qk pY 3 (nQ 10)) (nQ 11))) (og call 22 0 (nR (eC (.int 3)) nU)))) nU)))))) pD)))) (ou (o9 (nR (o9 (nR (oH pQ (nQ 8)) (nR (oH pQ (xw (nQ 9))) nU))) (nR (oH pQ (nQ 3)) (nR (Ku 4) nU)))))))))
abbrev JN (call:CW):SW:=nY (oo (oH CI (pK (nR (nQ 0) (nR (nQ 1) nU)))) (.nm 3)) (nY (oo (ox call 9 (nR (nQ 0) (nR (nQ 1) nU))) (.nm 4)) (ou (tS (oH (t5 .bool) (nQ 4)) (tS (n6 vn (nQ 4) (nQ 2)) (n6 vn (oH CI (pK (nR (nQ 0) (nR (nQ 1) nU)))) (nQ 3))))))
abbrev JM (call:CW):SW:=nY (oo (oH qL (nQ 4)) (.nm 5)) (nY (pT (qE (n6 qR (eC (.int 3)) (oH qQ (n6 BN (nQ 4) (pK nU))))) (.nm 6) (rT (sW zK 5 (nR (og call 22 0 (nR (oH qI (nQ 5)) nU)) (nR (Jv 5) nU))))) (nY (rD (yZ (qp (n8 (ox call 37 (nR (nQ 1) (nR (o9 (nR (nQ 2) (nR (nQ 3) (nR (nQ 4) nU)))) (nR (eC (.bl Ω)) nU)))))) (qp (n8 (ox call 37 (nR (nQ 1) (nR (o9 (nR (nQ 2) (nR (nQ 3) (nR (Ku 5) nU)))) (nR (eC (.bl Ω)) nU))))))) (ou (eC (.bl Ξ))) pD) (nY (pT (qb (o9 (nR (oH BM (eC (.int 1))) (nR (eC (.int 1)) nU)))) (.nm 7) (rD (qp (n8 (ox call 37 (nR (nQ 1) (nR (o9 (nR (n6 pG (nQ 2) (nQ 7)) (nR (nQ 3) (nR (nQ 4) nU)))) (nR (eC (.bl Ξ)) nU)))))) (ou (eC (.bl Ξ))) pD)) (nY (oo (og call 27 0 (nR (nQ 1) nU)) (.nm 8)) (nY (rD (qp (n8 (ox call 37 (nR (nQ 1) (nR (o9 (nR (nQ 2) (nR (nQ 8) (nR (nQ 4) nU)))) (nR (n6 vn (ox call 31 (nR (nQ 1) (nR (nQ 8) nU))) (nQ 2)) nU)))))) (ou (eC (.bl Ξ))) pD) (nY (rD (qp (n8 (ox call 37 (nR (nQ 1) (nR (o9 (nR (ox call 31 (nR (nQ 1) (nR (nQ 8) nU))) (nR (nQ 8) (nR (nQ 4) nU)))) (nR (n6 vn (ox call 31 (nR (nQ 1) (nR (nQ 8) nU))) (nQ 2)) nU)))))) (ou (eC (.bl Ξ))) pD) (nY (rD (n8 (n6 vn (nQ 4) (pK nU))) (ou (eC (.bl Ω))) pD) (nY (oo (og call 22 0 (nR (oH qI (nQ 4)) nU)) (.nm 9)) (nY (oo (n6 pY (nQ 4) (nQ 9)) (.tp [10,11])) (nY (oo (n6 pG (n6 pG (Mx (nQ 4) uZ (rf (nQ 9))) (Jw (n8 (n6 B2 (nQ 11) (eC (.int 1)))) (pK (nR (o9 (nR (nQ 10) (nR (n6 xR (nQ 11) (eC (.int 1))) nU))) nU)) (pK nU))) (Mx (nQ 4) (rf (n6 pG (nQ 9) (eC (.int 1)))) uZ)) (.nm 12)) (ou (tS (ox call 37 (nR (nQ 1) (nR (o9 (nR (nQ 2) (nR (nQ 3) (nR (nQ 12) nU)))) (nR (eC (.bl Ξ)) nU)))) (ox call 37 (nR (nQ 1) (nR (o9 (nR (n6 xR (nQ 2) (eC (.int 1))) (nR (nQ 3) (nR (nQ 12) nU)))) (nR (eC (.bl Ξ)) nU))))))))))))))))
abbrev JL (call:CW):SW:=nY (oo (ox call 23 (nR (nQ 0) (nR (eC (.int 5)) nU))) (.nm 1)) (nY (pT (qE (n6 yr (eC (.int 2)) (oH qI (nQ 1)))) (.nm 2) (nY (oo (ox call 21 (nR (nQ 1) (nR (nQ 2) nU))) (.nm 3)) (nY (wQ 3 (eC (.int 1)) (n6 pG (qk pY 3 (eC (.int 1))) (eC (.int 300)))) (nY (oo (og call 35 3 (nR (og call 25 3 (nR (eC (.int 12)) nU)) nU)) (.tp [4,5,6])) (nY (oo (ox call 15 (nR (nQ 4) nU)) (.tp [7,8,9])) (nY (pT (qb (o9 (nR (nQ 5) (nR (nQ 8) nU)))) (.nm 10) (pT (qb (o9 (nR (nQ 6) (nR (nQ 9) nU)))) (.nm 11) (rD (qp (n8 (og call 38 3 (nR (nQ 4) (nR (nQ 7) (nR (nQ 10) (nR (nQ 11) nU))))))) (ou (eC (.bl Ξ))) pD))) (nY (oo (og call 26 3 (nR (og call 25 3 (nR (eC (.int 12)) nU)) nU)) (.nm 4)) (nY (oo (ox call 15 (nR (nQ 4) nU)) (.tp [7,8,9])) (nY (rD (qp (n8 (og call 38 3 (nR (nQ 4) (nR (nQ 7) (nR (nQ 8) (nR (nQ 9) nU))))))) (ou (eC (.bl Ξ))) pD) (nY (oo (og call 36 3 (nR (n6 pG (eC (.int 4)) (og call 22 3 (nR (eC (.int 5)) nU))) nU)) (.tp [4,5,6])) (rD (qp (n8 (og call 38 3 (nR (nQ 4) (nR (oH wN (oW 12 2 (qb (nQ 6)) (.tp [12,13]) o6 (nQ 13))) (nR (nQ 5) (nR (nQ 6) nU))))))) (ou (eC (.bl Ξ))) pD))))))))))) (ou (eC (.bl Ω))))
abbrev Qz:FD:=⟨1,1,On,Ξ,Ξ⟩
abbrev Qy:FD:=⟨2,2,Om,Ξ,Ξ⟩
abbrev Qx:FD:=⟨1,1,Ol,Ξ,Ξ⟩
abbrev Qv:FD:=⟨2,2,Oj,Ξ,Ξ⟩
abbrev Qs:FD:=⟨2,6,Sd,Ξ,Ξ⟩
abbrev Qr:FD:=⟨2,4,Sc,Ξ,Ξ⟩
abbrev Qq:FD:=⟨1,1,Oi,Ξ,Ξ⟩
abbrev Qp:FD:=⟨2,3,Sb,Ξ,Ξ⟩
abbrev Qo:FD:=⟨2,2,Oh,Ξ,Ξ⟩
abbrev Qn:FD:=⟨2,5,Sa,Ξ,Ξ⟩
abbrev Jp:FD:=⟨2,2,Ka,Ξ,Ξ⟩
abbrev Jo:FD:=⟨2,4,J9,Ξ,Ξ⟩
abbrev Jn:FD:=⟨2,2,J8,Ξ,Ξ⟩
abbrev Jm:FD:=⟨2,4,J7,Ξ,Ξ⟩
abbrev Jl:FD:=⟨2,5,J6,Ξ,Ξ⟩
abbrev Jk:FD:=⟨1,9,J5,Ξ,Ξ⟩
abbrev Jj:FD:=⟨1,5,J4,Ξ,Ω⟩
abbrev Ji:FD:=⟨2,5,J3,Ξ,Ξ⟩
abbrev Jh:FD:=⟨2,4,J2,Ξ,Ω⟩
abbrev Jg:FD:=⟨2,5,J1,Ξ,Ξ⟩
abbrev Jf:FD:=⟨2,3,JZ,Ξ,Ξ⟩
abbrev Je:FD:=⟨2,3,JY,Ξ,Ω⟩
abbrev F5:FD:=⟨2,3,Gj,Ω,Ξ⟩
abbrev Jd:FD:=⟨2,5,JX,Ξ,Ω⟩
abbrev Jc:FD:=⟨2,3,JW,Ω,Ξ⟩
abbrev Jb:FD:=⟨2,2,JV,Ω,Ξ⟩
abbrev Ja:FD:=⟨2,8,JU,Ω,Ξ⟩
abbrev IZ:FD:=⟨2,9,JT,Ω,Ξ⟩
abbrev Qw:FD:=⟨1,1,JS,Ξ,Ξ⟩
abbrev IY:FD:=⟨1,1,Gi,Ξ,Ξ⟩
abbrev IX:FD:=⟨2,3,JR,Ξ,Ω⟩
abbrev IW:FD:=⟨2,6,JQ,Ξ,Ξ⟩
abbrev Qu:FD:=⟨2,6,MQ,Ξ,Ξ⟩
abbrev IV:FD:=⟨3,3,Gh,Ξ,Ξ⟩
abbrev Qt:FD:=⟨2,6,MP,Ξ,Ξ⟩
abbrev IU:FD:=⟨2,17,JP,Ω,Ξ⟩
abbrev IT:FD:=⟨2,12,JO,Ω,Ξ⟩
abbrev IS:FD:=⟨3,5,JN,Ξ,Ξ⟩
abbrev IR:FD:=⟨5,13,JM,Ω,Ξ⟩
abbrev IQ:FD:=⟨1,12,JL,Ξ,Ξ⟩
abbrev tb:List FD:=[Qz,Qy,Qx,Qv,Qs,Qr,Qq,Qp,Qo,Qn,Jp,Jo,Jn,Jm,Jl,Jk,Jj,Ji,Jh,Jg,Jf,Je,F5,Jd,Jc,Jb,Ja,IZ,Qw,IY,IX,IW,Qu,IV,Qt,IU,IT,IS,IR,IQ]
abbrev LQ (a k:Int):Int:=((a % 2147483629+k*k*7919+11)*48271 % 2147483647)*((a % 2147483629+k*k*7919+11)*48271 % 2147483647) % 1999999973
def By (x:Int):pR (x % 2147483647)=Ω:=by
 have:=iS x (show (2147483647:Int)≠0 by decide)
 have:=dX x (show (0:Int)<2147483647 by decide)
 simp![pR,decide_eq_true_eq];lia
def qF {i:Int}(h:0<=i)(h':i<2 ^ 60):pR i=Ω:=by
 simp![pR,decide_eq_true_eq];lia
def n9 {i:Int}(h:0<=i)(h':i<2 ^ 60):qJ i=Ω:=by
 simp![qJ,decide_eq_true_eq];lia
def Ih (d:Nat) (a k:Int)(hk:pR k=Ω)(Q:FV×FV->Prop):callW tb (d+1) 20 [.int a,.int k] Q↔Q (.int (LQ a k),.non):=by
 let h2:pR 48271=Ω:=(·)
 let h3:pR 7919=Ω:=(·)
 rw[sh (fd:=Jf) rfl rfl]
 simp[Jf,JZ,h2,h3,hk,By,LQ]
abbrev Lf (n:Int)(v:FV):Prop:=∃ a b c,v=.lst [.int a,.int b,.int c]/\0<=c/\c<=n
def Lf.mono {n m:Int}{v:FV}(h:Lf n v)(k:n<=m):Lf m v:=by
 let(a,b,c,h,h1,h2):=h
 exact⟨a,b,c,h,h1,⋯⟩
def ot (d:Nat){many n:Int}{v:FV}{Q:FV×FV->Prop}(hs:Lf n v)(hn:n<1000000)(h1:0<many)(h2:many<1073741824)
  (q:∀ u v',0<=u->u<many->Lf (n+1) v'->Q (.int u,v')):callW tb (d+2) 22 [v,.int many] Q:=by
 let(a,b,c,rfl,h3,h4):=hs
 exact oq (fd:=F5) rfl rfl ?_
 let s1:pR (c+1)=Ω:=qF ⋯ ⋯
 let s2:pR (c+1+64)=Ω:=qF ⋯ ⋯
 by_cases ha:0<a
 ·simp[F5,Gj,ixN,ha,h1,h2]
  exact q _ _ (iS _ ⋯) (dX _ h1) ⟨_,_,_,rfl,⋯,⋯⟩
 ·simp[F5,Gj,ixN,ha,h1,h2,Ih,s1,s2]
  exact q _ _ (iS _ ⋯) (dX _ h1) ⟨_,_,_,rfl,⋯,⋯⟩
mutual
noncomputable def dF:D->FV
 | .non=>.non
 | .bl b=>.bl b
 | .int i=>.int i
 | .str x=>.str x
 | .tup xs=>.tup (dFs xs)
 | .lst xs=>.lst (dFs xs)
noncomputable def dFs:List D->List FV
 | []=>[]
 | x :: r=>dF x :: dFs r
end
def tU:∀ xs:List D,dFs xs=xs.map dF
 | []=>rfl
 | x :: r=>by show dF x :: dFs r=_;rw[tU r];rfl
mutual
noncomputable def yM:D->Nat
 | .tup xs=>deps xs+1
 | .lst xs=>deps xs+1
 | .non=>0|.bl _=>0|.int _=>0|.str _=>0
noncomputable def deps:List D->Nat
 | []=>0
 | x :: r=>max (yM x) (deps r)
end
mutual
theorem wn:∀ (x:D) (n:Nat),yM x<n->fD n (dF x)=Ψ x
 | .non,0,h=>by lia
 | .non,n+1,h=>rfl
 | .bl _,0,h=>by lia
 | .bl _,n+1,h=>rfl
 | .int _,0,h=>by lia
 | .int _,n+1,h=>rfl
 | .str _,0,h=>by lia
 | .str _,n+1,h=>rfl
 | .tup xs,0,h=>by lia
 | .tup xs,n+1,h=>by show (rP (fD n) (dFs xs)).map _=_;rw[fDs_dF xs n (bL h)];rfl
 | .lst xs,0,h=>by lia
 | .lst xs,n+1,h=>by show (rP (fD n) (dFs xs)).map _=_;rw[fDs_dF xs n (bL h)];rfl
theorem fDs_dF:∀ (xs:List D) (n:Nat),deps xs<n->rP (fD n) (dFs xs)=Ψ xs
 | [],n,h=>rfl
 | x :: r,n,h=>by
  let h:max (yM x) (deps r)<n:=h
  show ((fD n (dF x)).bind λy=>(rP (fD n) (dFs r)).map (y :: ·))=_
  rw[wn x n ⋯,fDs_dF r n ⋯];rfl
end
abbrev Vl (k p:Nat)(x:FV):Prop:=∃ d,x=dF d/\yM d<=p/\d.fit=Ω/\d.wt<=k
def Vl.mono {k k' p p':Nat}{x:FV}(h:Vl k p x)(hk:k<=k')(hp:p<=p'):Vl k' p' x:=by
 let(d,e,h1,h2,h3):=h
 exact⟨d,e,⋯,h2,⋯⟩
def Vl.all {k p:Nat}:∀ {xs:List FV},(∀ x∈xs,Vl k p x)->∃ ds:List D,xs=dFs ds/\deps ds<=p/\D.fits ds=Ω/\D.wts ds<=ds.length*(k+1)/\ds.length=xs.length
 | [],_=>⟨[],rfl,lH _,rfl,by simp[D.wts],rfl⟩
 | x :: r,h=>by
  let(d,e,h1,h2,h3):=h x (dO ..)
  let(ds,e',h1',h2',h3',h4'):=Vl.all (xs:=r) λy hy=>h y (cJ _ hy)
  exact⟨d :: ds,by rw[e,e'];rfl,Nat.max_le.mpr ⟨h1,h1'⟩,by show (_ && _)=Ω;rw[h2,h2'];rfl,?_,by simp[h4']⟩
  simp![D.wts,gC,Nat.add_mul,Nat.one_mul];lia
def Vl.tup {k p m:Nat}{xs:List FV}(h:∀ x∈xs,Vl k p x)(hl:xs.length<=m):Vl (m*(k+1)) (p+1) (.tup xs):=by
 let(ds,e,h1,h2,h3,h4):=Vl.all h
 exact⟨.tup ds,by rw[e];rfl,gf ⋯,h2,?_⟩
 simp![D.wt]
 exact kX h3 (cD _ ⋯)
def Vl.lst {k p m:Nat}{xs:List FV}(h:∀ x∈xs,Vl k p x)(hl:xs.length<=m):Vl (m*(k+1)) (p+1) (.lst xs):=by
 let(ds,e,h1,h2,h3,h4):=Vl.all h
 exact⟨.lst ds,by rw[e];rfl,gf ⋯,h2,?_⟩
 simp![D.wt]
 exact kX h3 (cD _ ⋯)
def Vl.int {i:Int}(h:-(2 ^ 40)<i)(h':i<2 ^ 40):Vl 41 0 (.int i):=⟨.int i,rfl,lJ _,decide_eq_true ⋯,by simp![D.wt];rw[if_pos ⟨h,h'⟩];exact lJ _⟩
def Vl.non:Vl 0 0 .non:=⟨.non,rfl,lJ _,rfl,lJ _⟩
def G8 {k p:Nat}{x:FV}(h:Vl k p x)(hk:k<=big)(hp:p<40):∃ y,CI x=Ψ y/\∀ R:Bool->Prop,wp (sJ y y) R=R Ω:=by
 let(d,rfl,h1,h2,h3):=h
 let big':∀ e:D,yM e<40->e.fit=Ω->e.wt<=big->(fD oJ (dF e)).bind (λd=>if d.fit=Ω/\d.wt<=big then Ψ (FV.shn d) else Φ)=Ψ (.shn e):=λe h1 h2 h3=>by
  rw[wn e oJ h1]
  show (if e.fit=Ω/\e.wt<=big then Ψ (FV.shn e) else Φ)=_
  rw[if_pos ⟨h2,h3⟩]
 cases d with
 | non=>exact⟨_,rfl,λR=>∅⟩
 | bl b=>exact⟨_,rfl,λR=>∅⟩
 | str x=>exact⟨_,rfl,λR=>∅⟩
 | int i =>
  replace h2:=of_decide_eq_true h2
  exact⟨_,(show (if -(2 ^ 150)<i/\i<2 ^ 150 then Ψ (FV.str (toString i)) else Φ)=Ψ (.str (toString i)) by rw[if_pos h2]),λR=>∅⟩
 | tup xs=>exact⟨_,big' (.tup xs) ⋯ h2 ⋯,λR=>∅⟩
 | lst xs=>exact⟨_,big' (.lst xs) ⋯ h2 ⋯,λR=>∅⟩
def GP {a b:D}(ha:yM a<40)(hb:yM b<40):sJ (dF a) (dF b)=Ψ (D.eqv a b):=by
 let go:(fD oJ (dF a)).bind (λx=>(fD oJ (dF b)).bind λy=>Ψ (D.eqv x y))=Ψ (D.eqv a b):=by
  rw[wn a oJ ha,wn b oJ hb];rfl
 unfold sJ
 split
 ·rename_i x y e1 e2;cases a<;>cases e1
 ·exact go
def yQ {α:Type}(xs:List α) (n:Nat):qi xs (Ψ (n:Int)) Φ=xs.drop n:=by
 let h:sIx xs.length 0 (Ψ (n:Int))=min n xs.length:=by simp![sIx];rw[if_neg ⋯];simp
 unfold qi
 rw[h]
 show (xs.drop (min n xs.length)).take (xs.length-min n xs.length)=_
 by_cases hn:n<=xs.length
 ·rw[ir hn,bM ∅]
 ·rw[gh ⋯,bP (lJ _),bP ⋯];simp
def D6 {α:Type}(xs:List α) (n:Nat):qi xs Φ (Ψ (n:Int))=xs.take n:=by
 let h:sIx xs.length xs.length (Ψ (n:Int))=min n xs.length:=by simp![sIx];rw[if_neg ⋯];simp
 unfold qi
 rw[h]
 show (xs.drop 0).take (min n xs.length-0)=_
 rw[jy,Nat.sub_zero,ca];lia
def tD {α β:Type}(f:α->FV)(g:β->FV):∀ (xs:List α)(ys:List β),pO (xs.map f) (ys.map g)=(xs.zip ys).map λp=>.tup [f p.1,g p.2]
 | [],ys=>rfl
 | x :: xs,[]=>rfl
 | x :: xs,y :: ys=>by
  show FV.tup [f x,g y] :: pO (xs.map f) (ys.map g)=_
  rw[tD f g xs ys];rfl
noncomputable abbrev qj:=Nat×Nat×Int
abbrev qc (c:qj):FV:=.tup [.int c.1,.int c.2.1,.int c.2.2]
abbrev pi (ws:List Int)(cs:List qj):FV:=.tup [.tup (ws.map .int),.tup (cs.map qc)]
abbrev keyH (c:qj):List Int:=[c.1,c.2.1]
abbrev nV:Option Nat->FV|none=>.non|some a=>.int a
def uw (d:Nat) (i:Int)(Q:FV×FV->Prop):callW tb (d+1) 0 [.int i] Q↔Q (.bl Ω,.non):=by
 rw[sh (fd:=Qz) rfl rfl]
 simp[Qz,On]
def wL (d:Nat)(xs:List FV) (n:Int)(Q:FV×FV->Prop):callW tb (d+1) 1 [.tup xs,.int n] Q↔Q (.bl ((xs.length:Int) == n),.non):=by
 rw[sh (fd:=Qy) rfl rfl]
 simp[Qy,Om]
def EK (d:Nat) (i:Int)(Q:FV×FV->Prop):callW tb (d+2) 2 [.int i] Q↔Q (.bl (Δ (1<=i)),.non):=by
 rw[sh (fd:=Qx) rfl rfl]
 simp[Qx,Ol,uw]
def Fs (d:Nat) (a n:Nat)(Q:FV×FV->Prop):callW tb (d+2) 3 [.int a,.int n] Q↔Q (.bl (Δ (a<n)),.non):=by
 rw[sh (fd:=Qv) rfl rfl]
 simp[Qv,Oj,uw]
def v8:∀ (xs:List Int) (b:Int),pS b xs∈b :: xs
 | [],b=>dO ..
 | x :: r,b=>by
  have:=v8 r (if x<b then x else b)
  show pS (if x<b then x else b) r∈_
  split at this<;>rename_i h
  ·rw[if_pos h];exact cJ _ this
  ·rw[if_neg h]
   rcases kj.mp this with e|e
   ·rw[e];simp
   ·exact cJ _ (cJ _ e)
def v7:∀ (xs:List Int) (b:Int),pS b xs<=b/\∀ x∈xs,pS b xs<=x
 | [],b=>⟨lL _,∅⟩
 | x :: r,b=>by
  have:=v7 r (if x<b then x else b)
  show pS (if x<b then x else b) r<=b/\∀ y∈x :: r,pS (if x<b then x else b) r<=y
  exact⟨by have:=this.1;split at this<;>lia,λy hy=>?_⟩
  rcases kj.mp hy with rfl|hy
  ·have:=this.1;split at this<;>lia
  ·exact this.2 y hy
def uT {α:Type}:∀ (ps:List (List Int×α))(ks:List (List Int))(vs:List α),(ks++ps.map (·.1)).Nodup->putAll ps ks vs=(ks++ps.map (·.1),vs++ps.map (·.2))
 | [],ks,vs,_=>by rw[k8,k8,iQ,iQ];rfl
 | p :: r,ks,vs,h=>by
  let hp:p.1 ∉ ks:=λz=>by
   rw[fq] at h
   exact h.2.2 p.1 z p.1 ∅ rfl
  let e:oB ks vs p.1 p.2=(ks++[p.1],vs++[p.2]):=by rw[oB,if_neg hp]
  rw[ya,e,uT r _ _ (by simpa using h)]
  simp
def vY:∀ cs:List qj,sO (cs.map λc=>FV.tup [.tup [.int c.1,.int c.2.1],.int c.2.2])=Ψ (cs.map λc=>(keyH c,FV.int c.2.2))
 | []=>rfl
 | c :: r=>by
  rw[kn,yg,vY r];rfl
def zd:∀ cs:List qj,sN (cs.map qc)=Ω
 | []=>rfl
 | c :: r=>by
  rw[kn]
  show ((match oM [FV.int c.1,FV.int c.2.1,FV.int c.2.2] with|some (_ :: _)=>Ω|_=>Ξ) && sN (r.map qc))=Ω
  rw[zd r];rfl
def xD {α β:Type}(f:α->β)(xs:List α)(lo hi:Option Int):qi (xs.map f) lo hi=(qi xs lo hi).map f:=by simp[qi,km,kl]
def Gc {α:Type}(xs:List α) (i t:Nat):qi xs (Ψ (i:Int)) (Ψ ((i:Int)+(t:Int)))=(xs.drop i).take t:=by
 let h1:sIx xs.length 0 (Ψ (i:Int))=min i xs.length:=by simp![sIx];rw[if_neg ⋯];simp
 let h2:sIx xs.length xs.length (Ψ ((i:Int)+(t:Int)))=min (i+t) xs.length:=by simp![sIx];rw[if_neg ⋯];congr 1
 unfold qi
 rw[h1,h2]
 by_cases hi:i<=xs.length
 ·rw[ir hi,ca,gB];lia
 ·rw[gh (show xs.length<=i by lia),bP (lJ _),bP ⋯];simp
def xC {α:Type}(xs:List α){i j:Nat}(h:i<=j):qi xs (Ψ (i:Int)) (Ψ (j:Int))=(xs.drop i).take (j-i):=by
 obtain⟨t,rfl⟩:∃ t,j=i+t:=⟨j-i,⋯⟩
 rw[Nat.add_sub_cancel_left,<- Gc];simp
def yt (d:Nat){n g:Int}{v:FV}{Q:FV×FV->Prop}(hs:Lf n v)(h0:0<=n)(hn:n<100000)(q:∀ s v',1<=s->s<1000000000->Lf (n+2) v'->Q (.int s,v')):callW tb (d+3) 24 [v,.int g] Q:=by
 exact oq (fd:=Jc) rfl rfl ?_
 simp[Jc,JW,big]
 exact ot d hs ⋯ (·) (·) λu v1 u0 u1 l1=>?_
 simp
 let fin:wp (Cp [FV.int 9,FV.int 9,FV.int 40,FV.int 3] u) λz=>callW tb (d+2) 22 [v1,z] λz=>wp (pG (FV.int 1) z.fst) λz_1=>Q (z_1,z.snd):=by
  exact t8 u0 u1 ?_
  intro f hf
  obtain⟨k,rfl,k0,k1⟩:∃ k:Int,f=.int k/\0<k/\k<=40:=by
   simp at hf
   rcases hf with rfl|rfl|rfl|rfl<;>exact⟨_,rfl,(·),(·)⟩
  exact ot d l1 ⋯ k0 ⋯ λw v2 w0 w1 l2=>?_
  simp
  exact q _ _ ⋯ ⋯ (l2.mono ⋯)
 exact pq (λh=>?_) (λh=>fin)
 exact pq (λh=>?_) (λh=>fin)
 exact⟨(·),ot d l1 ⋯ (·) (·) λw v2 w0 w1 l2=>?_⟩
 simp
 exact q _ _ ⋯ ⋯ (l2.mono ⋯)
structure GsB (B:Int)(ws:List Int)(cs:List qj):Prop where
 n:ws.length<=12
 w:∀ x∈ws,1<=x/\x<B
 c:∀ x∈cs,x.1<ws.length/\x.2.1<ws.length/\x.1≠x.2.1/\1<=x.2.2/\x.2.2<B
 l:cs.length<=144
 d:(cs.map λc=>(c.1,c.2.1)).Nodup
noncomputable abbrev Gs:=GsB 2000000000
def GsB.mono {B C:Int}{ws:List Int}{cs:List qj}(h:GsB B ws cs)(hb:B<=C):GsB C ws cs :=
 ⟨h.n,λx hx=>⟨(h.w x hx).1,by have:=(h.w x hx).2;lia⟩,λx hx=>let ⟨a,b,c,d,e⟩:=h.c x hx;⟨a,b,c,d,⋯⟩,h.l,h.d⟩
abbrev prs (n:Nat):Nat->List (Nat×Nat)
 | 0=>[]
 | a+1=>prs n a++(mm n).map λb=>(a,b)
def C4 {n:Nat}:∀ {a:Nat}{p:Nat×Nat},p∈prs n a->p.1<a
 | 0,p,h=>nomatch h
 | a+1,p,h=>by
  rcases iF.mp h with h|h
  ·have:=C4 h;lia
  ·let(b,hb,rfl):=k6.mp h;exact gk _
def wV (n:Nat):∀ a:Nat,(prs n a).length=a*n
 | 0=>(Nat.zero_mul n).symm
 | a+1=>by show (prs n a++_).length=_;simp[wV n a,Nat.add_mul]
def vU (n:Nat):∀ a:Nat,(prs n a).Nodup
 | 0=>.nil
 | a+1=>by
  show (prs n a++_).Nodup
  rw[fq]
  exact⟨vU n a,?_,?_⟩
  ·rw[List.nodup_iff_pairwise_ne,fo]
   exact gv.imp λh z=>h (by simpa using z)
  ·intro p hp q hq e
   let(b,hb,rfl):=k6.mp hq
   have:=C4 hp
   rw[e] at this
   exact j9 _ this
def BP (d:Nat){n:Int}{v:FV}{m:Nat}{Q:FV×FV->Prop}(hs:Lf n v)(h0:0<=n)(hn:n<10000)(hm:m<=12)(q:∀ (ws:List Int)(cs:List qj) v',GsB 1000000100 ws cs->ws.length=m->Lf (n+700) v'->Q (pi ws cs,v')):callW tb (d+4) 26 [v,.int m] Q:=by
 exact oq (fd:=Ja) rfl rfl ?_
 simp[Ja,JU,big]
 exact ot (d+1) hs ⋯ (·) (·) λg v1 g0 g1 l1=>?_
 simp
 exact ot (d+1) l1 ⋯ (·) (·) λo v2 o0 o1 l2=>?_
 simp
 exact⟨n9 ⋯ ⋯,?_⟩
 rw[pH]
 exact⟨by simp;lia,?_⟩
 exact wz (f:=λi:Nat=>FV.int i) (I:=λds Z8 L=>∃ v',∃ xs:List Int,L=[Ψ v',Ψ (.int m),Ψ (.int g),Ψ (.int (1+o)),Φ,Φ,Φ,Φ]/\Z8=xs.map .int/\xs.length=ds.length/\(∀ x∈xs,1<=x/\x<1000000100)/\Lf (n+2+3*ds.length) v') (mm m) (mm m) [] [] _ rfl ⟨v2,[],rfl,rfl,rfl,∅,l2.mono (by simp;lia)⟩ ?_ ?_
 ·rintro ds x r Z8 L K e ⟨v',xs,rfl,rfl,hl,hx,lf⟩ k
  let hd:ds.length<12:=by have:=congrArg lK e;simp at this;lia
  simp
  exact yt d lf ⋯ ⋯ λs v4 s0 s1 l4=>?_
  simp[big]
  exact ot (d+1) l4 ⋯ (·) (·) λb v5 b0 b1 l5=>?_
  simp
  exact t8 b0 b1 ?_
  intro f hf
  obtain⟨k',rfl,k0,k1⟩:∃ k:Int,f=.int k/\0<=k/\k<=12:=by
   simp at hf
   rcases hf with rfl|rfl<;>exact⟨_,rfl,(·),(·)⟩
  simp
  exact k _ _ ⟨v5,xs++[s+k'],rfl,∅,by simp[hl],?_,l5.mono (by simp;lia)⟩
  intro y hy
  rcases iF.mp hy with hy|hy
  ·exact hx y hy
  ·simp at hy;subst hy;lia
 ·rintro ys L ⟨v',ws,rfl,rfl,hl,hx,lf⟩
  simp![ft] at hl lf
  simp
  exact⟨n9 ⋯ ⋯,?_⟩
  exact oO (I:=λa L=>∃ v' x y,∃ cs:List qj,L=[Ψ v',Ψ (.int m),Ψ (.int g),Ψ (.int (1+o)),Ψ (.tup (ws.map .int)),Ψ (.lst (cs.map qc)),x,y]/\(∀ c∈cs,c.1<m/\c.2.1<m/\c.1≠c.2.1/\1<=c.2.2/\c.2.2<1000000100)/\(cs.map λc=>(c.1,c.2.1)).Sublist (prs m a)/\Lf (n+38+40*a) v') m 0 _ ⟨v',_,_,[],rfl,∅,by simp[prs],lf.mono ⋯⟩ ?_ ?_
  ·rintro a L K-ha ⟨v',x,y,cs,rfl,hc,hsb,lf⟩ k
   simp
   exact⟨n9 ⋯ ⋯,?_⟩
   exact oO (I:=λb L=>∃ v' y,∃ cs:List qj,L=[Ψ v',Ψ (.int m),Ψ (.int g),Ψ (.int (1+o)),Ψ (.tup (ws.map .int)),Ψ (.lst (cs.map qc)),Ψ (.int a),y]/\(∀ c∈cs,c.1<m/\c.2.1<m/\c.1≠c.2.1/\1<=c.2.2/\c.2.2<1000000100)/\(cs.map λc=>(c.1,c.2.1)).Sublist (prs m a++(mm b).map λb=>(a,b))/\Lf (n+38+40*a+3*b) v') m 0 _ ⟨v',_,cs,rfl,hc,by simpa using hsb,lf.mono ⋯⟩ ?_ ?_
   ·rintro b L K2-hb ⟨v',y,cs,rfl,hc,hsb,lf⟩ k2
    let hcl:cs.length<=1000:=by
     have:=hsb.length_le
     simp[wV] at this
     have:a*m<=12*12:=jq ⋯ hm
     lia
    let hsb':(cs.map λc=>(c.1,c.2.1)).Sublist (prs m a++(mm (b+1)).map λb=>(a,b)):=by
     rw[iA,iG,<- fE]
     exact hsb.trans (List.sublist_append_left _ _)
    let no:∀ v',Lf (n+38+40*a+3*b+3) v'->K2 [Ψ v',Ψ (.int m),Ψ (.int g),Ψ (.int (1+o)),Ψ (.tup (ws.map .int)),Ψ (.lst (cs.map qc)),Ψ (.int a),Ψ (.int b)]:=λv' l=>k2 _ ⟨v',_,cs,rfl,hc,hsb',l.mono ⋯⟩
    simp
    exact pq (λh=>?_) (λh=>?_)
    ·exact no v' (lf.mono ⋯)
    ·exact ot (d+1) lf ⋯ ⋯ ⋯ λu v4 u0 u1 l4=>?_
     simp
     exact pq (λh2=>?_) (λh2=>no v4 (l4.mono ⋯))
     exact yt d l4 ⋯ ⋯ λs v5 s0 s1 l5=>?_
     simp[big]
     exact⟨⋯,k2 _ ⟨v5,Ψ (.int b),cs++[(a,b,s)],by simp[qc],?_,?_,l5.mono ⋯⟩⟩
     ·intro c hc'
      rcases iF.mp hc' with hc'|hc'
      ·exact hc c hc'
      ·simp at hc';subst hc'
       exact ⟨by show a < m; lia,by show b < m; lia,by show a≠b; lia,s0,by show s < _; lia⟩
     ·rw[iA,iG,iG,<- fE]
      exact hsb.append (fF _)
   ·rintro L ⟨v',y,cs,rfl,hc,hsb,lf⟩
    rw[kR] at hsb lf
    exact k _ ⟨v',_,_,cs,rfl,hc,hsb,lf.mono ⋯⟩
  ·rintro L ⟨v',x,y,cs,rfl,hc,hsb,lf⟩
   rw[kR] at hsb lf
   let hcl:=hsb.length_le
   simp[wV] at hcl
   have:m*m<=12*12:=jq hm hm
   have:=q ws cs v' ⟨⋯,hx,by rw[hl];exact hc,⋯,(vU m m).sublist hsb⟩ hl (lf.mono ⋯)
   simpa[pi] using this
abbrev Sm (cs:List qj)(ls:List (Option Nat)):Prop:=∀ m a:Nat,ls[m]?=Ψ (Ψ a)->[(a:Int),(m:Int)]∈cs.map keyH
def Fo {xs:List Int}{x:Int}{r:List Int}(h:xs=x :: r)(Q:FV->Prop):wp (Fp (xs.map .int)) Q↔Q (.int (pS x r)):=by
 subst h
 simp![Fp,ints_map,gc];rfl
def so {xs:List Int}(hl:xs.length<=1000)(h:∀ x∈xs,0<=x/\x<=100000000000){Q:Int->Prop}(q:Q xs.sum):wp (zk (xs.map .int)) Q:=by
 simp![zk,p6,ints_map,pA]
 rw[qO]
 exact⟨⟨by simp![big];lia,?_⟩,q⟩
 rw[gK]
 intro x hx
 have:=h x hx
 simp![ur,decide_eq_true_eq];lia
def zj:∀ {xs:List Int},(∀ x∈xs,0<=x/\x<=2000000000)->0<=xs.sum/\xs.sum<=2000000000*xs.length
 | [],_=>by simp
 | x :: r,h=>by
  have:=zj λy hy=>h y (cJ _ hy)
  have:=h x ∅
  simp![kh,gC,iR]
  lia
noncomputable abbrev oz:=Option Nat×Nat
inductive Anc (fr:List oz) (m:Nat):Option Nat->Prop
 | refl:Anc fr m (Ψ m)
 | step {on:Option Nat}{t:Nat}:Anc fr m (Ψ t)->(on,t)∈fr->Anc fr m on
abbrev ent (S:List Nat)(e:oz):Bool:=Δ (e.2∈S) && (match e.1 with
 | none=>Ω
 | some a=>!Δ (a∈S))
def ent_iff {S:List Nat}{on:Option Nat}{t:Nat}:ent S (on,t)=Ω↔t∈S/\∀ a,on=Ψ a->a ∉ S:=by
 cases on with
 | none=>simp[ent]
 | some a=>simp[ent]
structure Prc where
 S:List Nat
 p:Int
 t:Nat
abbrev due (ps:List Prc)(e:oz):Int:=((ps.filter λq=>ent q.S e).map (·.p)).sum
structure Lrm (n:Nat)(E:List oz)(sz:oz->Int)(fr:List oz)(ps:List Prc):Prop where
 sub:∀ e∈fr,e∈E
 nd:fr.Nodup
 low:∀ e∈E,due ps e<=sz e
 free:∀ e∈E,e∈fr↔due ps e=sz e
 pos:∀ q∈ps,0<q.p
 ne:∀ q∈ps,q.S≠[]
 up:∀ q∈ps,q.S.Pairwise (· < ·)
 lt:∀ q∈ps,∀ m∈q.S,m<n
 tl:∀ q∈ps,q.t<=fr.length
 shut:∀ q∈ps,∀ e∈fr.take q.t,ent q.S e=Ξ
 cut:∀ q∈ps,∀ A:Nat->Prop,(∃ a∈q.S,A a)->(∃ b∈q.S,¬ A b)->∃ a b,(Ψ a,b)∈fr.take q.t/\a∈q.S/\b∈q.S/\A a/\¬ A b
 hit:∀ q∈ps,∃ e∈fr,ent q.S e=Ω
 dst:(ps.map (·.S)).Nodup
structure Src (n:Nat)(fr:List oz)(S:List Nat):Prop where
 ne:S≠[]
 up:S.Pairwise (· < ·)
 lt:∀ m∈S,m<n
 all:∀ m∈S,∀ x,Anc fr m x↔∃ a∈S,x=Ψ a
def Src.shut {n:Nat}{fr:List oz}{S:List Nat}(h:Src n fr S){e:oz}(he:e∈fr):ent S e=Ξ:=by
 let(on,t):=e
 cases z:ent S (on,t) with
 | false=>rfl
 | true =>
  let(ht,hn):=ent_iff.mp z
  let(a,ha,e):=(h.all t ht on).mp (.step .refl he)
  exact absurd ha (hn a e)
def Ci {fr:List oz}{m:Nat}{A:Nat->Prop}(hm:¬ A m):∀ {x:Option Nat},Anc fr m x->∀ a,x=Ψ a->A a->∃ a b,(Ψ a,b)∈fr/\Anc fr m (Ψ a)/\Anc fr m (Ψ b)/\A a/\¬ A b:=by
 intro x h
 induction h with
 | refl=>intro a e ha;cases e;exact absurd ha hm
 | @step on t h1 h2 ih =>
  intro a e ha
  subst e
  by_cases ht:A t
  ·exact ih t rfl ht
  ·exact⟨a,t,h2,.step h1 h2,h1,ha,ht⟩
def Src.cut {n:Nat}{fr:List oz}{S:List Nat}(h:Src n fr S)(A:Nat->Prop)(h1:∃ a∈S,A a)(h2:∃ b∈S,¬ A b):∃ a b,(Ψ a,b)∈fr/\a∈S/\b∈S/\A a/\¬ A b:=by
 let(a,ha,pa):=h1
 let(b,hb,pb):=h2
 let(c,d,g1,g2,g3,g4,g5):=Ci pb ((h.all b hb (Ψ a)).mpr ⟨a,ha,rfl⟩) a rfl pa
 let(c',hc,e1):=(h.all b hb _).mp g2
 let(d',hd,e2):=(h.all b hb _).mp g3
 cases e1;cases e2
 exact⟨c,d,g1,hc,hd,g4,g5⟩
def tT (ps:List Prc)(S:List Nat) (p:Int) (t:Nat)(e:oz):due (ps++[⟨S,p,t⟩]) e=due ps e+if ent S e=Ω then p else 0:=by
 unfold due
 rw[dU,iG,iz]
 by_cases h:ent S e=Ω<;>simp[h]
def Lrm.start {n:Nat}{E:List oz}{sz:oz->Int}(h:∀ e∈E,0<sz e):Lrm n E sz [] [] where
 sub:=∅
 nd:=ju
 low:=λe he=>by have:=h e he;simp[due];lia
 free:=λe he=>by have:=h e he;simp[due];lia
 pos:=∅
 ne:=∅
 up:=∅
 lt:=∅
 tl:=∅
 shut:=∅
 cut:=∅
 hit:=∅
 dst:=∅
def Lrm.step {n:Nat}{E:List oz}{sz:oz->Int}{fr:List oz}{ps:List Prc}{S:List Nat}{p:Int}(h:Lrm n E sz fr ps)(hS:Src n fr S)(hE:E.Nodup)
  (h1:∀ e∈E,ent S e=Ω->p<=sz e-due ps e)(h2:∃ e∈E,ent S e=Ω/\sz e-due ps e=p) :
  0<p/\Lrm n E sz (fr++E.filter λe=>ent S e && Δ (sz e-due ps e=p)) (ps++[⟨S,p,fr.length⟩]):=by
 let nf:∀ e∈E,ent S e=Ω->e ∉ fr:=λe _ he z=>by rw[hS.shut z] at he;cases he
 let hp:0<p:=by
  let(e,he,g1,g2):=h2
  have:=h.low e he
  let n1:due ps e≠sz e:=λz=>nf e he g1 ((h.free e he).mpr z)
  lia
 exact⟨hp,?_⟩
 let tk:∀ t,t<=fr.length->∀ l:List oz,(fr++l).take t=fr.take t:=λt ht l=>by rw[ak ht]
 exact⟨λe he=>?_,?_,λe he=>?_,λe he=>?_,λq hq=>?_,λq hq=>?_,λq hq=>?_,λq hq=>?_,λq hq=>?_,λq hq e he=>?_,λq hq=>?_,λq hq=>?_,?_⟩
 ·rcases iF.mp he with he|he
  ·exact h.sub e he
  ·exact (iE.mp he).1
 ·exact fq.mpr ⟨h.nd,hE.filter _,λa ha b hb e=>?_⟩
  subst e
  let(g1,g2):=iE.mp hb
  simp![gR] at g2
  exact nf a g1 g2.1 ha
 ·rw[tT]
  have:=h.low e he
  split
  ·rename_i g
   have:=h1 e he g
   lia
  ·lia
 ·rw[tT]
  constructor
  ·intro z
   rcases iF.mp z with z|z
   ·rw[if_neg (by rw[hS.shut z];exact dY)]
    have:=(h.free e he).mp z
    lia
   ·let(_,g):=iE.mp z
    simp![gR,decide_eq_true_eq] at g
    rw[if_pos g.1]
    lia
  ·intro z
   by_cases g:ent S e=Ω
   ·rw[if_pos g] at z
    exact cm _ (iE.mpr ⟨he,?_⟩)
    simp![gR,decide_eq_true_eq]
    exact⟨g,⋯⟩
   ·rw[if_neg g] at z
    exact cK _ ((h.free e he).mpr ⋯)
 all_goals first|skip
 ·rcases iF.mp hq with hq|hq
  ·exact h.pos q hq
  ·simp at hq;subst hq;exact hp
 ·rcases iF.mp hq with hq|hq
  ·exact h.ne q hq
  ·simp at hq;subst hq;exact hS.ne
 ·rcases iF.mp hq with hq|hq
  ·exact h.up q hq
  ·simp at hq;subst hq;exact hS.up
 ·rcases iF.mp hq with hq|hq
  ·exact h.lt q hq
  ·simp at hq;subst hq;exact hS.lt
 ·rcases iF.mp hq with hq|hq
  ·have:=h.tl q hq
   simp;lia
  ·simp at hq;subst hq;simp
 ·rcases iF.mp hq with hq|hq
  ·rw[tk _ (h.tl q hq)] at he
   exact h.shut q hq e he
  ·simp at hq;subst hq
   rw[show (⟨S,p,fr.length⟩:Prc).t=fr.length from rfl,tk _ (lJ _),gr] at he
   exact hS.shut he
 ·rcases iF.mp hq with hq|hq
  ·rw[tk _ (h.tl q hq)]
   exact h.cut q hq
  ·simp at hq;subst hq
   dsimp only
   rw[tk _ (lJ _),gr]
   exact hS.cut
 ·rcases iF.mp hq with hq|hq
  ·let(e,g1,g2):=h.hit q hq
   exact⟨e,cK _ g1,g2⟩
  ·simp at hq;subst hq
   let(e,he,g1,g2):=h2
   exact⟨e,cm _ (iE.mpr ⟨he,?_⟩),g1⟩
   simp![gR,decide_eq_true_eq]
   exact⟨g1,g2⟩
 ·rw[iG]
  exact fq.mpr ⟨h.dst,∅,λa ha b hb e=>?_⟩
  simp at hb
  subst hb e
  let(q,hq,e):=k6.mp ha
  let(e',g1,g2):=h.hit q hq
  rw[e,hS.shut g1] at g2;cases g2
abbrev may (D:List Nat)(e:oz):Bool:=!Δ (e.2∈D) && (match e.1 with
 | none=>Ω
 | some a=>Δ (a∈D))
structure Lay (fr:List oz)(us:List oz):Prop where
 sub:∀ e∈us,e∈fr
 nd:(us.map (·.2)).Nodup
 on:∀ l e r,us=l++e :: r->∀ a,e.1=Ψ a->a∈l.map (·.2)
abbrev tm (D:List Nat)(S:List Nat):Bool:=S.any λm=>Δ (m∈D)
structure Cnt (fr:List oz)(ps:List Prc)(us:List oz):Prop extends Lay fr us where
 one:∀ q∈ps,us.countP (ent q.S)=if tm (us.map (·.2)) q.S=Ω then 1 else 0
def touch_iff {D S:List Nat}:tm D S=Ω↔∃ m∈S,m∈D:=by simp[tm]
def Cnt.step {n:Nat}{E:List oz}{sz:oz->Int}{fr:List oz}{ps:List Prc}{us:List oz}(h:Lrm n E sz fr ps)(c:Cnt fr ps us){e:oz}(he:fr.find? (may (us.map (·.2)))=Ψ e):Cnt fr ps (us++[e]):=by
 let(on,m):=e
 let hm:=iN he
 let hin:=aP he
 let m1:m ∉ us.map (·.2):=by
  simp![may,gR,fN,decide_eq_false_iff_not] at hm
  exact hm.1
 let m2:∀ a,on=Ψ a->a∈us.map (·.2):=λa z=>by
  subst z
  simp![may,gR,decide_eq_true_eq] at hm
  exact hm.2
 exact⟨⟨λe' he'=>?_,?_,λl e' r z a ea=>?_⟩,λq hq=>?_⟩
 ·rcases iF.mp he' with z|z
  ·exact c.sub e' z
  ·simp at z;subst z;exact hin
 ·rw[iG]
  exact fq.mpr ⟨c.nd,∅,λa ha b hb z=>?_⟩
  simp at hb;subst hb z
  exact m1 ha
 ·rcases List.append_eq_append_iff.mp z with⟨x,h1,h2⟩|⟨x,h1,h2⟩
  ·cases x with
   | nil =>
    simp at h1 h2
    let(h2,_):=h2
    subst h2 h1
    exact m2 a ea
   | cons y x =>
    have:=congrArg lK h2
    simp at this
  ·cases x with
   | nil =>
    simp at h1 h2
    let(h2,_):=h2
    subst h2 h1
    exact m2 a ea
   | cons y x =>
    simp at h2
    let(rfl,h2):=h2
    exact c.on l e' x h1 a ea
 ·let old:=c.one q hq
  rw[List.countP_append,iG]
  let tch:tm (us.map (·.2)++[(on,m)].map (·.2)) q.S=(tm (us.map (·.2)) q.S || Δ (m∈q.S)):=by
   rw[iW]
   simp![touch_iff,iV,decide_eq_true_eq,iF,kn,k8,dL]
   constructor
   ·rintro⟨x,h1,h2|rfl⟩
    ·exact .inl ⟨x,h1,h2⟩
    ·exact .inr h1
   ·rintro (⟨x,h1,h2⟩|h1)
    ·exact⟨x,h1,.inl h2⟩
    ·exact⟨m,h1,.inr rfl⟩
  rw[tch]
  by_cases hmS:m∈q.S
  ·by_cases ht:tm (us.map (·.2)) q.S=Ω
   ·rw[if_pos ht] at old
    have:ent q.S (on,m)=Ξ:=by
     cases z:ent q.S (on,m) with
     | false=>rfl
     | true =>
      let(a,b,g1,g2,g3,g4,g5):=h.cut q hq (λx=>x∈us.map (·.2)) (touch_iff.mp ht) ⟨m,hmS,m1⟩
      let hb:may (us.map (·.2)) (Ψ a,b)=Ω:=by
       simp only [may,gR,fN,decide_eq_false_iff_not,decide_eq_true_eq]
       exact ⟨g5,g4⟩
      let hf:(fr.take q.t).find? (may (us.map (·.2)))=Ψ (on,m):=by
       rw [<- cb q.t fr,List.find?_append] at he
       cases z2:(fr.take q.t).find? (may (us.map (·.2))) with
       | none=>exact absurd hb (dS.mp z2 _ g1)
       | some e2=>rw [z2] at he; simpa using he
      have:=h.shut q hq _ (aP hf)
      rw[this] at z;cases z
    simp[ht,old,this]
   ·let ht':tm (us.map (·.2)) q.S=Ξ:=by simpa using ht
    rw[if_neg ht] at old
    have:ent q.S (on,m)=Ω:=ent_iff.mpr ⟨hmS,λa ea z=>ht (touch_iff.mpr ⟨a,z,m2 a ea⟩)⟩
    simp[ht',old,this,hmS]
  ·have:ent q.S (on,m)=Ξ:=by simp[ent,hmS]
   simp[old,this,hmS]
def vw (ps:List Prc)(e:oz):due ps e=(ps.map λq=>if ent q.S e=Ω then q.p else 0).sum:=by
 unfold due
 induction ps with
 | nil=>rfl
 | cons q r ih =>
  by_cases h:ent q.S e=Ω
  ·simp[gF,h,<- ih]
  ·simp[gF,h,<- ih]
def Ai {α:Type}(f g:α->Int):∀ l:List α,(l.map λx=>f x+g x).sum=(l.map f).sum+(l.map g).sum
 | []=>rfl
 | x :: r=>by simp![kn,kh,Ai f g r];lia
def uE (ps:List Prc):∀ us:List oz,(us.map (due ps)).sum=(ps.map λq=>q.p*(us.countP (ent q.S):Int)).sum
 | []=>by
  have:(ps.map λq=>q.p*(([]:List oz).countP (ent q.S):Int))=ps.map λ_=>(0:Int):=c8 λq _=>∅
  rw[this]
  induction ps with
  | nil=>rfl
  | cons q r ih=>simpa using ih ∅
 | e :: us=>by
  rw[kn,kh,uE ps us,vw,<- Ai]
  congr 1
  apply c8
  intro q _
  rw[List.countP_cons]
  by_cases h:ent q.S e=Ω
  ·simp[h,Int.mul_add];lia
  ·simp[h]
def Cnt.room {n:Nat}{E:List oz}{sz:oz->Int}{fr:List oz}{ps:List Prc}{us:List oz}(h:Lrm n E sz fr ps)(c:Cnt fr ps us)(ha:∀ m,m<n->m∈us.map (·.2)):(us.map sz).sum=(ps.map (·.p)).sum:=by
 let e1:us.map sz=us.map (due ps):=c8 λe he=>((h.free e (h.sub e (c.sub e he))).mp (c.sub e he)).symm
 rw[e1,uE]
 congr 1
 apply c8
 intro q hq
 have:tm (us.map (·.2)) q.S=Ω:=by
  cases z:q.S with
  | nil=>exact absurd z (h.ne q hq)
  | cons m r=>exact touch_iff.mpr ⟨m,∅,ha m (h.lt q hq m (by rw[z];simp))⟩
 rw[c.one q hq,if_pos this]
 simp
def Dy {fr:List oz}{D:List Nat}{m:Nat}(hm:m ∉ D)(h:Anc fr m Φ):∃ e,fr.find? (may D)=Ψ e:=by
 let go:∀ {x:Option Nat},Anc fr m x->(x=Φ ∨ ∃ a,x=Ψ a/\a∈D)->∃ e∈fr,may D e=Ω:=by
  intro x hx
  induction hx with
  | refl =>
   rintro (z|⟨a,z,ha⟩)
   ·cases z
   ·cases z;exact absurd ha hm
  | @step on t h1 h2 ih =>
   intro z
   by_cases ht:t∈D
   ·exact ih (.inr ⟨t,rfl,ht⟩)
   ·exact⟨_,h2,?_⟩
    rcases z with rfl|⟨a,rfl,ha⟩<;>simp[*,may]
 let(e,h1,h2):=go h (.inl rfl)
 cases z:fr.find? (may D) with
 | none=>exact absurd h2 (dS.mp z e h1)
 | some e=>exact⟨e,rfl⟩
def vW {sz:oz->Int}{ps:List Prc}{us:List oz}(low:∀ e∈us,due ps e<=sz e)(pos:∀ q∈ps,0<q.p)(he:∀ q∈ps,∃ e∈us,ent q.S e=Ω):(ps.map (·.p)).sum<=(us.map sz).sum:=by
 let a:(us.map (due ps)).sum<=(us.map sz).sum:=by
  clear he
  induction us with
  | nil=>exact lL _
  | cons e r ih =>
   have:=low e ∅
   have:=ih λx hx=>low x (by simp[hx])
   simp![kn,kh];lia
 rw[uE] at a
 let b:(ps.map (·.p)).sum<=(ps.map λq=>q.p*(us.countP (ent q.S):Int)).sum:=by
  let hq:∀ q∈ps,q.p<=q.p*(us.countP (ent q.S):Int):=λq hq=>by
   let(e,h1,h2):=he q hq
   let h3:1<=us.countP (ent q.S):=List.one_le_countP_iff.mpr ⟨e,h1,h2⟩
   let h4:=pos q hq
   have:q.p*1<=q.p*(us.countP (ent q.S):Int):=Int.mul_le_mul_of_nonneg_left ⋯ ⋯
   lia
  clear a low pos he
  induction ps with
  | nil=>exact lL _
  | cons q r ih =>
   have:=hq q ∅
   have:=ih λx hx=>hq x (by simp[hx])
   simp![kn,kh];lia
 lia
def vV {sz:oz->Int}{ps:List Prc}{us:List oz}(h:∀ e∈us,sz e=due ps e)(one:∀ q∈ps,us.countP (ent q.S)=1):(us.map sz).sum=(ps.map (·.p)).sum:=by
 rw[c8 h,uE]
 congr 1
 apply c8
 intro q hq
 rw[one q hq]
 simp
abbrev rH (ls:List (Option Nat)):List oz:=(mm ls.length).map λm=>(ls.getD m Φ,m)
structure Rk (ls:List (Option Nat))(r:Nat->Nat):Prop where
 lt:∀ m,m<ls.length->r m<ls.length
 on:∀ m a,m<ls.length->ls.getD m Φ=Ψ a->a<ls.length/\r a<r m
def mem_ens {ls:List (Option Nat)}{e:oz}:e∈rH ls↔e.2<ls.length/\ls.getD e.2 Φ=e.1:=by
 unfold rH
 rw[k6]
 constructor
 ·rintro⟨m,hm,rfl⟩;exact⟨jv.mp hm,rfl⟩
 ·rintro⟨h1,h2⟩;exact⟨e.2,jv.mpr h1,by rw[h2]⟩
def Rk.enter {ls:List (Option Nat)}{r:Nat->Nat}(h:Rk ls r){S:List Nat}(hne:S≠[])(hlt:∀ m∈S,m<ls.length):∃ e∈rH ls,ent S e=Ω:=by
 let(m,hm):=aV S hne
 let go:∀ k m,r m<k->m∈S->∃ e∈rH ls,ent S e=Ω:=by
  intro k
  induction k with
  | zero=>intro m h;lia
  | succ k ih =>
   intro m hk hm
   by_cases g:∃ a,ls.getD m Φ=Ψ a/\a∈S
   ·let(a,g1,g2):=g
    have:=(h.on m a (hlt m hm) g1).2
    exact ih a ⋯ g2
   ·exact⟨(ls.getD m Φ,m),mem_ens.mpr ⟨hlt m hm,rfl⟩,ent_iff.mpr ⟨hm,λa e z=>g ⟨a,e,z⟩⟩⟩
 exact go _ m (gk _) hm
def Cb {n m:Nat}(hm:m<n):(mm n).countP (λb=>Δ (b=m))=1:=by
 have:=List.count_range (n:=n) (a:=m)
 rw[if_pos hm] at this
 rw[<- this,List.count]
 exact fC λb _=>∅
def xt {ls:List (Option Nat)}{S:List Nat}{m:Nat}(hm:m<ls.length)(h:∀ b,b<ls.length->ent S (ls.getD b Φ,b)=Δ (b=m)):(rH ls).countP (ent S)=1:=by
 unfold rH
 rw[List.countP_map,<- Cb hm]
 exact fC λb hb=>?_
 rw[ku,h b (jv.mp hb)]
def zC {ls:List (Option Nat)}{r:Nat->Nat}(h:Rk ls r){m:Nat}(hm:m<ls.length):(rH ls).countP (ent [m])=1:=by
 exact xt hm λb hb=>?_
 rw[iW,ent_iff,decide_eq_true_eq]
 constructor
 ·rintro⟨h1,_⟩;simpa using h1
 ·rintro rfl
  exact⟨∅,λa e z=>?_⟩
  have:=(h.on b a hb e).2
  simp at z
  subst z;lia
inductive Und (ls:List (Option Nat)) (m:Nat):Nat->Prop
 | refl:Und ls m m
 | step {o a:Nat}:ls.getD o Φ=Ψ a->Und ls m a->Und ls m o
def Und.le {ls:List (Option Nat)}{r:Nat->Nat}(h:Rk ls r){m o:Nat}(u:Und ls m o):o<ls.length->r m<=r o:=by
 induction u with
 | refl=>intro _;exact lJ _
 | step e _ ih =>
  intro ho
  have:=h.on _ _ ho e
  have:=ih this.1
  lia
def BK {ls:List (Option Nat)}{r:Nat->Nat}(h:Rk ls r){m:Nat}(hm:m<ls.length){B:List Nat}(hB:∀ o,o∈B↔o<ls.length/\Und ls m o):(rH ls).countP (ent B)=1:=by
 exact xt hm λb hb=>?_
 rw[iW,ent_iff,decide_eq_true_eq]
 constructor
 ·rintro⟨h1,h2⟩
  let u:=((hB b).mp h1).2
  cases u with
  | refl=>rfl
  | step e u=>exact absurd ((hB _).mpr ⟨(h.on b _ hb e).1,u⟩) (h2 _ e)
 ·rintro rfl
  exact⟨(hB b).mpr ⟨hb,.refl⟩,λa e z=>?_⟩
  let h1:=h.on b a hb e
  have:=((hB a).mp z).2.le h h1.1
  lia
def uK {l l':List Int}(h:l.Perm l'):l.sum=l'.sum:=by
 induction h with
 | nil=>rfl
 | cons x _ ih=>simp![kh,ih]
 | swap x y l=>simp![kh];lia
 | trans _ _ h1 h2=>exact h1.trans h2
def B7 (ls:List (Option Nat)):(rH ls).Nodup:=by
 unfold rH
 rw[mq,fo]
 exact gv.imp λh e=>h (congrArg mO e)
def Cnt.lay {n:Nat}{fr:List oz}{ps:List Prc}{us:List oz}{ls:List (Option Nat)}(c:Cnt fr ps us)(hb:∀ e∈fr,e.2<n/\∀ a,e.1=Ψ a->a<n)(hl:ls.length=n)(hat:∀ m,m<n->∃ e∈us,e.2=m/\ls[m]?=Ψ e.1):(∃ r,Rk ls r)/\(rH ls).Perm us:=by
 let lt:∀ x∈us.map (·.2),x<n:=λx hx=>by
  let(e,he,rfl):=k6.mp hx
  exact (hb e (c.sub e he)).1
 let inj:∀ {e f:oz},e∈us->f∈us->e.2=f.2->e=f:=by
  let nd:=c.nd
  rw[mq,fo] at nd
  intro e f he hf z
  exact aX λw=>?_
  let(l,r,rfl):=dW he
  rw[cE] at nd
  rcases iF.mp hf with g|g
  ·exact nd.2.2 f g e ∅ z.symm
  ·rcases kj.mp g with g|g
   ·exact w g.symm
   ·exact (dJ.mp nd.2.1).1 f g z
 let at':∀ e,e∈us->ls.getD e.2 Φ=e.1:=λe he=>by
  let(f,hf,e1,e2):=hat e.2 ((hb e (c.sub e he)).1)
  have:=inj hf he e1
  subst this
  rw[aF,e2];rfl
 let mem:∀ e,e∈rH ls↔e∈us:=λe=>by
  rw[mem_ens]
  constructor
  ·rintro⟨h1,h2⟩
   let(f,hf,e1,e2):=hat e.2 ⋯
   let h3:=at' f hf
   rw[e1,h2] at h3
   have:e=f:=mQ h3 e1.symm
   rw[this];exact hf
  ·intro he
   exact⟨by rw[hl];exact (hb e (c.sub e he)).1,at' e he⟩
 let ndu:us.Nodup:=by
  have:=c.nd
  rw[mq,fo] at this
  exact this.imp λh e=>h (congrArg mO e)
 exact⟨⟨λm=>(us.map (·.2)).idxOf m,λm hm=>?_,λm a hm e=>?_⟩,(List.perm_ext_iff_of_nodup (B7 ls) ndu).mpr mem⟩
 ·let(f,hf,e1,_):=hat m ⋯
  let h1:(us.map (·.2)).idxOf m<(us.map (·.2)).length:=ax (k6.mpr ⟨f,hf,e1⟩)
  let h2:=c.nd.length_le_of_subset (l₂:=mm n) λx hx=>jv.mpr (lt x hx)
  rw[ft] at h2
  rw[hl];lia
 ·let hu:((Ψ a,m):oz)∈us:=(mem _).mp (mem_ens.mpr ⟨hm,e⟩)
  exact⟨by rw[hl];exact (hb _ (c.sub _ hu)).2 a rfl,?_⟩
  let(l,r,el):=dW hu
  let ha:=c.on l _ r el a rfl
  let nd:=c.nd
  rw[el,iG] at nd ⊢
  let hm':m ∉ l.map (·.2):=λz=>(fq.mp nd).2.2 _ z m ∅ rfl
  rw[fu,if_pos ha,fu,if_neg hm']
  have:=ax ha
  lia
abbrev Found (fr:List oz) (m:Nat)(fs:List (Option Nat)):Prop:=fs.Nodup/\∀ x,x∈fs↔Anc fr m x
def Anc.trans {fr:List oz}{m t:Nat}(h:Anc fr m (Ψ t)):∀ {x:Option Nat},Anc fr t x->Anc fr m x:=by
 intro x hx
 induction hx with
 | refl=>exact h
 | step _ h2 ih=>exact .step ih h2
def Ha {n:Nat}{fr:List oz}{F:Nat->List (Option Nat)}(hF:∀ m,m<n->Found fr m (F m))(hfr:∀ a t,(Ψ a,t)∈fr->a<n){m:Nat}(hm:m<n)(h0:Φ ∉ F m)(hmin:∀ k,k<n->Φ ∉ F k->(F m).length<=(F k).length)
  {S:List Nat}(hup:S.Pairwise (· < ·))(hS:∀ a,a∈S↔Ψ a∈F m):Src n fr S:=by
 let lt:∀ {x:Option Nat},Anc fr m x->∀ a,x=Ψ a->a<n:=by
  intro x hx
  induction hx with
  | refl=>intro a e;cases e;exact hm
  | step _ h2 _=>intro a e;subst e;exact hfr _ _ h2
 exact⟨λz=>?_,hup,λa ha=>lt (((hF m hm).2 _).mp ((hS a).mp ha)) a rfl,λb hb x=>?_⟩
 ·have:=(hS m).mpr (((hF m hm).2 _).mpr .refl)
  rw[z] at this;cases this
 ·let ab:=((hF m hm).2 _).mp ((hS b).mp hb)
  let hbn:=lt ab b rfl
  let sub:∀ y,y∈F b->y∈F m:=λy hy=>((hF m hm).2 _).mpr (ab.trans (((hF b hbn).2 _).mp hy))
  let hlen:=hmin b hbn λz=>h0 (sub _ z)
  let sup:∀ y,y∈F m->y∈F b:=by
   let nd:=(hF b hbn).1
   intro y hy
   exact aX λz=>?_
   let nd2:(y :: F b).Nodup:=iC.mpr ⟨z,nd⟩
   have:=nd2.length_le_of_subset (l₂:=F m) λw hw=>(kj.mp hw).elim (λe=>e ▸ hy) (sub w)
   simp at this
   lia
  constructor
  ·intro hx
   let hx':=sub x (((hF b hbn).2 _).mpr hx)
   cases x with
   | none=>exact absurd hx' h0
   | some a=>exact⟨a,(hS a).mpr hx',rfl⟩
  ·rintro⟨a,ha,rfl⟩
   exact ((hF b hbn).2 _).mp (sup _ ((hS a).mp ha))
def tI {α:Type}{f:α->FV}{g:α->D}{h:FV->Option D}(hf:∀ x,h (f x)=Ψ (g x)):∀ xs:List α,rP h (xs.map f)=Ψ (xs.map g)
 | []=>rfl
 | x :: r=>by
  show ((h (f x)).bind λy=>(rP h (r.map f)).map (y :: ·))=_
  rw[hf,tI hf r];rfl
structure Cod {α:Type} [DecidableEq α] (f:α->FV)(g:α->D):Prop where
 d:∀ k x,fD (k+3) (f x)=Ψ (g x)
 e:∀ x y,D.eqv (g x) (g y)=Δ (x=y)
section
variable {α:Type}[DecidableEq α]{f:α->FV}{g:α->D}
def Cod.any (h:Cod f g)(x:α)(xs:List α):((xs.map g).any λy=>D.eqv y (g x))=Δ (x∈xs):=by
 rw[List.any_map,iW]
 simp![gJ,ku,h.e,decide_eq_true_eq]
 exact⟨λ⟨y,h1,h2⟩=>h2 ▸ h1,λh1=>⟨x,h1,rfl⟩⟩
def Cod.inL (h:Cod f g)(x:α)(xs:List α) [i:Decidable (x∈xs)] (R:Bool->Prop):wp (vF (f x) (.lst (xs.map f))) R↔R (Δ (x∈xs)):=by
 let e:vF (f x) (.lst (xs.map f))=Ψ (Δ (x∈xs)):=by
  show ((fD (37+3) (f x)).bind λx=>((rP (fD (36+3)) (xs.map f)).map D.lst).bind λy=>Pj x y)=_
  rw[h.d,tI (h.d 36)]
  exact congrArg Ψ ((h.any x xs).trans (decide_eq_decide.mpr m6))
 rw[e];exact m6
def Cod.inT (h:Cod f g)(x:α)(xs:List α) [i:Decidable (x∈xs)] (R:Bool->Prop):wp (vF (f x) (.tup (xs.map f))) R↔R (Δ (x∈xs)):=by
 let e:vF (f x) (.tup (xs.map f))=Ψ (Δ (x∈xs)):=by
  show ((fD (37+3) (f x)).bind λx=>((rP (fD (36+3)) (xs.map f)).map D.tup).bind λy=>Pj x y)=_
  rw[h.d,tI (h.d 36)]
  exact congrArg Ψ ((h.any x xs).trans (decide_eq_decide.mpr m6))
 rw[e];exact m6
def F6 {a b:FV}{x:D}(h:fD oJ a=Ψ x):sJ a b=QO a b:=by
 cases a with
 | shn y=>cases h
 | _=>rfl
def Cod.eq (h:Cod f g)(x y:α) [i:Decidable (x=y)] (R:Bool->Prop):wp (sJ (f x) (f y)) R↔R (Δ (x=y)):=by
 let e:sJ (f x) (f y)=Ψ (Δ (x=y)):=by
  rw[F6 (h.d 37 x)]
  show ((fD (37+3) (f x)).bind λx=>(fD (37+3) (f y)).bind λy=>Ψ (D.eqv x y))=_
  rw[h.d,h.d]
  exact congrArg Ψ ((h.e x y).trans (decide_eq_decide.mpr m6))
 rw[e];exact m6
end
abbrev p8 (e:oz):FV:=.tup [nV e.1,.int e.2]
abbrev Kf (n:Nat)(fr:List oz):Prop:=∀ e∈fr,e.2<n/\∀ a,e.1=Ψ a->a<n
abbrev inR (n:Nat) (x:Option Nat):Prop:=∀ a,x=Ψ a->a<n
def xg {n:Nat}{fs:List (Option Nat)}(nd:fs.Nodup)(h:∀ x∈fs,inR n x):fs.length<=n+1:=by
 have:=nd.length_le_of_subset (l₂:=Φ :: (mm n).map Ψ) λx hx=>by
  cases x with
  | none=>simp
  | some a=>simp[h _ hx a rfl]
 simpa using this
def xJ {n:Nat}{fr:List oz}(hb:Kf n fr){m:Nat}(hm:m<n){x:Option Nat}(h:Anc fr m x):inR n x:=by
 cases h with
 | refl=>intro a e;cases e;exact hm
 | step _ h2=>exact (hb _ h2).2
structure Ldg (fr:List oz) (m:Nat)(fs:List (Option Nat)) (at':Nat):Prop where
 nd:fs.Nodup
 me:Ψ m∈fs
 anc:∀ x∈fs,Anc fr m x
 le:at'<=fs.length
 cl:∀ t,Ψ t∈fs.take at'->∀ on,(on,t)∈fr->on∈fs
def Ldg.done {fr:List oz}{m:Nat}{fs:List (Option Nat)}(h:Ldg fr m fs fs.length):Found fr m fs:=by
 exact⟨h.nd,λx=>⟨h.anc x,λhx=>?_⟩⟩
 induction hx with
 | refl=>exact h.me
 | step _ h2 ih=>exact h.cl _ (by rw[gr];exact ih) _ h2
abbrev yX (fr:List oz)(fs:List (Option Nat)) (x:Option Nat):List (Option Nat):=(fr.filter λe=>Δ (Ψ e.2=x) && !Δ (e.1∈fs)).map (·.1)
def Ldg.step {fr:List oz}(nd:fr.Nodup){m:Nat}{fs:List (Option Nat)}{k:Nat}(h:Ldg fr m fs k){x:Option Nat}(hx:fs[k]?=Ψ x):Ldg fr m (fs++yX fr fs x) (k+1):=by
 let(hk,ex):=aR.mp hx
 let mem:∀ on,on∈yX fr fs x↔(∃ t,x=Ψ t/\(on,t)∈fr)/\on ∉ fs:=by
  intro on
  unfold yX
  simp![k6,iE,gR,decide_eq_true_eq,fN,decide_eq_false_iff_not]
  constructor
  ·rintro⟨⟨o,t⟩,⟨h1,h2,h3⟩,rfl⟩;exact⟨⟨t,h2.symm,h1⟩,h3⟩
  ·rintro⟨⟨t,h1,h2⟩,h3⟩;exact⟨(on,t),⟨h2,h1.symm,h3⟩,rfl⟩
 exact⟨?_,by simp[h.me],λy hy=>?_,by simp;lia,λt ht on ho=>?_⟩
 ·exact fq.mpr ⟨h.nd,?_,λa ha b hb e=>((mem b).mp hb).2 (e ▸ ha)⟩
  unfold yX
  rw[mq,fo]
  exact (nd.filter _).imp_of_mem λ{a b} ha hb hne e=>hne ?_
  let h1:=(iE.mp ha).2
  let h2:=(iE.mp hb).2
  simp![gR,decide_eq_true_eq] at h1 h2
  have:=h1.1.trans h2.1.symm
  exact mQ e (by simpa using this)
 ·rcases iF.mp hy with hy|hy
  ·exact h.anc y hy
  ·let((t,e,h2),_):=(mem y).mp hy
   exact .step (h.anc _ (by rw[<- e,<- ex];exact gD hk)) h2
 ·rw[ak ⋯,<- List.take_append_getElem hk] at ht
  by_cases hf:on∈fs
  ·exact cK _ hf
  ·rcases iF.mp ht with ht|ht
   ·exact cK _ (h.cl t ht on ho)
   ·rw[ex] at ht
    simp at ht
    exact cm _ ((mem on).mpr ⟨⟨t,ht.symm,ho⟩,hf⟩)
abbrev dLo:Option Nat->D|none=>.non|some a=>.int a
def codL:Cod nV dLo:=⟨λk x=>by cases x<;>rfl,λx y=>by
 cases x<;>cases y<;>first|rfl|(show (_ == _)=_;rw[iW];simp;lia)⟩
def Fx (d n:Nat){fr:List oz}(nd:fr.Nodup)(hl:fr.length<=1000)(hb:Kf n fr)(hn:n<=60){m:Nat}(hm:m<n){Q:FV×FV->Prop}(q:∀ fs,Found fr m fs->Q (.lst (fs.map nV),.non)):callW tb (d+1) 18 [.lst (fr.map p8),.int m] Q:=by
 exact oq (fd:=Jh) rfl rfl ?_
 simp[Jh,J2]
 exact⟨(·),?_⟩
 exact tj (I:=λk L=>∃ fs at',k=n+1-at'/\Ldg fr m fs at'/\L=[Ψ (.lst (fr.map p8)),Ψ (.int m),Ψ (.lst (fs.map nV)),Ψ (.int (at':Nat))]) (λk L K h hK=>?_) (m:=n+1) ⟨[Ψ m],0,rfl,⟨∅,∅,by simp;exact .refl,∅,∅⟩,rfl⟩
 let(fs,at',rfl,h,rfl):=h
 let hle:=xg h.nd λx hx=>xJ hb hm (h.anc x hx)
 simp
 exact pq (λhk=>?_) λhk=>?_
 ·obtain⟨x,hx⟩:∃ x,fs[at']?=Ψ x:=⟨_,bo hk⟩
  let h2:=h.step nd hx
  let hle2:=xg h2.nd λx hx=>xJ hb hm (h2.anc x hx)
  exact⟨by simp![big];lia,?_⟩
  exact oP (f:=p8) (g:=λe=>nV e.1) (p:=λe=>Δ (Ψ e.2=x) && !Δ (e.1∈fs)) fr [] (λe he K N k1 k2=>?_) ?_
  ·simp[p8]
   rw[p9 rfl (v:=nV x) (by rw[fw,hx];rfl),show FV.int (e.2:Int)=nV (Ψ e.2) from rfl,codL.eq]
   exact pq (λg1=>?_) λg1=>?_
   ·rw[codL.inL]
    exact pq (λg2=>?_) λg2=>?_
    ·exact k2 (by simp[of_decide_eq_true g2])
    ·exact k1 (by rw[g1];simp[of_decide_eq_false (fO.mpr g2)])
   ·exact k2 (by let g1:=fO.mpr g1;rw[g1];rfl)
  ·simp
   let el:(yX fr fs x).length=(List.filter (λe=>Δ (Ψ e.snd=x) && !Δ (e.fst∈fs)) fr).length:=by simp[yX]
   exact⟨by rw[<- el];simp![dP] at hle2;simp![big];lia,?_⟩
   exact hK _ _ ?_ ⟨fs++yX fr fs x,at'+1,rfl,h2,by simp[yX,fI]⟩
   lia
 ·have:at'=fs.length:=by have:=h.le;lia
  subst this
  exact q fs h.done
structure Few (fr:List oz) (j:Nat)(fs:List (Option Nat))(F:Nat->List (Option Nat)):Prop where
 f:∀ k,k<j->Found fr k (F k)
 c:(fs=[]/\∀ k,k<j->Φ∈F k) ∨ ∃ m,m<j/\fs=F m/\Φ ∉ F m/\∀ k,k<j->Φ ∉ F k->(F m).length<=(F k).length
def Found.ne {fr:List oz}{m:Nat}{fs:List (Option Nat)}(h:Found fr m fs):fs≠[]:=λz=>by
 have:=(h.2 (Ψ m)).mpr .refl
 rw[z] at this;cases this
def Few.step {fr:List oz}{j:Nat}{fs gs:List (Option Nat)}{F:Nat->List (Option Nat)}(h:Few fr j fs F)(hg:Found fr j gs):Few fr (j+1) (if Φ ∉ gs/\(fs=[] ∨ gs.length<fs.length) then gs else fs) λk=>if k=j then gs else F k:=by
 exact⟨λk hk=>?_,?_⟩
 ·by_cases e:k=j
  ·subst e;simp![if_pos];exact hg
  ·rw[if_neg e];exact h.f k ⋯
 ·let gj:∀ k,k<j->(if k=j then gs else F k)=F k:=λk hk=>if_neg ⋯
  by_cases h0:Φ ∉ gs
  ·rcases h.c with⟨e,hz⟩|⟨m,hm,e,hn,hl⟩
   ·rw[if_pos ⟨h0,.inl e⟩]
    exact .inr ⟨j,⋯,∅,by simpa using h0,λk hk hkn=>?_⟩
    by_cases ek:k=j
    ·subst ek;exact lJ _
    ·exact absurd (hz k ⋯) (by rw[gj k ⋯] at hkn;exact hkn)
   ·let hne:fs≠[]:=e ▸ (h.f m hm).ne
    by_cases hlt:gs.length<fs.length
    ·rw[if_pos ⟨h0,.inr hlt⟩]
     exact .inr ⟨j,⋯,∅,by simpa using h0,λk hk hkn=>?_⟩
     by_cases ek:k=j
     ·subst ek;exact lJ _
     ·rw[gj k ⋯] at hkn ⊢
      have:=hl k ⋯ hkn
      rw[if_pos rfl]
      rw[e] at hlt;lia
    ·rw[if_neg (by rintro⟨_,z|z⟩;exact hne z;exact hlt z)]
     exact .inr ⟨m,⋯,by rw[gj m hm];exact e,by rw[gj m hm];exact hn,λk hk hkn=>?_⟩
     rw[gj m hm]
     by_cases ek:k=j
     ·rw[if_pos ek,<- e];lia
     ·rw[gj k ⋯] at hkn ⊢
      exact hl k ⋯ hkn
  ·rw[if_neg λz=>h0 z.1]
   let hin:Φ∈gs:=aX h0
   rcases h.c with⟨e,hz⟩|⟨m,hm,e,hn,hl⟩
   ·exact .inl ⟨e,λk hk=>?_⟩
    by_cases ek:k=j
    ·rw[if_pos ek];exact hin
    ·rw[if_neg ek];exact hz k ⋯
   ·exact .inr ⟨m,⋯,by rw[gj m hm];exact e,by rw[gj m hm];exact hn,λk hk hkn=>?_⟩
    rw[gj m hm]
    by_cases ek:k=j
    ·rw[if_pos ek] at hkn;exact absurd hin hkn
    ·rw[gj k ⋯] at hkn ⊢
     exact hl k ⋯ hkn
def yh:∀ {fs:List (Option Nat)},Φ ∉ fs->∃ S:List Nat,fs=S.map Ψ
 | [],_=>⟨[],rfl⟩
 | none :: r,h=>absurd ∅ h
 | some a :: r,h=>let ⟨S,e⟩:=yh (fs:=r) λz=>h (by simp[z]);⟨a :: S,by rw[e];rfl⟩
def yB (S:List Nat):oM (S.map λi:Nat=>FV.int i)=Ψ (S.map λi:Nat=>(i:Int))
:=by
 induction S with
 | nil=>rfl
 | cons a r ih=>show (oM (r.map λi:Nat=>FV.int i)).map ((a:Int) :: ·)=_;rw[ih];rfl
def xW {S:List Nat}{ms:List Int}(nd:S.Nodup)(hp:ms.Perm (S.map λi:Nat=>(i:Int)))(hs:ms.Pairwise (·<=·)):∃ T:List Nat,ms=T.map (λi:Nat=>(i:Int))/\T.Pairwise (· < ·)/\∀ a,a∈T↔a∈S:=by
 exact⟨ms.map Int.toNat,?_,?_,λa=>?_⟩
 ·rw[k9]
  conv=>lhs;rw[<- List.map_id ms]
  exact c8 λx hx=>?_
  let(i,_,e):=k6.mp (hp.mem_iff.mp hx)
  simp![id,ku];lia
 ·rw[fo]
  let n2:ms.Nodup:=hp.nodup_iff.mpr (by rw[mq,fo];exact nd.imp λh e=>h ⋯)
  exact (hs.and n2).imp_of_mem λ{a b} ha hb h=>?_
  let(i,_,e):=k6.mp (hp.mem_iff.mp ha)
  let(j,_,e2):=k6.mp (hp.mem_iff.mp hb)
  let h1:=h.1
  let h2:a≠b:=h.2
  lia
 ·rw[k6]
  constructor
  ·rintro⟨x,hx,rfl⟩
   let(i,hi,e):=k6.mp (hp.mem_iff.mp hx)
   rw[<- e];simpa using hi
  ·intro h
   exact⟨(a:Int),hp.mem_iff.mpr (k6.mpr ⟨a,h,rfl⟩),∅⟩
def Fm (d n:Nat){fr:List oz}(nd:fr.Nodup)(hl:fr.length<=1000)(hb:Kf n fr)(hn:n<=60){Q:FV×FV->Prop}(q0:(∀ m,m<n->Anc fr m Φ)->Q (.tup [],.non))(q1:∀ S,Src n fr S->Q (.tup (S.map λi:Nat=>.int i),.non)):callW tb (d+2) 17 [.int n,.lst (fr.map p8)] Q:=by
 exact oq (fd:=Ji) rfl rfl ?_
 simp[Ji,J3]
 exact⟨n9 ⋯ ⋯,?_⟩
 exact oO (I:=λj L=>∃ fs F x y,Few fr j fs F/\L=[Ψ (FV.int n),Ψ (FV.lst (fr.map p8)),Ψ (.lst (fs.map nV)),x,y]) n 0 _ ⟨[],λ_=>[],Φ,Φ,⟨λk hk=>⋯,.inl ⟨rfl,λk hk=>⋯⟩⟩,rfl⟩ (λj L K _ hj hI hK=>?_) λL hI=>?_
 ·let(fs,F,x,y,hF,rfl):=hI
  simp
  exact Fx d n nd hl hb hn ⋯ λgs hg=>?_
  simp
  rw[show FV.non=nV Φ from rfl,codL.inL]
  let hs:=hF.step hg
  let A:K [Ψ (FV.int n),Ψ (FV.lst (fr.map p8)),Ψ (.lst ((if Φ ∉ gs/\(fs=[] ∨ gs.length<fs.length) then gs else fs).map nV)),Ψ (FV.int j),Ψ (.lst (gs.map nV))]:=hK _ ⟨_,_,_,_,hs,rfl⟩
  exact pq (λg=>?_) λg=>?_
  ·rw[if_neg λz=>z.1 (of_decide_eq_true g)] at A;exact A
  ·let g:Φ ∉ gs:=of_decide_eq_false (fO.mpr g)
   exact pq (λg2=>?_) λg2=>?_
   ·rw[if_pos ⟨g,.inl g2⟩] at A;exact A
   ·exact pq (λg3=>?_) λg3=>?_
    ·rw[if_pos ⟨g,.inr g3⟩] at A;exact A
    ·rw[if_neg (by rintro⟨_,z|z⟩;exact g2 z;exact g3 z)] at A;exact A
 ·let(fs,F,x,y,hF,rfl):=hI
  simp![kR] at hF
  let hS:∃ S:List Nat,fs=S.map Ψ:=by
   rcases hF.c with⟨e,_⟩|⟨m,_,e,h0,_⟩
   ·exact⟨[],e⟩
   ·exact yh (e ▸ h0)
  let(S,rfl):=hS
  let ndS:S.Nodup:=by
   rcases hF.c with⟨e,_⟩|⟨m,hm,e,h0,_⟩
   ·rw[c7.mp e];exact ju
   ·have:=(hF.f m hm).1
    rw[<- e,mq,fo] at this
    exact this.imp λh z=>h (congrArg Ψ z)
  let hlen:S.length<=n+1:=by
   have:=xg (n:=n) (fs:=S.map Ψ) (by rw[mq,fo];exact ndS.imp λh z=>h (ip z)) λx hx=>by
    rcases hF.c with⟨e,_⟩|⟨m,hm,e,h0,_⟩
    ·rw[e] at hx;cases hx
    ·exact xJ hb hm (((hF.f m hm).2 x).mp (e ▸ hx))
   simpa using this
  simp
  rw[show mU (nV ∘ Ψ) S=S.map λi:Nat=>FV.int i from rfl,yB,pA]
  exact⟨by simp;lia,λms hp hs=>?_⟩
  let(T,rfl,hup,hmem):=xW ndS hp hs
  rw[k9]
  rcases hF.c with⟨e,hz⟩|⟨m,hm,e,h0,hmin⟩
  ·let hT:T=[]:=by
    cases T with
    | nil=>rfl
    | cons a r =>
     have:=(hmem a).mp ∅
     rw[c7.mp e] at this;cases this
   rw[hT]
   exact q0 λk hk=>((hF.f k hk).2 Φ).mp (hz k hk)
  ·exact q1 T (Ha hF.f (λa t h=>(hb _ h).2 a rfl) hm h0 hmin hup λa=>by rw[hmem a,<- e];simp)
abbrev kE (e:oz):List (Option Int):=[e.1.map λa:Nat=>(a:Int),Ψ (e.2:Int)]
def xk {a b:oz}(h:kE a=kE b):a=b:=by
 let(a1,a2):=a
 let(b1,b2):=b
 simp![kE,iP,Option.some.injEq,and_true] at h
 let(h1,h2):=h
 have:a2=b2:=⋯
 subst this
 cases a1<;>cases b1<;>simp at h1<;>first|rfl|(have:=h1;congr 2;lia)
abbrev dn (z:Option PySem.Obj)(E:List oz)(f:oz->Int):FV:=.dcn z (E.map kE) (E.map λe=>.int (f e))
def uv (e:oz)(Q:List (Option Int)->Prop):wp (pP [nV e.1,.int e.2]) Q↔Q (kE e):=by
 let(a,b):=e
 cases a<;>simp[nV,kE]
def FH (e:oz):DA (kE e)=p8 e:=by
 let(a,b):=e
 cases a<;>rfl
def xp {f:oz->Int}{e:oz}:∀ {E:List oz},e∈E->pv (E.map kE) (E.map λe=>FV.int (f e)) (kE e)=Ψ (.int (f e))
 | x :: r,h=>by
  show (if kE x=kE e then Ψ (FV.int (f x)) else pv (r.map kE) (r.map λe=>FV.int (f e)) (kE e))=_
  by_cases z:x=e
  ·subst z;rw[if_pos rfl]
  ·rw[if_neg λh=>z (xk h)]
   exact xp ((kj.mp h).resolve_left λy=>z y.symm)
open Classical in
def Ht {f:oz->Int}{e:oz}{v:Int}{E:List oz}(h:e∈E):oB (E.map kE) (E.map λe=>FV.int (f e)) (kE e) (.int v)=(E.map kE,E.map λx=>FV.int (if x=e then v else f x)):=by
 unfold oB
 rw[if_pos (c5 h)]
 congr 1
 clear h
 induction E with
 | nil=>rfl
 | cons x r ih =>
  simp![kn,List.zipWith_cons_cons,ih]
  by_cases z:x=e
  ·subst z;simp
  ·rw[if_neg λh=>z (xk h),if_neg z]
def ER {f:oz->Int}{e:oz}{E:List oz}(h:e ∉ E):oB (E.map kE) (E.map λe=>FV.int (f e)) (kE e) (.int (f e))=((E++[e]).map kE,(E++[e]).map λx=>FV.int (f x)):=by
 unfold oB
 rw[if_neg λz=>by let(y,h1,h2):=k6.mp z;exact h (xk h2 ▸ h1)]
 simp
abbrev qh (n:Nat)(cs:List qj):List oz:=(mm n).map (λm=>(Φ,m))++cs.map λc=>(Ψ c.1,c.2.1)
def DW (d:Nat){ws:List Int}{cs:List qj}{sz:oz->Int}(hn:ws.length<=60)(hc:cs.length<=500)(nd:(qh ws.length cs).Nodup)(h1:∀ m (h:m<ws.length),sz (Φ,m)=ws[m])(h2:∀ c∈cs,sz (Ψ c.1,c.2.1)=c.2.2){Q:FV×FV->Prop}(q:Q (dn Φ (qh ws.length cs) sz,.non)):callW tb (d+1) 16 [pi ws cs] Q:=by
 exact oq (fd:=Jj) rfl rfl ?_
 simp[Jj,J4,pi]
 let ep:pO (uq 0 ws.length) (ws.map .int)=(mm ws.length).map λm:Nat=>FV.tup [.int (m:Int),.int (sz (Φ,m))]:=by
  rw[pH]
  apply gG
  ·simp[pO]
  ·intro i g1 g2
   simp[pO] at g2 ⊢
   exact (h1 i g2).symm
 rw[ep]
 exact⟨by simp[big];lia,?_⟩
 let n1:((mm ws.length).map λm=>((Φ,m):oz)).Nodup:=(fq.mp nd).1
 exact wC (f:=λm:Nat=>FV.tup [.int (m:Int),.int (sz (Φ,m))]) (g:=λm=>kE (Φ,m)) (h:=λm=>FV.int (sz (Φ,m))) (mm ws.length) [] [] ∅ ?_ (λm hm K k=>?_) ?_
 ·rw[mq,fo] at n1 ⊢
  exact n1.imp λh z=>h (xk z)
 ·simp
  exact⟨(·),k⟩
 ·simp
  exact pf (f:=qc) (I:=λdone L=>∃ x y z,L=[Ψ (FV.tup [FV.tup (ws.map .int),FV.tup (cs.map qc)]),Ψ (dn Φ (qh ws.length done) sz),x,y,z]) cs cs [] _ rfl ⟨Φ,Φ,Φ,by simp[qh,dn,fI]⟩ (λdd c r L K e hI hK=>?_) λL hI=>?_
  ·let(x,y,z,rfl):=hI
   let hin:c∈cs:=by rw[e];simp
   let hne:((Ψ c.1,c.2.1):oz) ∉ qh ws.length dd:=by
    rw[e,qh,iG,kn,<- fE] at nd
    exact λz=>(fq.mp nd).2.2 _ z _ ∅ rfl
   let hl:(qh ws.length dd).length<big:=by
    have:dd.length<=cs.length:=by rw[e];simp
    simp[qh,big];lia
   let hp:=ER (f:=sz) hne
   rw[h2 c hin] at hp
   simp[qc,dn]
   exact⟨(·),by simpa using hl,?_⟩
   rw[show [Ψ ((c.1:Nat):Int),Ψ ((c.2.1:Nat):Int)]=kE (Ψ c.1,c.2.1) from rfl,hp]
   exact hK _ ⟨Ψ (FV.int c.1),Ψ (FV.int c.2.1),Ψ (FV.int c.2.2),by simp[qh,dn]⟩
  ·let(x,y,z,rfl):=hI
   simp
   exact q
abbrev GM (us:List oz):FV:=.dci (us.map λe=>(e.2:Int)) (us.map λe=>nV e.1)
def yD {e:oz}:∀ {us:List oz},(us.map (·.2)).Nodup->e∈us->pv (us.map λe=>(e.2:Int)) (us.map λe=>nV e.1) (e.2:Int)=Ψ (nV e.1)
 | x :: r,nd,h=>by
  show (if (x.2:Int)=e.2 then Ψ (nV x.1) else pv (r.map λe=>(e.2:Int)) (r.map λe=>nV e.1) (e.2:Int))=_
  simp![kn,iC] at nd
  rcases kj.mp h with rfl|h
  ·rw[if_pos rfl]
  ·rw[if_neg λz=>nd.1 (k6.mpr ⟨e,h,⋯⟩)]
   exact yD nd.2 h
def ux {n:Nat}{D:List Nat}(nd:D.Nodup)(h:∀ x∈D,x<n):D.length<=n:=by
 have:=nd.length_le_of_subset (l₂:=mm n) λx hx=>jv.mpr (h x hx)
 simpa using this
def Eh {n:Nat}{D:List Nat}(nd:D.Nodup)(h:∀ x∈D,x<n)(hl:n<=D.length){m:Nat}(hm:m<n):m∈D:=by
 exact aX λz=>?_
 have:=ux (n:=n) (D:=m :: D) (iC.mpr ⟨z,nd⟩) λx hx=>(kj.mp hx).elim (λe=>e ▸ hm) (h x)
 simp at this;lia
def Fz (d n:Nat){E:List oz}{sz:oz->Int}{fr:List oz}{ps:List Prc}(H:Lrm n E sz fr ps)(hl:fr.length<=1000)(hb:Kf n fr)(hn:n<=60)(ha:∀ m,m<n->Anc fr m Φ){Q:FV×FV->Prop}(q:∀ us,Cnt fr ps us->(∀ m,m<n->m∈us.map (·.2))->(∀ ls:List (Option Nat),ls.length=n->(∀ m,m<n->∃ e∈us,e.2=m/\ls[m]?=Ψ e.1)->Q (.tup (ls.map nV),.non))):callW tb (d+1) 19 [.int n,.lst (fr.map p8)] Q:=by
 exact oq (fd:=Jg) rfl rfl ?_
 simp[Jg,J1]
 exact tj (I:=λk L=>∃ us x y,k=n-us.length/\Cnt fr ps us/\L=[Ψ (.int n),Ψ (.lst (fr.map p8)),Ψ (GM us),x,y]) (λk L K h hK=>?_) (m:=n) ⟨[],Φ,Φ,rfl,⟨⟨∅,∅,∅⟩,λq hq=>by simp[tm]⟩,rfl⟩
 let(us,x,y,rfl,h,rfl):=h
 let lt:∀ x∈us.map (·.2),x<n:=λx hx=>by
  let(e,he,rfl):=k6.mp hx
  exact (hb e (h.sub e he)).1
 let hle:=ux h.nd lt
 simp[GM]
 exact pq (λhk=>?_) λhk=>?_
 ·obtain⟨m,hm,hmD⟩:∃ m,m<n/\m ∉ us.map (·.2):=by
   exact aX λz=>?_
   have:∀ m∈mm n,m∈us.map (·.2):=λm hm=>aX λw=>z ⟨m,jv.mp hm,w⟩
   have:=gv.length_le_of_subset this
   simp at this;lia
  let(e,he):=Dy hmD (ha m hm)
  let hstep:=h.step H he
  let m1:e.2 ∉ us.map (·.2):=by
   have:=iN he
   simp![may,gR,fN,decide_eq_false_iff_not] at this
   exact this.1
  let memI:∀ a:Nat,(a:Int)∈us.map (λe=>(e.2:Int))↔a∈us.map (·.2):=λa=>by
   simp![k6]
   exact⟨λ⟨e,h1,h2⟩=>⟨e,h1,⋯⟩,λ⟨e,h1,h2⟩=>⟨e,h1,⋯⟩⟩
  exact⟨by simp![big];lia,?_⟩
  exact oP (f:=p8) (g:=p8) (p:=may (us.map (·.2))) fr [] (λc hc K N k1 k2=>?_) ?_
  ·let(on,t):=c
   cases on with
   | none =>
    show gW _ (FV.tup [.non,.int (t:Int)]) _ _
    simp
    exact pq (λg=>k1 ?_) λg=>k2 ?_
    ·simp![fN,decide_eq_false_iff_not,memI] at g
     simp![may,g];simp
    ·simp![fN,decide_eq_false_iff_not,memI,fM] at g
     simp![may,g];simp
   | some a =>
    show gW _ (FV.tup [.int (a:Int),.int (t:Int)]) _ _
    simp
    exact pq (λg=>pq (λg'=>k1 ?_) λg'=>k2 ?_) λg=>k2 ?_
    ·simp![fN,decide_eq_false_iff_not,memI] at g
     simp![decide_eq_true_eq,memI] at g'
     simp![may,g,g'];simp
    ·simp![decide_eq_true_eq,memI] at g'
     simp![may,g'];simp
    ·simp![fN,decide_eq_false_iff_not,memI,fM] at g
     simp![may,g];simp
  ·obtain⟨r,er⟩:∃ r,fr.filter (may (us.map (·.2)))=e :: r:=by
    have:=List.head?_filter (p:=may (us.map (·.2))) (l:=fr)
    rw[he] at this
    cases z:fr.filter (may (us.map (·.2))) with
    | nil=>rw[z] at this;cases this
    | cons x r=>rw[z] at this;cases this;exact⟨r,rfl⟩
   rw[er]
   simp[p8]
   let hp:oB (us.map λe=>(e.2:Int)) (us.map λe=>nV e.1) (e.2:Int) (nV e.1)=((us++[e]).map (λe=>(e.2:Int)),(us++[e]).map λe=>nV e.1):=by
    unfold oB
    rw[if_neg λz=>m1 ((memI e.2).mp z)]
    simp
   rw[hp]
   exact⟨by simp![big];lia,hK _ _ ?_ ⟨us++[e],Ψ (nV e.1),Ψ (.int e.2),rfl,hstep,rfl⟩⟩
   simp;lia
 ·let hall:∀ m,m<n->m∈us.map (·.2):=λm hm=>Eh h.nd lt (by simp;lia) hm
  exact⟨n9 ⋯ ⋯,by simp[pH,big];lia,?_⟩
  rw[pH]
  let at':∀ m,m<n->∃ e∈us,e.2=m/\(us.find? λe=>Δ (e.2=m))=Ψ e:=λm hm=>by
   let(e,he,em):=k6.mp (hall m hm)
   cases z:us.find? λe=>Δ (e.2=m) with
   | none=>exact absurd (decide_eq_true em) (dS.mp z e he)
   | some e'=>exact⟨e',aP z,by simpa using iN z,rfl⟩
  exact pC (f:=λm:Nat=>FV.int (m:Int)) (g:=λm=>nV (((us.find? λe=>Δ (e.2=m)).map (·.1)).getD Φ)) (mm n) [] (λm hm K k=>?_) ?_
  ·let(e,he,em,ef):=at' m (jv.mp hm)
   rw[ef] at k
   simp
   rw[<- em,yD h.nd he,pA]
   exact k
  ·have:=q us h hall ((mm n).map λm=>((us.find? λe=>Δ (e.2=m)).map (·.1)).getD Φ) ∅ λm hm=>by
    let(e,he,em,ef):=at' m hm
    exact⟨e,he,em,by simp[hm,ef]⟩
   simpa[fI] using this
def codI:Cod FV.int D.int:=⟨λk x=>rfl,λx y=>by rw[iW,D.eqv_int];simp⟩
abbrev oj (q:Prc):FV:=.tup [.tup (q.S.map λi:Nat=>.int i),.int q.p]
def AV {S:List Nat}{x:Option Nat}{R:Bool->Prop}:wp (vF (nV x) (.tup (S.map λi:Nat=>FV.int i))) R↔R (Δ (x∈S.map Ψ)):=by
 have:=codL.inT x (S.map Ψ) R
 rw[k9] at this
 exact this
def vo (S:List Nat)(e:oz):ent S e=(Δ (Ψ e.2∈S.map Ψ) && !Δ (e.1∈S.map Ψ)):=by
 let(on,t):=e
 cases on<;>simp[ent]
abbrev Nxt (n:Nat)(fr:List oz)(S:List Nat):Prop:=(S=[]/\∀ m,m<n->Anc fr m Φ) ∨ Src n fr S
structure Est (n:Nat)(E:List oz)(sz:oz->Int):Prop where
 nd:E.Nodup
 rg:Kf n E
 who:∀ m,m<n->(Φ,m)∈E
 pos:∀ e∈E,0<sz e
 bd:∀ e∈E,sz e<=100000000000
 le:E.length<=560
def zV {ps:List Prc}(h:∀ q∈ps,0<q.p)(e:oz):0<=due ps e:=by
 rw[vw]
 induction ps with
 | nil=>simp
 | cons q r ih =>
  have:=ih λx hx=>h x (by simp[hx])
  have:=h q ∅
  simp![kn,kh]
  split<;>lia
def D1 {z:Option PySem.Obj}{E:List oz}{f g:oz->Int}(h:∀ e∈E,f e=g e):dn z E f=dn z E g:=by
 unfold dn
 congr 1
 exact c8 λe he=>by rw[h e he]
def xz {e:oz}{q:Prc}(he:ent q.S e=Ω):∀ {ps:List Prc},(∀ q∈ps,0<q.p)->q∈ps->q.p<=due ps e
 | r :: ps,h,hq=>by
  let e0:due (r :: ps) e=(if ent r.S e=Ω then r.p else 0)+due ps e:=by rw[vw,vw];rfl
  let h1:=zV (λx hx=>h x (by simp[hx]):∀ x∈ps,0<x.p) e
  let h2:=h r ∅
  rw[e0]
  rcases kj.mp hq with rfl|hq
  ·rw[if_pos he];lia
  ·have:=xz he (λx hx=>h x (by simp[hx])) hq
   split<;>lia
def GJ (S:List Nat):Co (.tup (S.map λi:Nat=>.int i))=Ω:=by
 have:=tF (f:=λi:Nat=>FV.int i) (λi=>∅) S
 rw[Ax,this]
def Ic (S:List (Option Nat)):Co (.tup (S.map nV))=Ω:=by
 have:=tF (f:=nV) (λi=>by cases i<;>rfl) S
 rw[Ax,this]
def Dj (d n:Nat){fr:List oz}(nd:fr.Nodup)(hl:fr.length<=1000)(hb:Kf n fr)(hn:n<=60){Q:FV×FV->Prop}(q:∀ S,Nxt n fr S->Q (.tup (S.map λi:Nat=>.int i),.non)):callW tb (d+2) 17 [.int n,.lst (fr.map p8)] Q:=Fm d n nd hl hb hn (λh=>q [] (.inl ⟨rfl,h⟩)) λS h=>q S (.inr h)
def EN (d:Nat){ws:List Int}{cs:List qj}{sz:oz->Int}(hn:ws.length<=60)(hc:cs.length<=500)(h1:∀ m (h:m<ws.length),sz (Φ,m)=ws[m])(h2:∀ c∈cs,sz (Ψ c.1,c.2.1)=c.2.2)(G:Est ws.length (qh ws.length cs) sz){Q:FV×FV->Prop}
  (q:∀ (fr:List oz)(ps:List Prc)(us:List oz)(ls:List (Option Nat)),Lrm ws.length (qh ws.length cs) sz fr ps->Cnt fr ps us->(∀ m,m<ws.length->m∈us.map (·.2))->ls.length=ws.length->(∀ m,m<ws.length->∃ e∈us,e.2=m/\ls[m]?=Ψ e.1)->ps.length<=(qh ws.length cs).length->Q (.tup [.int (ps.map (·.p)).sum,.tup (ls.map nV),.lst (ps.map oj)],.non)):callW tb (d+3) 15 [pi ws cs] Q:=by
 exact oq (fd:=Jk) rfl rfl ?_
 simp[Jk,J5]
 rw[show ∀ Q:List FV->Prop,wp (qa (pi ws cs)) Q↔Q [.tup (ws.map .int),.tup (cs.map qc)] from λ_=>m6]
 simp
 exact DW (d+1) hn hc G.nd h1 h2 ?_
 generalize eE:qh ws.length cs=E at G q
 generalize en:ws.length=n at hn G q
 let gle:=G.le
 simp
 exact Dj d n (fr:=[]) ∅ ∅ (λe he=>nomatch he) hn λS0 hS0=>?_
 simp
 exact⟨GJ S0,?_⟩
 exact tj (I:=λk L=>∃ fr ps S x y z,k=E.length-fr.length/\Lrm n E sz fr ps/\Nxt n fr S/\ps.length<=fr.length/\L=[Ψ (pi ws cs),Ψ (.int n),Ψ (dn Φ E λe=>sz e-due ps e),Ψ (.lst (fr.map p8)),Ψ (.lst (ps.map oj)),Ψ (.tup (S.map λi:Nat=>.int i)),x,y,z]) (λk L K h hK=>?_) (m:=E.length) ⟨[],[],S0,Φ,Φ,Φ,rfl,.start G.pos,hS0,∅,by simp[due]⟩
 let(fr,ps,S,x,y,z,rfl,h,hS,hpf,rfl):=h
 let hfl:fr.length<=E.length:=h.nd.length_le_of_subset h.sub
 simp
 exact pq (λhz=>?_) λhz=>?_
 ·let ha:∀ m,m<n->Anc fr m Φ:=by
   rcases hS with⟨_,h⟩|h
   ·exact h
   ·exact absurd hz h.ne
  exact⟨by simp![big];lia,?_⟩
  exact pC (f:=oj) (g:=λq=>.int q.p) ps [] (λq hq K k=>?_) ?_
  ·simp[oj]
   exact k
  ·rw[iD,show (ps.map λq=>FV.int q.p)=(ps.map (·.p)).map .int by rw[k9];rfl]
   exact so (by simp;lia) (λx hx=>?_) ?_
   ·let(q,hq,rfl):=k6.mp hx
    let(e,g1,g2):=h.hit q hq
    have:=xz g2 h.pos hq
    have:=h.pos q hq
    have:=(h.free e (h.sub e g1)).mp g1
    have:=G.bd e (h.sub e g1)
    lia
   ·simp
    exact Fz (d+1) n h ⋯ (λe he=>G.rg e (h.sub e he)) hn ha λus c hall ls hls hat=>?_
    exact⟨Ic ls,(·),q fr ps us ls h c hall hls hat ⋯⟩
 ·let hS:Src n fr S:=hS.resolve_left λz=>hz z.1
  obtain⟨m0,hm0⟩:∃ m,m∈S:=aV S hz
  rw[show (dn Φ E λe=>sz e-due ps e)=.dcn Φ (E.map kE) (E.map λe=>.int (sz e-due ps e)) from rfl]
  rw[EF]
  intro o
  simp
  exact⟨by simp[big];lia,?_⟩
  rw[show (DA ∘ kE)=p8 from funext FH]
  exact oP (f:=p8) (g:=p8) (p:=ent S) E [] (λe he K N k1 k2=>?_) ?_
  ·simp[p8]
   rw[show FV.int (e.2:Int)=nV (Ψ e.2) from rfl,AV]
   exact pq (λg1=>?_) λg1=>?_
   ·rw[AV]
    exact pq (λg2=>k2 ?_) λg2=>⟨(·),k1 ?_⟩
    ·rw[vo,g1,g2];rfl
    ·rw[vo,g1,fO.mpr g2];rfl
   ·exact k2 (by rw[vo,fO.mpr g1];rfl)
  ·let hEs:∀ e,e∈E.filter (ent S)↔e∈E/\ent S e=Ω:=λe=>iE
   let ndEs:(E.filter (ent S)).Nodup:=G.nd.filter _
   let lEs:(E.filter (ent S)).length<=E.length:=cq _ _
   let neEs:(Φ,m0)∈E.filter (ent S):=(hEs _).mpr ⟨G.who m0 (hS.lt m0 hm0),ent_iff.mpr ⟨hm0,λa e=>nomatch e⟩⟩
   let fEs:∀ p,(E.filter λe=>ent S e && Δ (sz e-due ps e=p))=(E.filter (ent S)).filter λe=>Δ (sz e-due ps e=p):=λp=>by
    rw[List.filter_filter]
    congr 1
    funext e
    exact Bool.and_comm _ _
   let hst:=λp h1 h2=>h.step (p:=p) hS G.nd h1 h2
   simp![fEs] at hst
   simp
   generalize E.filter (ent S)=Es at hEs ndEs lEs neEs hst ⊢
   exact⟨by simp![big];lia,?_⟩
   exact pC (f:=p8) (g:=λe=>.int (sz e-due ps e)) Es [] (λe he K k=>?_) ?_
   ·simp[p8]
    rw[uv,xp ((hEs e).mp he).1,pA]
    exact k
   ·obtain⟨e0,r0,e1⟩:∃ e0 r0,Es=e0 :: r0:=by
     cases Es with
     | nil=>cases neEs
     | cons a b=>exact⟨a,b,rfl⟩
    rw[iD,show (Es.map λe=>FV.int (sz e-due ps e))=(Es.map λe=>sz e-due ps e).map .int by rw[k9];rfl,Fo (x:=sz e0-due ps e0) (r:=r0.map λe=>sz e-due ps e) (by rw[e1];rfl)]
    let hin:=v8 (r0.map λe=>sz e-due ps e) (sz e0-due ps e0)
    let hle:=v7 (r0.map λe=>sz e-due ps e) (sz e0-due ps e0)
    generalize pS (sz e0-due ps e0) (r0.map λe=>sz e-due ps e)=p at hin hle ⊢
    let hle':∀ e∈Es,p<=sz e-due ps e:=λe he=>by
     rw[e1] at he
     rcases kj.mp he with rfl|he
     ·exact hle.1
     ·exact hle.2 _ (k6.mpr ⟨e,he,rfl⟩)
    let hin':∃ e∈Es,sz e-due ps e=p:=by
     rcases kj.mp hin with z|z
     ·exact⟨e0,by rw[e1];simp,z.symm⟩
     ·let(e,g1,g2):=k6.mp z
      exact⟨e,by rw[e1];simp[g1],g2⟩
    let(hp,h'):=hst p (λe he g=>hle' e ((hEs e).mpr ⟨he,g⟩)) (by
     let(e,g1,g2):=hin'
     exact⟨e,((hEs e).mp g1).1,((hEs e).mp g1).2,g2⟩)
    simp
    exact⟨(·),by simp![big];lia,?_⟩
    let dl:(E.map kE).length<big:=by simp[big];lia
    exact pf (f:=p8) (I:=λdone L=>∃ z,L=[Ψ (pi ws cs),Ψ (FV.int n),Ψ (dn Φ E λe=>sz e-due ps e-if e∈done then p else 0),Ψ (FV.lst (fr.map p8)),Ψ (FV.lst ((ps++[(⟨S,p,fr.length⟩:Prc)]).map oj)),Ψ (FV.tup (S.map λi:Nat=>FV.int i)),Ψ (FV.lst (Es.map p8)),Ψ (FV.int p),z]) Es Es [] _ rfl ⟨z,by simp[dn,oj]⟩ (λdd e r L K e2 hI hK=>?_) λL hI=>?_
    ·let(z,rfl):=hI
     let heE:e∈E:=((hEs e).mp (by rw[e2];simp)).1
     let hed:e ∉ dd:=by
      rw[e2] at ndEs
      exact λz=>(fq.mp ndEs).2.2 _ z _ ∅ rfl
     simp[p8,dn]
     rw[uv,xp heE,pA]
     simp
     rw[uv,Ht heE]
     exact⟨by simpa using dl,hK _ ⟨Ψ (p8 e),?_⟩⟩
     simp[dn,p8]
     intro a b _
     by_cases g:(a,b)=e
     ·subst g
      rw[if_pos rfl,if_neg hed,if_pos (.inr rfl)];lia
     ·rw[if_neg g]
      congr 1
      by_cases g2:(a,b)∈dd
      ·rw[if_pos g2,if_pos (.inl g2)]
      ·rw[if_neg g2,if_neg λz=>z.elim g2 g]
    ·let(z,rfl):=hI
     let ed:(dn Φ E λe=>sz e-due ps e-if e∈Es then p else 0)=dn Φ E λe=>sz e-due (ps++[⟨S,p,fr.length⟩]) e:=D1 λe he=>by
      rw[tT]
      by_cases g:ent S e=Ω
      ·rw[if_pos ((hEs e).mpr ⟨he,g⟩),if_pos g];lia
      ·rw[if_neg λz=>g ((hEs e).mp z).2,if_neg g];lia
     rw[ed]
     simp
     exact⟨by simp![big];lia,?_⟩
     exact oP (f:=p8) (g:=p8) (p:=λe=>Δ (sz e-due ps e=p)) Es [] (λe he K N k1 k2=>?_) ?_
     ·simp[p8,dn]
      rw[uv,xp ((hEs e).mp he).1,pA,tT,if_pos ((hEs e).mp he).2]
      rw[codI.eq]
      exact pq (λg=>k1 ?_) λg=>k2 ?_
      ·let g:=of_decide_eq_true g
       exact decide_eq_true ⋯
      ·let g:=of_decide_eq_false (fO.mpr g)
       exact decide_eq_false ⋯
     ·let hfp:1<=(Es.filter λe=>Δ (sz e-due ps e=p)).length:=by
       obtain ⟨e,g1,g2⟩:=hin'
       exact List.length_pos_of_mem (iE.mpr ⟨g1,decide_eq_true g2⟩)
      let hl2:=h'.nd.length_le_of_subset h'.sub
      simp
      simp![dP] at hl2
      exact⟨by simp![big];lia,?_⟩
      rw[<- iG]
      exact Dj d n h'.nd (by simp![dP];lia) (λe he=>G.rg e (h'.sub e he)) hn λS' hS'=>⟨GJ S',hK _ _ ?_ ⟨_,_,S',Ψ (FV.lst (Es.map p8)),Ψ (FV.int p),z,rfl,h',hS',?_,∅⟩⟩
      ·simp![dP];lia
      ·simp![dP,gC,iJ];lia
abbrev Ef:Option Nat->Int|none=>-1|some a=>a
def vg {S:List Nat}{i:Int}{R:Bool->Prop}:wp (vF (.int i) (.tup (S.map λj:Nat=>FV.int j))) R↔R (Δ (i∈S.map λj:Nat=>(j:Int))):=by
 have:=codI.inT i (S.map λj:Nat=>(j:Int)) R
 rw[k9] at this
 exact this
def tQ (S:List Nat)(e:oz):ent S e=(Δ ((e.2:Int)∈S.map λj:Nat=>(j:Int)) && !Δ (Ef e.1∈S.map λj:Nat=>(j:Int))):=by
 let(on,t):=e
 let h:∀ a:Nat,((a:Int)∈S.map λj:Nat=>(j:Int))↔a∈S:=λa=>by
  rw[k6]
  exact⟨λ⟨x,h1,h2⟩=>by rwa [<- show x=a by lia],λh=>⟨a,h,rfl⟩⟩
 cases on with
 | none =>
  have:(-1:Int) ∉ S.map λj:Nat=>(j:Int):=λz=>by
   let(x,_,h2):=k6.mp z
   lia
  simp[ent,Ef,h,this]
 | some a=>simp[ent,Ef,h]
def uA (d:Nat){ps:List Prc}(e:oz)(hl:ps.length<=1000)(hp:∀ q∈ps,0<=q.p/\q.p<=100000000000){Q:FV×FV->Prop}(q:Q (.int (due ps e),.non)):callW tb (d+1) 33 [.lst (ps.map oj),.int (Ef e.1),.int e.2] Q:=by
 exact oq (fd:=IV) rfl rfl ?_
 simp[IV,Gh]
 exact⟨by simp![big];lia,?_⟩
 exact oP (f:=oj) (g:=λq=>.int q.p) (p:=λq=>ent q.S e) ps [] (λc hc K N k1 k2=>?_) ?_
 ·simp[oj]
  rw[vg]
  exact pq (λg1=>?_) λg1=>?_
  ·rw[vg]
   exact pq (λg2=>k2 ?_) λg2=>k1 ?_
   ·rw[tQ,g1,g2];rfl
   ·rw[tQ,g1,fO.mpr g2];rfl
  ·exact k2 (by rw[tQ,fO.mpr g1];rfl)
 ·rw[iD,show ((ps.filter λq=>ent q.S e).map λq=>FV.int q.p)=((ps.filter λq=>ent q.S e).map (·.p)).map .int by rw[k9];rfl]
  exact so (by have:=cq (λq:Prc=>ent q.S e) ps;simp;lia) (λx hx=>?_) q
  let(c,hc,rfl):=k6.mp hx
  exact hp c (iE.mp hc).1
structure Sto (ws:List Int)(cs:List qj)(sz:oz->Int):Prop where
 n:ws.length<=12
 l:cs.length<=144
 w:∀ m (h:m<ws.length),sz (Φ,m)=ws[m]
 c:∀ c∈cs,sz (Ψ c.1,c.2.1)=c.2.2
 r:∀ c∈cs,c.1<ws.length/\c.2.1<ws.length/\c.1≠c.2.1
 k:(cs.map λc=>(c.1,c.2.1)).Nodup
 p:∀ e∈qh ws.length cs,0<sz e/\sz e<=2000000000
def Sto.nd {ws:List Int}{cs:List qj}{sz:oz->Int}(h:Sto ws cs sz):(qh ws.length cs).Nodup:=by
 let hk:=h.k
 unfold qh
 exact fq.mpr ⟨?_,?_,λa ha b hb e=>?_⟩
 ·rw[mq,fo]
  exact gv.imp λh e=>h (congrArg mO e)
 ·rw[mq,fo] at hk ⊢
  exact hk.imp λh e=>h (by
   let h1:=congrArg mP e
   let h2:=congrArg mO e
   exact mQ (ip h1) h2)
 ·let(m,_,rfl):=k6.mp ha
  let(c,_,rfl):=k6.mp hb
  cases e
def Sto.est {ws:List Int}{cs:List qj}{sz:oz->Int}(h:Sto ws cs sz):Est ws.length (qh ws.length cs) sz:=by
 exact⟨h.nd,λe he=>?_,λm hm=>?_,λe he=>(h.p e he).1,λe he=>by have:=(h.p e he).2;lia,?_⟩
 ·rcases iF.mp he with he|he
  ·let(m,hm,rfl):=k6.mp he
   exact⟨jv.mp hm,λa z=>nomatch z⟩
  ·let(c,hc,rfl):=k6.mp he
   have:=h.r c hc
   exact⟨this.2.1,λa z=>by cases z;exact this.1⟩
 ·exact cK _ (k6.mpr ⟨m,jv.mpr hm,rfl⟩)
 ·have:=h.n
  have:=h.l
  simp[qh];lia
structure Told (ws:List Int)(cs:List qj)(sz:oz->Int)(ps:List Prc)(ls:List (Option Nat)):Prop where
 len:ls.length=ws.length
 rk:∃ r,Rk ls r
 ent:∀ e∈rH ls,e∈qh ws.length cs
 sum:((rH ls).map sz).sum=(ps.map (·.p)).sum
 low:∀ e∈qh ws.length cs,due ps e<=sz e
 pos:∀ q∈ps,0<q.p
 bd:∀ q∈ps,q.p<=2000000000
 ne:∀ q∈ps,q.S≠[]
 up:∀ q∈ps,q.S.Pairwise (· < ·)
 lt:∀ q∈ps,∀ m∈q.S,m<ws.length
 dst:(ps.map (·.S)).Nodup
 pl:ps.length<=156
def Told.least {ws:List Int}{cs:List qj}{sz:oz->Int}{ps:List Prc}{ls ls':List (Option Nat)}(h:Told ws cs sz ps ls){r:Nat->Nat}(hl:ls'.length=ws.length)(hr:Rk ls' r)(he:∀ e∈rH ls',e∈qh ws.length cs):(ps.map (·.p)).sum<=((rH ls').map sz).sum :=
 vW (λe hx=>h.low e (he e hx)) h.pos λq hq=>hr.enter (h.ne q hq) λm hm=>by rw[hl];exact h.lt q hq m hm
def Sto.keys {ws:List Int}{cs:List qj}{sz:oz->Int}(h:Sto ws cs sz):(cs.map keyH).Nodup:=by
 have:=h.k
 rw[mq,fo] at this ⊢
 exact this.imp λh e=>h (by simp[keyH] at e;exact mQ (by dsimp only;lia) (by dsimp only;lia))
def Ij (d:Nat){ws:List Int}{cs:List qj}{sz:oz->Int}(h:Sto ws cs sz){Q:FV×FV->Prop}(q:Q (.dct (cs.map keyH) (cs.map λc=>.int c.2.2),.non)):callW tb (d+1) 29 [pi ws cs] Q:=by
 let hc:=h.l
 exact oq (fd:=IY) rfl rfl ?_
 simp[IY,Gi,pi]
 exact⟨by simp[big];lia,?_⟩
 exact pC (f:=qc) (g:=λc=>FV.tup [.tup [.int c.1,.int c.2.1],.int c.2.2]) cs [] (λx hx K k=>?_) ?_
 ·simp[qc,big]
  exact k
 ·rw[iD,vY,pA,uT _ [] [] (by simpa[k9,fI] using h.keys)]
  simpa[k9,fI] using q
structure Lyg (ws:List Int)(cs:List qj)(ls:List (Option Nat)):Prop where
 len:ls.length=ws.length
 rk:∃ r,Rk ls r
 ent:∀ e∈rH ls,e∈qh ws.length cs
def Lyg.on {ws:List Int}{cs:List qj}{ls:List (Option Nat)}(h:Lyg ws cs ls){m a:Nat}(hm:m<ls.length)(e:ls.getD m Φ=Ψ a):a<ls.length/\∃ c∈cs,c.1=a/\c.2.1=m:=by
 let(r,hr):=h.rk
 exact⟨(hr.on m a hm e).1,?_⟩
 rcases iF.mp (h.ent (Ψ a,m) (mem_ens.mpr ⟨hm,e⟩)) with z|z
 ·let(x,_,z):=k6.mp z;cases z
 ·let(c,hc,z):=k6.mp z
  cases z;exact⟨c,hc,rfl,rfl⟩
def y0 (ls:List (Option Nat)):pO (uq 0 (ls.map nV).length) (ls.map nV)=(mm ls.length).map λm:Nat=>FV.tup [.int (m:Int),nV (ls.getD m Φ)]:=by
 rw[pH]
 apply gG
 ·simp[pO]
 ·intro i g1 g2
  simp[pO] at g2 ⊢
  rw[bo g2];rfl
def sL {ls:List (Option Nat)}{i:Nat}(hi:i<ls.length)(Q:FV->Prop):wp (Cp (ls.map nV) (i:Int)) Q↔Q (nV (ls.getD i Φ)) :=
 p9 rfl (by rw[fw,bo hi];simp[hi])
abbrev stp (ls:List (Option Nat)):Option Nat->Option Nat
 | none=>Φ
 | some a=>ls.getD a Φ
abbrev Ev (ls:List (Option Nat)) (o:Option Nat):Nat->Option Nat
 | 0=>o
 | k+1=>stp ls (Ev ls o k)
def zI {ls:List (Option Nat)}{r:Nat->Nat}(h:Rk ls r){m:Nat}(hm:m<ls.length):∀ k,(∀ a,Ev ls (Ψ m) k=Ψ a->a<ls.length/\r a+k<=r m)
 | 0=>λa e=>by cases e;exact⟨hm,lJ _⟩
 | k+1=>λa e=>by
  replace e:stp ls (Ev ls (Ψ m) k)=Ψ a:=e
  cases g:Ev ls (Ψ m) k with
  | none=>rw[g] at e;cases e
  | some b =>
   rw[g] at e
   let(h1,h2):=zI h hm k b g
   have:=h.on b a h1 e
   lia
def FK {ls:List (Option Nat)}{r:Nat->Nat}(h:Rk ls r){m:Nat}(hm:m<ls.length):Ev ls (Ψ m) ls.length=Φ:=by
 cases g:Ev ls (Ψ m) ls.length with
 | none=>rfl
 | some a =>
  let h1:=(zI h hm _ a g).2
  let h2:=h.lt m hm
  lia
def A2 {ws:List Int}{cs:List qj}{sz:oz->Int}(h:Sto ws cs sz){c:qj}(hc:c∈cs):pv (cs.map keyH) (cs.map λc=>FV.int c.2.2) (keyH c)=Ψ (.int (sz (Ψ c.1,c.2.1))):=by
 let hk:=h.keys
 let hz:=h.c
 clear h
 induction cs with
 | nil=>cases hc
 | cons x r ih =>
  show (if keyH x=keyH c then Ψ (FV.int x.2.2) else pv (r.map keyH) (r.map λc=>FV.int c.2.2) (keyH c))=_
  simp![kn,iC] at hk
  rcases kj.mp hc with rfl|hc
  ·rw[if_pos rfl,hz c ∅]
  ·rw[if_neg λz:keyH x=keyH c=>hk.1 (by rw[z];exact c5 hc)]
   exact ih hc hk.2 λy hy=>hz y (by simp[hy])
def wo (ls:List (Option Nat))(sz:oz->Int):((rH ls).map sz)=(mm ls.length).map λm=>sz (ls.getD m Φ,m):=by
 unfold rH;rw[k9];rfl
def u4 (d:Nat){ws:List Int}{cs:List qj}{sz:oz->Int}(h:Sto ws cs sz){ls:List (Option Nat)}(hl:Lyg ws cs ls){Q:FV×FV->Prop}(q:Q (.int ((rH ls).map sz).sum,.non)):callW tb (d+2) 31 [pi ws cs,.tup (ls.map nV)] Q:=by
 let hn:=h.n
 let hll:=hl.len
 exact oq (fd:=IW) rfl rfl ?_
 simp[IW,JQ]
 exact Ij d h ?_
 simp
 rw[<- iK (f:=nV),y0]
 exact pf (f:=λm:Nat=>FV.tup [.int (m:Int),nV (ls.getD m Φ)]) (I:=λdone L=>∃ x y,L=[Ψ (pi ws cs),Ψ (.tup (ls.map nV)),Ψ (.dct (cs.map keyH) (cs.map λc=>.int c.2.2)),Ψ (.int (done.map λm=>sz (ls.getD m Φ,m)).sum),x,y]) (mm ls.length) (mm ls.length) [] _ rfl ⟨_,_,rfl⟩ (λdd m r L K e hI hK=>?_) λL hI=>?_
 ·let(x,y,rfl):=hI
  let hm:m<ls.length:=jv.mp (by rw[e];simp)
  cases g:ls.getD m Φ with
  | none =>
   simp[nV,pi]
   rw[p9 rfl (v:=.int (sz (Φ,m))) (by rw[fw,bo ⋯,h.w m ⋯];rfl)]
   simp
   rw[aF] at g
   exact hK _ ⟨Ψ (.int m),Ψ .non,by simp[pi,g]⟩
  | some a =>
   let(_,c,hc,e1,e2):=hl.on hm g
   let hg:=A2 h hc
   rw[show keyH c=[(c.1:Int),(c.2.1:Int)] from rfl,e1,e2] at hg
   simp[nV]
   exact⟨(·),?_⟩
   rw[hg,pA]
   simp
   rw[aF] at g
   exact hK _ ⟨Ψ (.int m),Ψ (.int a),by simp[g]⟩
 ·let(x,y,rfl):=hI
  simp
  rw[wo] at q
  exact q
abbrev encM (S:List Nat):FV:=.tup (S.map λi:Nat=>.int i)
abbrev dM (S:List Nat):D:=.tup (S.map λi:Nat=>.int i)
def yJ:∀ S T:List Nat,D.eqvs (S.map λi:Nat=>D.int i) (T.map λi:Nat=>D.int i)=Δ (S=T)
 | [],[]=>rfl
 | [],b :: T=>rfl
 | a :: S,[]=>rfl
 | a :: S,b :: T=>by
  rw[kn,kn,D.eqvs_cons,D.eqv_int,yJ S T]
  rw[iW]
  simp
  lia
def codM:Cod encM dM:=⟨λk S=>by
 show (rP (fD (k+2)) (S.map λi:Nat=>FV.int i)).map D.tup=_
 rw[tI (g:=λi:Nat=>D.int i) λx=>rfl];rfl,λS T=>by
 show D.eqvs _ _=_
 exact yJ S T⟩
def qA (ws:List Int)(cs:List qj)(Q:List FV->Prop):wp (qa (pi ws cs)) Q↔Q [.tup (ws.map .int),.tup (cs.map qc)]:=m6
def ins_map {α β:Type}(f:α->β)(xs:List α) (k:Nat)(y:α):sD (xs.map f) k (f y)=(sD xs k y).map f:=by simp[sD,kl,km]
def tK {α:Type}(xs:List α) (k:Nat)(y:α):(sD xs k y).Perm (y :: xs):=by
 have:=gt (a:=y) (l₁:=xs.take k) (l₂:=xs.drop k)
 rwa [cb] at this
abbrev pE (l:List Nat):List FV:=l.map λi:Nat=>FV.int i
abbrev Ord (n:Nat)(os:List Nat)(ls:List (Option Nat)):Prop:=ls.length=n/\∀ m a,ls[m]?=Ψ (Ψ a)->a<n/\os.idxOf a<os.idxOf m
def Und.trans {ls:List (Option Nat)}{a b c:Nat}(h:Und ls a b)(k:Und ls b c):Und ls a c:=by
 induction k with
 | refl=>exact h
 | step e _ ih=>exact .step e ih
def GV (d:Nat){ls:List (Option Nat)}{r:Nat->Nat}(hr:Rk ls r)(hn:ls.length<=12){m:Nat}(hm:m<ls.length){Q:FV×FV->Prop}(q:∀ l,(∀ a,a∈l↔Und ls a m)->Q (.lst (pE l),.non)):callW tb (d+1) 30 [.lst (ls.map nV),.int m] Q:=by
 let hrm:=hr.lt m hm
 exact oq (fd:=IX) rfl rfl ?_
 simp[IX,JR]
 exact⟨(·),?_⟩
 exact tj (I:=λk L=>∃ h t,k=r h/\h<ls.length/\t.length+r h<=r m/\(∀ a∈h :: t,Und ls a m)/\(∀ a,Und ls a m->a∈t ∨ Und ls a h)/\L=[Ψ (.lst (ls.map nV)),Ψ (.int m),Ψ (.lst (pE (h :: t)))]) (λk L K h hK=>?_) (m:=r m) ⟨m,[],rfl,hm,∅,by simp;exact .refl,λa h=>.inr h,rfl⟩
 let(h,t,rfl,hh,hl,h1,h2,rfl):=h
 simp[pE]
 rw[sL hh]
 cases g:ls.getD h Φ with
 | none =>
  simp[nV]
  exact q (h :: t) λa=>⟨h1 a,λu=>?_⟩
  rcases h2 a u with z|z
  ·exact cJ _ z
  ·cases z with
   | refl=>simp
   | step e _=>rw[g] at e;cases e
 | some b =>
  let hb:=hr.on h b hh g
  simp[nV]
  rw[sL hh,g]
  simp[nV]
  exact⟨by simp![big];lia,hK _ _ hb.2 ⟨b,h :: t,rfl,hb.1,by simp;lia,λa ha=>?_,λa u=>?_,by simp[sD,pE]⟩⟩
  ·rcases kj.mp ha with rfl|ha
   ·exact Und.trans (.step g .refl) (h1 h ∅)
   ·exact h1 a ha
  ·rcases h2 a u with z|z
   ·exact .inl (cJ _ z)
   ·cases z with
    | refl=>exact .inl ∅
    | step e u=>rw[g] at e;cases e;exact .inr u
def Ord.rk {n:Nat}{os:List Nat}{ls:List (Option Nat)}(hp:os.Perm (mm n))(h:Ord n os ls):Rk ls os.idxOf:=by
 exact⟨λm hm=>?_,λm a hm e=>?_⟩
 ·have:=ax (hp.mem_iff.mpr (jv.mpr (by rw[<- h.1];exact hm)))
  rw[hp.length_eq,ft] at this
  rw[h.1];exact this
 ·rw[aF] at e
  have:=h.2 m a (by
   rw[bo hm] at e ⊢
   exact congrArg Ψ e)
  rw[h.1];exact this
abbrev xO (ls:List (Option Nat)) (m o:Nat):Bool:=open Classical in Δ (Und ls m o)
def undB_iff {ls:List (Option Nat)}{m o:Nat}:xO ls m o=Ω↔Und ls m o:=by simp[xO]
def FX {l:List Nat}{k:Nat}{R:Bool->Prop}:wp (vF (.int k) (.lst (pE l))) R↔R (Δ (k∈l)):=by
 have:=codL.inL (Ψ k) (l.map Ψ) R
 rw[k9,show Δ (Ψ k∈l.map Ψ)=Δ (k∈l) by simp] at this
 exact this
def LO (l:List Nat):noLs (pE l)=Ω:=tF _ (λi=>∅) l
structure Pln (ls:List (Option Nat)) (b:Nat)(T:Nat->Prop)(ps:List Prc):Prop where
 one:∀ q∈ps,(rH ls).countP (ent q.S)=1
 ne:∀ q∈ps,q.S≠[]
 lt:∀ q∈ps,∀ m∈q.S,m<ls.length
 pos:∀ q∈ps,0<q.p/\q.p<=10000000
 len:ps.length<=b
 sgl:∀ m,T m->∃ q∈ps,q.S=[m]
 up:∀ q∈ps,q.S.Pairwise (· < ·)
 dst:(ps.map (·.S)).Nodup
def Pln.mono {ls:List (Option Nat)}{b b':Nat}{T T':Nat->Prop}{ps:List Prc}(h:Pln ls b T ps)(hb:b<=b')(hT:∀ m,T' m->T m ∨ ∃ q∈ps,q.S=[m]):Pln ls b' T' ps :=
 ⟨h.one,h.ne,h.lt,h.pos,kX h.len hb,λm hm=>(hT m hm).elim (h.sgl m) id,h.up,h.dst⟩
def Pln.add {ls:List (Option Nat)}{b:Nat}{T:Nat->Prop}{ps:List Prc}{S:List Nat}{p:Int}(h:Pln ls b T ps)(h1:(rH ls).countP (ent S)=1)(h2:S≠[])(h3:∀ m∈S,m<ls.length)(h4:0<p/\p<=10000000)(h5:S.Pairwise (· < ·))(h6:S ∉ ps.map (·.S)):Pln ls (b+1) (λm=>T m ∨ S=[m]) (ps++[⟨S,p,0⟩]):=by
 let cs:∀ {P:Prc->Prop},(∀ q∈ps,P q)->P ⟨S,p,0⟩->∀ q∈ps++[⟨S,p,0⟩],P q:=λa b q hq=>by
  rcases iF.mp hq with hq|hq
  ·exact a q hq
  ·simp at hq;subst hq;exact b
 exact⟨cs h.one h1,cs h.ne h2,cs h.lt h3,cs h.pos h4,by have:=h.len;simp;lia,λm hm=>?_,cs h.up h5,?_⟩
 ·rcases hm with hm|hm
  ·let(q,g1,g2):=h.sgl m hm
   exact⟨q,by simp[g1],g2⟩
  ·exact⟨⟨S,p,0⟩,∅,hm⟩
 ·rw[iG]
  exact fq.mpr ⟨h.dst,∅,λa ha b hb z=>h6 (by simp at hb;rw[<- hb,<- z];exact ha)⟩
def xy {ps:List Prc}(h:∀ q∈ps,0<q.p/\q.p<=10000000)(e:oz):due ps e<=10000000*ps.length:=by
 rw[vw]
 induction ps with
 | nil=>simp
 | cons q r ih =>
  have:=ih λx hx=>h x (by simp[hx])
  have:=h q ∅
  simp![kn,kh,gC]
  split<;>(push_cast;lia)
def Pln.due {ls:List (Option Nat)}{b:Nat}{T:Nat->Prop}{ps:List Prc}(h:Pln ls b T ps){e:oz}(ht:T e.2)(hne:e.1≠Ψ e.2):0<due ps e:=by
 let(q,g1,g2):=h.sgl e.2 ht
 have:=xz (e:=e) (q:=q) (by
  rw[g2]
  let(on,t):=e
  exact ent_iff.mpr ⟨∅,λa ea z=>hne (by simp at z;rw[ea,z])⟩) (λq hq=>(h.pos q hq).1) g1
 have:=(h.pos q g1).1
 lia
structure Szp (n:Nat)(ls:List (Option Nat))(ps:List Prc)(T:Nat->Nat->Prop) (l:Nat)(cs:List qj):Prop where
 c:∀ c∈cs,T c.2.1 c.1/\c.1<n/\c.2.1<n/\c.1≠c.2.1/\0<c.2.2/\due ps (Ψ c.1,c.2.1)<=c.2.2/\c.2.2<=due ps (Ψ c.1,c.2.1)+9/\(ls.getD c.2.1 Φ=Ψ c.1->c.2.2=due ps (Ψ c.1,c.2.1))
 k:(cs.map λc=>(c.1,c.2.1)).Nodup
 h:∀ m a,T m a->ls.getD m Φ=Ψ a->∃ c∈cs,c.1=a/\c.2.1=m
 l:cs.length<=l
def Szp.mono {n:Nat}{ls:List (Option Nat)}{ps:List Prc}{T T':Nat->Nat->Prop}{l l':Nat}{cs:List qj}(h:Szp n ls ps T l cs)(h1:∀ m a,T m a->T' m a)(h2:∀ m a,T' m a->T m a ∨ ls.getD m Φ≠Ψ a)(hl:l<=l'):Szp n ls ps T' l' cs :=
 ⟨λc hc=>⟨h1 _ _ (h.c c hc).1,(h.c c hc).2⟩,h.k,λm a t e=>(h2 m a t).elim (λt=>h.h m a t e) λz=>absurd e z,kX h.l hl⟩
def Szp.add {n:Nat}{ls:List (Option Nat)}{ps:List Prc}{T:Nat->Nat->Prop}{l:Nat}{cs:List qj}(h:Szp n ls ps T l cs){a b:Nat}{s:Int}(hT:¬ T b a)(ha:a<n)(hb:b<n)(hne:a≠b)(h0:0<s)(h1:due ps (Ψ a,b)<=s)(h2:s<=due ps (Ψ a,b)+9)(h3:ls.getD b Φ=Ψ a->s=due ps (Ψ a,b)):Szp n ls ps (λm x=>T m x ∨ m=b/\x=a) (l+1) (cs++[(a,b,s)]):=by
 exact⟨λc hc=>?_,?_,λm x t e=>?_,by have:=h.l;simp;lia⟩
 ·rcases iF.mp hc with hc|hc
  ·exact⟨.inl (h.c c hc).1,(h.c c hc).2⟩
  ·simp at hc;subst hc
   exact⟨.inr ⟨rfl,rfl⟩,ha,hb,hne,h0,h1,h2,h3⟩
 ·rw[iG]
  exact fq.mpr ⟨h.k,∅,λx hx y hy e=>?_⟩
  let(c,hc,rfl):=k6.mp hx
  simp at hy
  subst hy
  let e1:=congrArg mP e
  let e2:=congrArg mO e
  dsimp only at e1 e2
  have:=(h.c c hc).1
  rw[e1,e2] at this
  exact hT this
 ·rcases t with t|⟨rfl,rfl⟩
  ·let(c,hc,g):=h.h m x t e
   exact⟨c,by simp[hc],g⟩
  ·exact⟨(x,m,s),∅,rfl,rfl⟩
structure Whs (ls:List (Option Nat))(ps:List Prc) (b:Nat)(ws:List Int):Prop where
 l:ws.length=b
 w:∀ m x,ws[m]?=Ψ x->due ps (Φ,m)<=x/\x<=due ps (Φ,m)+9/\(ls.getD m Φ=Φ->x=due ps (Φ,m))
def Whs.add {ls:List (Option Nat)}{ps:List Prc}{b:Nat}{ws:List Int}(h:Whs ls ps b ws){x:Int}(h1:due ps (Φ,b)<=x)(h2:x<=due ps (Φ,b)+9)(h3:ls.getD b Φ=Φ->x=due ps (Φ,b)):Whs ls ps (b+1) (ws++[x]):=by
 exact⟨by simp[h.l],λm y e=>?_⟩
 rw[List.getElem?_append] at e
 split at e
 ·exact h.w m y e
 ·rename_i g
  rw[h.l] at g e
  rw[List.getElem?_singleton] at e
  split at e
  ·cases e
   have:m=b:=⋯
   subst this
   exact⟨h1,h2,h3⟩
  ·cases e
def AA (d:Nat){N:Int}{v:FV}(hs:Lf N v)(hN:N<900000){R:FV×FV->Prop}(q:∀ u v',0<=u->u<9->Lf (N+2) v'->R (.int u,v')):callW tb (d+2) 22 [v,.int 3] λz1=>wp (pY (.lst [.int 1,.int 2,.int 9]) z1.1) λz2=>callW tb (d+2) 22 [z1.2,z2] R:=by
 exact ot d hs ⋯ ⋯ ⋯ λu v' u0 u1 hv'=>?_
 simp
 exact t8 u0 (by simpa using u1) λx hx=>?_
 obtain⟨k,rfl,k1,k2⟩:∃ k:Int,x=.int k/\1<=k/\k<=9:=by
  simp at hx
  rcases hx with rfl|rfl|rfl<;>exact⟨_,rfl,⋯,⋯⟩
 refine ot d hv' ⋯ ⋯ ⋯ λw v2 w0 w1 hv2=>q w v2 w0 ⋯ (hv2.mono ⋯)
def GK (o:Option Nat)(Q:FV->Prop):wp (pB (nV o)) Q↔Q (.bl o.isSome):=by
 cases o<;>simp[nV]
def AX (c:Prop) [Decidable c] {s:Int}(h0:0<=s)(h1:s<9):0<=(if c then 1 else 0)*s/\(if c then 1 else 0)*s<=9/\(¬ c->(if c then 1 else 0)*s=0):=by
 by_cases h:c
 ·rw[if_pos h];exact⟨⋯,⋯,λz=>absurd h z⟩
 ·rw[if_neg h];exact⟨⋯,⋯,λ_=>⋯⟩
def Szp.perm {n:Nat}{ls:List (Option Nat)}{ps:List Prc}{T:Nat->Nat->Prop}{l:Nat}{cs cs':List qj}(h:Szp n ls ps T l cs)(hp:cs'.Perm cs):Szp n ls ps T l cs' :=
 ⟨λc hc=>h.c c (hp.mem_iff.mp hc),(hp.map _).nodup_iff.mpr h.k,λm a t e=>let ⟨c,hc,g⟩:=h.h m a t e;⟨c,hp.mem_iff.mpr hc,g⟩,by rw[hp.length_eq];exact h.l⟩
structure Pls (n:Nat)(ws:List Int)(cs:List qj)(ls:List (Option Nat))(ps:List Prc):Prop where
 le:n<=12
 r:∃ r,Rk ls r
 l:ls.length=n
 p:Pln ls 64 (· < n) ps
 w:Whs ls ps n ws
 s:Szp n ls ps (λm _=>m<n) (n*n) cs
def zx (d:Nat){N:Int}{v:FV}{n:Nat}(hs:Lf N v)(h0:0<=N)(hN:N<10000)(hn:n<=12){Q:FV×FV->Prop}(q:∀ ws cs ls ps v',Pls n ws cs ls ps->Lf (N+2000) v'->Q (.tup [pi ws cs,.tup (ls.map nV),.lst (ps.map oj)],v')):callW tb (d+4) 35 [v,.int n] Q:=by
 exact oq (fd:=IU) rfl rfl ?_
 simp[IU,JP]
 exact⟨(·),⟨⋯,by simp![big];lia⟩,n9 ⋯ ⋯,?_⟩
 rw[show jt n FV.non=(jt n (Φ:Option Nat)).map nV by simp[nV]]
 exact oO (I:=λk L=>∃ os v x,os.Perm (mm k)/\Lf (N+k) v/\L=[Ψ v,Ψ (.int n),Ψ (.lst ((jt n (Φ:Option Nat)).map nV)),Ψ (.lst (pE os)),x,Φ,Φ,Φ,Φ,Φ,Φ,Φ,Φ,Φ,Φ,Φ,Φ]) n 0 _ ⟨[],v,Φ,∅,by simpa using hs,rfl⟩ (λk L K _ hk hI hK=>?_) λL hI=>?_
 ·let(os,v,x,hp,hv,rfl):=hI
  let hol:=hp.length_eq
  simp at hol
  simp
  exact ot (d+1) hv ⋯ ⋯ ⋯ λu v' u0 u1 hv'=>?_
  simp
  exact⟨⟨u0,⋯,by simp[pE,big];lia⟩,hK _ ⟨sD os u.toNat k,v',Ψ (.int k),?_,hv'.mono (by push_cast;lia),by simp[pE,ins_map (λi:Nat=>FV.int i)]⟩⟩
  rw[iA]
  exact ((tK os _ k).trans (hp.cons k)).trans (aD k (mm k)).symm
 ·let(os,v,x,hp,hv,rfl):=hI
  rw[kR] at hp hv
  let hol:=hp.length_eq
  simp at hol
  let ndo:os.Nodup:=hp.nodup_iff.mpr gv
  let ltO:∀ a∈os,a<n:=λa ha=>jv.mp (hp.mem_iff.mp ha)
  let inO:∀ a,a<n->a∈os:=λa ha=>hp.mem_iff.mpr (jv.mpr ha)
  simp
  rw[show pO (uq 0 (pE os).length) (pE os)=(mm n).map λi:Nat=>FV.tup [.int (i:Int),.int ((os.getD i 0:Nat):Int)] by
   rw[pH]
   apply gG
   ·simp[pO,pE,hol]
   ·intro i g1 g2
    simp[pO,pE] at g1 ⊢
    rw[bo g1];rfl]
  rw[show jt n (nV Φ)=(jt n (Φ:Option Nat)).map nV by simp]
  exact pf (f:=λi:Nat=>FV.tup [.int (i:Int),.int ((os.getD i 0:Nat):Int)]) (I:=λdone L=>∃ ls v y z,Ord n os ls/\Lf (N+n+2*(done.length:Int)) v/\L=[Ψ v,Ψ (.int n),Ψ (.lst (ls.map nV)),Ψ (.lst (pE os)),x,y,z,Φ,Φ,Φ,Φ,Φ,Φ,Φ,Φ,Φ,Φ]) (mm n) (mm n) [] _ rfl ⟨_,v,Φ,Φ,⟨∅,λm a e=>by simp[bA] at e⟩,by simpa using hv,rfl⟩ (λdd i r L K e hI hK=>?_) λL hI=>?_
  ·let(ls,v,y,z,hO,hv,rfl):=hI
   let hi:i<n:=jv.mp (by rw[e];simp)
   let hd:dd.length<12:=by
    have:=congrArg lK e
    simp at this;lia
   let keep:∀ v',Lf (N+n+2*(dd.length:Int)+2) v'->K [Ψ v',Ψ (.int n),Ψ (.lst (ls.map nV)),Ψ (.lst (pE os)),x,Ψ (.int i),Ψ (.int ((os.getD i 0:Nat):Int)),Φ,Φ,Φ,Φ,Φ,Φ,Φ,Φ,Φ,Φ]:=λv' hv'=>hK _ ⟨ls,v',_,_,hO,hv'.mono (by simp;lia),rfl⟩
   obtain⟨p,hpi⟩:∃ p,os[i]?=Ψ p:=⟨_,bo ⋯⟩
   let at':∀ {k a:Nat},os[k]?=Ψ a->a<n/\os.idxOf a=k:=λ{k a} h=>by
    let(h1,rfl):=aR.mp h
    exact⟨ltO _ (gD _),ndo.idxOf_getElem _ h1⟩
   let hoi:os.getD i 0=p:=by rw[aF,hpi];rfl
   rw[hoi] at keep ⊢
   simp
   exact pq (λg1=>?_) λ_=>keep _ (hv.mono ⋯)
   exact ot (d+1) hv ⋯ ⋯ ⋯ λu v' u0 u1 hv'=>?_
   simp
   exact pq (λg2=>?_) λ_=>keep _ (hv'.mono ⋯)
   exact ot (d+1) hv' ⋯ ⋯ ⋯ λw v2 w0 w1 hv2=>?_
   obtain⟨j,rfl⟩:∃ j:Nat,w=j:=⟨w.toNat,⋯⟩
   let hj:j<i:=⋯
   obtain⟨o,hoj⟩:∃ o,os[j]?=Ψ o:=⟨_,bo ⋯⟩
   simp
   rw[p9 rfl (v:=nV (Ψ o)) (by rw[pE,fw,hoj];rfl)]
   rw[vd rfl (by rw[hO.1];exact (at' hpi).1),<- k7]
   exact hK _ ⟨ls.set p (Ψ o),v2,Ψ (.int i),Ψ (.int p),⟨by rw[iI];exact hO.1,λm a ha=>?_⟩,hv2.mono (by simp;lia),rfl⟩
   rw[fv] at ha
   split at ha
   ·rename_i em
    split at ha
    ·cases ha
     exact⟨(at' hoj).1,?_⟩
     rw[<- em,(at' hpi).2,(at' hoj).2];exact hj
    ·cases ha
   ·exact hO.2 m a ha
  ·let(ls,v,y,z,hO,hv,rfl):=hI
   rw[ft] at hv
   let hr:=hO.rk hp
   let hll:=hO.1
   simp
   exact⟨n9 ⋯ ⋯,?_⟩
   exact oO (I:=λk L=>∃ ps v x y z w u w3,Pln ls (2*k) (· < k) ps/\Lf (N+3*n+20*k) v/\L=[Ψ v,Ψ (.int n),Ψ (.lst (ls.map nV)),Ψ (.lst (pE os)),x,y,z,Ψ (.lst (ps.map oj)),w,u,w3,Φ,Φ,Φ,Φ,Φ,Φ]) n 0 _ ⟨[],v,_,_,_,Φ,Φ,Φ,⟨∅,∅,∅,∅,∅,⋯,∅,∅⟩,hv.mono (by simp;lia),rfl⟩ (λk L K _ hk hI hK=>?_) λL hI=>?_
   ·let(ps,v,x,y,z,w,u,w3,hP,hv,rfl):=hI
    simp
    exact⟨n9 ⋯ ⋯,by simp[pH,big];lia,?_⟩
    rw[pH]
    exact oP (f:=λi:Nat=>FV.int i) (g:=λi:Nat=>FV.int i) (p:=xO ls k) (mm n) [] (λo ho K N k1 k2=>?_) ?_
    ·let ho:=jv.mp ho
     simp
     exact GV (d+2) hr ⋯ ⋯ λl hl=>?_
     simp
     exact⟨LO l,?_⟩
     rw[FX]
     exact pq (λg=>k1 ?_) λg=>k2 ?_
     ·exact undB_iff.mpr ((hl k).mp (of_decide_eq_true g))
     ·exact fO.mpr λz=>g (decide_eq_true ((hl k).mpr (undB_iff.mp z)))
    ·let hB:∀ o,o∈(mm n).filter (xO ls k)↔o<ls.length/\Und ls k o:=λo=>by
      rw[iE,undB_iff,jv,hll]
     let lB:((mm n).filter (xO ls k)).length<=n:=by
      have:=cq (xO ls k) (mm n)
      simpa using this
     let uB:((mm n).filter (xO ls k)).Pairwise (· < ·):=List.Pairwise.filter _ bN
     simp
     generalize (mm n).filter (xO ls k)=B at hB lB uB ⊢
     exact⟨(·),(·),?_⟩
     let good:∀ S∈[[k],B],(rH ls).countP (ent S)=1/\S≠[]/\(∀ m∈S,m<ls.length)/\S.length<=12/\S.Pairwise (· < ·):=λS hS=>by
      rcases kj.mp hS with rfl|hS
      ·exact⟨zC hr ⋯,∅,λm hm=>by simp at hm;lia,∅,∅⟩
      ·simp at hS
       subst hS
       exact ⟨BK hr ⋯ hB,fun z=>(by have:=(hB k).mpr ⟨⋯,.refl⟩; rw [z] at this; cases this),fun m hm=>((hB m).mp hm).1,⋯,uB⟩
     exact pf (f:=encM) (I:=λdone L=>∃ ps v u w2,Pln ls (2*k+done.length) (λm=>m<k ∨ [m]∈done/\m=k) ps/\Lf (N+3*n+20*k+4*(done.length:Int)) v/\L=[Ψ v,Ψ (.int n),Ψ (.lst (ls.map nV)),Ψ (.lst (pE os)),x,y,Ψ (.int k),Ψ (.lst (ps.map oj)),Ψ (.lst (B.map λi:Nat=>FV.int i)),u,w2,Φ,Φ,Φ,Φ,Φ,Φ]) [[k],B] [[k],B] [] _ rfl ⟨ps,v,u,w3,hP.mono ∅ (λm hm=>.inl (by simpa using hm)),by simpa using hv,rfl⟩ (λdd S r L K2 e hI hK2=>?_) λL hI=>?_
     ·let(ps,v,u,w2,hP,hv,rfl):=hI
      let hd:dd.length<=1:=by
       have:=congrArg lK e
       simp at this; lia
      let(s1,s2,s3,s4,s5):=good S (by rw[e];simp)
      let hpl:=hP.len
      simp
      exact ot (d+1) hv ⋯ ⋯ ⋯ λu1 v1 a0 a1 hv1=>?_
      simp
      exact⟨(·),?_⟩
      exact ot (d+1) hv1 ⋯ ⋯ ⋯ λu2 v2 b0 b1 hv2=>?_
      simp
      exact⟨(·),?_⟩
      exact ot (d+1) hv2 ⋯ ⋯ ⋯ λu3 v3 c0 c1 hv3=>?_
      let hv3:=hv3.mono (m:=N+3*n+20*k+4*((dd++[S]).length:Int)) (by simp;lia)
      simp
      exact t8 c0 (by simpa using c1) λx hx=>?_
      obtain⟨p0,rfl,p1,p2⟩:∃ p0,x=FV.int p0/\0<=p0/\p0<=10000000:=by
       simp at hx
       rcases hx with rfl | rfl | rfl | rfl | rfl <;> exact ⟨_,rfl,⋯,⋯⟩
      rw[show ∀ Q:List FV->Prop,wp (qa (encM S)) Q↔Q (S.map λi:Nat=>FV.int i) from λ_=>m6]
      simp
      generalize hpe:(if p0<if (S.length:Int)=1 then 1 else 0 then if (S.length:Int)=1 then 1 else 0 else p0)=p
      let hp3:0<=p/\p<=10000000/\(S.length=1->1<=p):=by
       rw [<- hpe]
       by_cases c:(S.length:Int)=1
       ·simp only [if_pos c]
        split <;> lia
       ·simp only [if_neg c]
        split <;> lia
      let inT:∀ m,(m<k ∨ [m]∈dd++[S]/\m=k)->(m<k ∨ [m]∈dd/\m=k) ∨ S=[m]:=λm hm=>by
       rcases hm with hm | ⟨hm,e⟩
       ·exact .inl (.inl hm)
       ·rcases iF.mp hm with hm | hm
        ·exact .inl (.inr ⟨hm,e⟩)
        ·simp at hm; exact .inr hm.symm
      let stay:(∀ m,S=[m]->∃ q∈ps,q.S=[m])->K2 [Ψ v3,Ψ (.int n),Ψ (.lst (ls.map nV)),Ψ (.lst (pE os)),x,y,Ψ (.int k),Ψ (.lst (ps.map oj)),Ψ (.lst (B.map λi:Nat=>FV.int i)),Ψ (encM S),Ψ (.int p),Φ,Φ,Φ,Φ,Φ,Φ]:=λh=>hK2 _ ⟨ps,v3,_,_,hP.mono ∅ λm hm=>(inT m hm).imp id (h m),hv3,rfl⟩
      exact pq (λg=>?_) λg=>stay λm z=>by rw[z] at hp3;have:=hp3.2.2 rfl;lia
      exact⟨by simp![big];lia,?_⟩
      exact pC (f:=oj) (g:=λq=>encM q.S) ps [] (λq hq K k=>?_) ?_
      ·simp[oj]
       exact k
      ·rw[iD,show (ps.map λq=>encM q.S)=(ps.map (·.S)).map encM by rw[k9];rfl,codM.inL]
       exact pq (fun g2=>?_) fun g2=>?_
       ·obtain ⟨q,g3,g4⟩:=k6.mp (of_decide_eq_true g2)
        exact stay fun m z=>⟨q,g3,g4.trans z⟩
       ·simp
        exact ⟨(·),by simp only [big]; lia,hK2 _ ⟨ps++[⟨S,p,0⟩],v3,Ψ (encM S),Ψ (.int p),(hP.add s1 s2 s3 ⟨g,hp3.2.1⟩ s5 fun z=>g2 (decide_eq_true z)).mono (by simp; lia) fun m hm=>.inl (inT m hm),hv3,?_⟩⟩
        simp [oj,encM]
     ·let(ps,v,u,w2,hP,hv,rfl):=hI
      exact hK _ ⟨ps,v,_,_,_,_,_,_,hP.mono (by simp;lia) λm hm=>.inl ?_,hv.mono (by simp;lia),rfl⟩
      by_cases c:m=k
      ·subst c;exact .inr ⟨∅,rfl⟩
      ·exact .inl ⋯
   ·let(ps,v,x,y,z,w,u,w3,hP,hv,rfl):=hI
    rw[kR] at hP hv
    let hpl:=hP.len
    let dl:∀ e,due ps e<=240000000:=λe=>by have:=xy hP.pos e;lia
    let dnn:∀ e,0<=due ps e:=zV λq hq=>(hP.pos q hq).1
    let hpb:∀ q∈ps,0<=q.p/\q.p<=100000000000:=λq hq=>by have:=hP.pos q hq;lia
    simp
    exact⟨(·),n9 ⋯ ⋯,?_⟩
    exact oO (I:=λb L=>∃ ws cs v w4 w5 w6 w7,Whs ls ps b ws/\Szp n ls ps (λm _=>m<b) (b*n) cs/\Lf (N+23*n+50*b) v/\L=[Ψ v,Ψ (.int n),Ψ (.lst (ls.map nV)),Ψ (.lst (pE os)),x,y,z,Ψ (.lst (ps.map oj)),w,u,w3,Ψ (.lst (ws.map .int)),Ψ (.lst (cs.map qc)),w4,w5,w6,w7]) n 0 _ ⟨[],[],v,Φ,Φ,Φ,Φ,⟨rfl,∅⟩,⟨∅,∅,∅,∅⟩,hv.mono (by simp;lia),rfl⟩ (λb L K _ hb hI hK=>?_) λL hI=>?_
    ·let(ws,cs,v,w4,w5,w6,w7,hW,hS,hv,rfl):=hI
     let hbl:b<ls.length:=⋯
     let hwl:=hW.l
     let hcl:=hS.l
     let hbn:b*n<=12*12:=jq ⋯ hn
     simp
     exact⟨(·),?_⟩
     exact AA (d+1) hv ⋯ λs v s0 s1 hv=>?_
     simp
     exact uA (ps:=ps) (d+2) (Φ,b) ⋯ hpb ?_
     simp
     rw[sL hbl]
     rw[GK]
     simp
     let(t0,t1,t2):=AX ((ls.getD b Φ).isSome=Ω) s0 s1
     rw[aF] at t0 t1 t2
     generalize (if (ls[b]?.getD Φ).isSome=Ω then (1:Int) else 0)=f at t0 t1 t2 ⊢
     exact⟨.inr (qF ⋯ ⋯),by simp![big];lia,n9 ⋯ ⋯,?_⟩
     let hW':Whs ls ps (b+1) (ws++[due ps (Φ,b)+f*s]):=hW.add ⋯ ⋯ λz=>by
      rw[aF] at z
      have:=t2 (by rw[z];simp)
      lia
     rw[show ws.map FV.int++[FV.int (due ps (Φ,b)+f*s)]=(ws++[due ps (Φ,b)+f*s]).map .int by simp]
     exact oO (I:=λj L=>∃ cs v w5 w6 w7,Szp n ls ps (λm x=>m<b ∨ m=b/\x<j) (b*n+j) cs/\Lf (N+23*n+50*b+2+3*j) v/\L=[Ψ v,Ψ (.int n),Ψ (.lst (ls.map nV)),Ψ (.lst (pE os)),x,y,z,Ψ (.lst (ps.map oj)),w,u,w3,Ψ (.lst ((ws++[due ps (Φ,b)+f*s]).map .int)),Ψ (.lst (cs.map qc)),Ψ (.int b),w5,w6,w7]) n 0 _ ⟨cs,v,Ψ (.int s),w6,w7,hS.mono (λm a h=>.inl h) (λm a h=>.inl ⋯) ⋯,hv.mono ∅,rfl⟩ (λa L K2 _ ha hI hK2=>?_) λL hI=>?_
     ·let(cs,v,w5,w6,w7,hS,hv,rfl):=hI
      let hcl:=hS.l
      simp
      exact⟨(·),?_⟩
      exact AA (d+1) hv ⋯ λs2 v s3 s4 hv=>?_
      simp
      exact uA (ps:=ps) (d+2) (Ψ a,b) ⋯ hpb ?_
      simp
      rw[sL hbl,show sJ (nV (ls.getD b Φ)) (FV.int (a:Int))=sJ (nV (ls.getD b Φ)) (nV (Ψ a)) from rfl,codL.eq]
      exact⟨.inr (qF ⋯ ⋯),?_⟩
      let(p0,p1,p2):=AX (Δ (ls.getD b Φ=Ψ a)=Ξ) s3 s4
      generalize hg:due ps (Ψ a,b)+(if Δ (ls.getD b Φ=Ψ a)=Ξ then 1 else 0)*s2=t
      let q0:due ps (Ψ a,b)<=t:=⋯
      let q1:t<=due ps (Ψ a,b)+9:=⋯
      let q2:ls.getD b Φ=Ψ a->t=due ps (Ψ a,b):=λz=>by
       have:=p2 (by simpa using z)
       lia
      let stay:∀ v',Lf (N+23*n+50*b+2+3*a+3) v'->ls.getD b Φ≠Ψ a->K2 [Ψ v',Ψ (.int n),Ψ (.lst (ls.map nV)),Ψ (.lst (pE os)),x,y,z,Ψ (.lst (ps.map oj)),w,u,w3,Ψ (.lst (ws.map .int++[FV.int (due ps (Φ,b)+f*s)])),Ψ (.lst (cs.map qc)),Ψ (.int b),Ψ (.int s2),Ψ (.int a),Ψ (.int t)]:=λv' hv' hne=>hK2 _ ⟨cs,v',Ψ (.int s2),Ψ (.int a),Ψ (.int t),hS.mono (λm x h=>⋯) (λm x h=>?_) ⋯,hv'.mono (by push_cast;lia),∅⟩
      ·let put:∀ v',Lf (N+23*n+50*b+2+3*a+3) v'->a≠b->0<t->K2 [Ψ v',Ψ (.int n),Ψ (.lst (ls.map nV)),Ψ (.lst (pE os)),x,y,z,Ψ (.lst (ps.map oj)),w,u,w3,Ψ (.lst (ws.map .int++[FV.int (due ps (Φ,b)+f*s)])),Ψ (.lst (cs.map qc++[FV.tup [.int a,.int b,.int t]])),Ψ (.int b),Ψ (.int s2),Ψ (.int a),Ψ (.int t)]:=λv' hv' hne h0=>hK2 _ ⟨cs++[(a,b,t)],v',Ψ (.int s2),Ψ (.int a),Ψ (.int t),(hS.add (a:=a) (b:=b) (s:=t) ⋯ ⋯ ⋯ hne h0 q0 q1 q2).mono (λm x h=>⋯) (λm x h=>.inl ⋯) ⋯,hv'.mono (by push_cast;lia),by simp[qc]⟩
       exact pq (fun g=>stay v (hv.mono ⋯) fun z=>?_) fun g=>?_
       ·have:=(hr.on b a hbl z).2
        rw [show a=b by lia] at this; lia
       ·let hab:a≠b:=fun z=>g (by rw [z])
        exact pq (fun g0=>?_) fun g0=>stay v (hv.mono ⋯) fun z=>?_
        ·rw [sL hbl,show sJ (nV (ls.getD b Φ)) (FV.int (a:Int))=sJ (nV (ls.getD b Φ)) (nV (Ψ a)) from rfl,codL.eq]
         exact pq (fun g1=>⟨(·),by simp only [big]; lia,put v (hv.mono ⋯) hab g0⟩) fun g1=>?_
         exact ot (d + 1) hv ⋯ ⋯ ⋯ fun u1 v1 c0 c1 hv1=>?_
         simp
         refine pq (fun g2=>⟨(·),by simp only [big]; lia,put v1 (hv1.mono ⋯) hab g0⟩) fun g2=>stay v1 (hv1.mono ⋯) fun z=>g1 (by simpa using z)
        ·have:=hP.due (e:=(Ψ a,b)) ⋯ (fun z=>hab (ip z))
         lia
      ·by_cases c:m<b ∨ m=b/\x<a
       ·exact .inl c
       ·let c1:m=b:=by lia
        let c2:x=a:=⋯
        rw [c1,c2]; exact .inr hne
     ·let(cs,v,w5,w6,w7,hS,hv,rfl):=hI
      rw[kR] at hS hv
      exact hK _ ⟨_,cs,v,_,_,_,_,hW',hS.mono (λm a h=>⋯) (λm a h=>?_) (by rw[kT];lia),hv.mono (by push_cast;lia),rfl⟩
      by_cases c:ls.getD m Φ=Ψ a
      ·by_cases c2:m=b
       ·exact .inl (.inr ⟨c2,by have:=(hr.on m a ⋯ c).1; lia⟩)
       ·exact .inl (.inl ⋯)
      ·exact .inr c
    ·let(ws,cs,v,w4,w5,w6,w7,hW,hS,hv,rfl):=hI
     rw[kR] at hW hS hv
     simp
     let hcl:=hS.l
     let hbn:n*n<=12*12:=jq hn hn
     exact⟨zd _,⋯,λys hy=>⟨(·),(·),?_⟩⟩
     let(cs2,h2,rfl):=tz hy _ rfl
     exact q ws cs2 ls ps v ⟨hn,⟨_,hr⟩,hll,hP.mono ⋯ λm hm=>.inl hm,hW,hS.perm h2⟩ (hv.mono ⋯)
abbrev zg (ws:List Int)(cs:List qj)(e:oz):Int:=match e.1 with
 | none=>ws.getD e.2 0
 | some a=>((cs.find? λc=>Δ (c.1=a/\c.2.1=e.2)).map λc=>c.2.2).getD 0
def CF {ws:List Int}{cs:List qj}(hk:(cs.map λc=>(c.1,c.2.1)).Nodup){c:qj}(hc:c∈cs):zg ws cs (Ψ c.1,c.2.1)=c.2.2:=by
 show ((cs.find? λx=>Δ (x.1=c.1/\x.2.1=c.2.1)).map λc=>c.2.2).getD 0=c.2.2
 induction cs with
 | nil=>cases hc
 | cons x r ih =>
  simp![kn,iC] at hk
  by_cases z:x.1=c.1/\x.2.1=c.2.1
  ·rw[List.find?_cons_of_pos (by simpa using z)]
   rcases kj.mp hc with rfl|hc
   ·rfl
   ·exact absurd (k6.mpr ⟨c,hc,by rw[z.1,z.2]⟩) hk.1
  ·rw[List.find?_cons_of_neg (by simpa using z)]
   rcases kj.mp hc with rfl|hc
   ·exact absurd ⟨rfl,rfl⟩ z
   ·exact ih hk.2 hc
def Pls.sto {n:Nat}{ws:List Int}{cs:List qj}{ls:List (Option Nat)}{ps:List Prc}(h:Pls n ws cs ls ps):Sto ws cs (zg ws cs)/\Lyg ws cs ls/\(∀ e∈qh ws.length cs,due ps e<=zg ws cs e)/\∀ e∈rH ls,zg ws cs e=due ps e:=by
 let(r,hr):=h.r
 let hn:=h.le
 let hl:=h.l
 let hwl:=h.w.l
 let hpl:=h.p.len
 let hcl:=h.s.l
 let hnn:n*n<=12*12:=jq hn hn
 let dl:∀ e,due ps e<=640000000:=λe=>by have:=xy h.p.pos e;lia
 let hw:∀ m (g:m<ws.length),zg ws cs (Φ,m)=ws[m]:=λm g=>by
  show ws.getD m 0=_
  simp[g]
 let hc:=λc hc=>CF (ws:=ws) h.s.k (c:=c) hc
 let ww:∀ m (g:m<ws.length),due ps (Φ,m)<=zg ws cs (Φ,m)/\zg ws cs (Φ,m)<=due ps (Φ,m)+9/\(ls.getD m Φ=Φ->zg ws cs (Φ,m)=due ps (Φ,m)):=λm g=>by
  rw[hw m g];exact h.w.w m _ (bo g)
 exact⟨⟨⋯,⋯,hw,hc,λc g=>?_,h.s.k,λe he=>?_⟩,⟨⋯,h.r,λe he=>?_⟩,λe he=>?_,λe he=>?_⟩
 ·have:=h.s.c c g
  rw[hwl];exact⟨this.2.1,this.2.2.1,this.2.2.2.1⟩
 ·rcases iF.mp he with he|he
  ·let(m,hm,rfl):=k6.mp he
   let hm:=jv.mp hm
   let h1:=ww m hm
   let h2:=h.p.due (e:=(Φ,m)) ⋯ (λz=>nomatch z)
   have:=dl (Φ,m)
   lia
  ·let(c,g,rfl):=k6.mp he
   rw[hc c g]
   have:=(h.s.c c g).2.2.2.2
   have:=dl (Ψ c.1,c.2.1)
   lia
 ·let(h1,h2):=mem_ens.mp he
  let(on,m):=e
  cases on with
  | none=>exact cK _ (k6.mpr ⟨m,jv.mpr (by rw[hwl,<- hl];exact h1),rfl⟩)
  | some a =>
   let(c,g,e1,e2):=h.s.h m a (by rw[<- hl];exact h1) h2
   exact cm _ (k6.mpr ⟨c,g,by rw[e1,e2]⟩)
 ·rcases iF.mp he with he|he
  ·let(m,hm,rfl):=k6.mp he
   exact (ww m (jv.mp hm)).1
  ·let(c,g,rfl):=k6.mp he
   rw[hc c g];exact (h.s.c c g).2.2.2.2.2.1
 ·let(h1,h2):=mem_ens.mp he
  let(on,m):=e
  cases on with
  | none=>exact (ww m (by rw[hwl,<- hl];exact h1)).2.2 h2
  | some a =>
   let(c,g,e1,e2):=h.s.h m a (by rw[<- hl];exact h1) h2
   have:=(h.s.c c g).2.2.2.2.2.2.2 (by rw[e1,e2];exact h2)
   rw[<- hc c g,e1,e2] at this
   exact this
def AC (d:Nat){N:Int}{v:FV}(hs:Lf N v)(hN:N<900000){Q:FV×FV->Prop}(q:∀ (n:Nat) v',n<=12->Lf (N+2) v'->Q (.int n,v')):callW tb (d+3) 25 [v,.int 12] Q:=by
 exact oq (fd:=Jb) rfl rfl ?_
 simp[Jb,JV]
 exact ot d hs ⋯ ⋯ ⋯ λu v' u0 u1 hv'=>?_
 simp
 exact pq (λg=>?_) λg=>?_
 ·exact ot d hv' ⋯ ⋯ ⋯ λw v2 w0 w1 hv2=>?_
  simp
  have:=q (7+w).toNat v2 ⋯ (hv2.mono ⋯)
  rwa [show (((7+w).toNat:Nat):Int)=7+w by lia] at this
 ·exact⟨(·),?_⟩
  exact ot d hv' ⋯ ⋯ ⋯ λw v2 w0 w1 hv2=>?_
  simp
  exact t8 w0 (by simpa using w1) λx hx=>?_
  obtain⟨n,rfl,hn⟩:∃ n:Nat,x=.int n/\n<=12:=by
   simp at hx
   rcases hx with rfl|rfl|rfl|rfl|rfl|rfl|rfl|rfl|rfl|rfl
   ·exact⟨0,rfl,⋯⟩
   ·exact⟨1,rfl,⋯⟩
   ·exact⟨2,rfl,⋯⟩
   ·exact⟨3,rfl,⋯⟩
   ·exact⟨4,rfl,⋯⟩
   ·exact⟨5,rfl,⋯⟩
   ·exact⟨6,rfl,⋯⟩
   ·exact⟨4,rfl,⋯⟩
   ·exact⟨5,rfl,⋯⟩
   ·exact⟨3,rfl,⋯⟩
  exact q n v2 hn (hv2.mono ⋯)
def Dw (d:Nat)(ns:List Int) (k:Nat){Q:FV×FV->Prop}(q:∀ v y,Lf 0 v->Q (v,y)):callW tb (d+1) 21 [.lst (ns.map .int),.int k] Q:=by
 exact oq (fd:=Je) rfl rfl ?_
 let h1:pR 1000003=Ω:=(·)
 let h2:pR 0=Ω:=(·)
 let h4:pR 10=Ω:=(·)
 let h5:∀ r:Bool,pR (if r=Ω then 1 else 0)=Ω:=by intro r;cases r<;>decide
 simp[Je,JY]
 split
 ·rename_i hk
  rw[p9 rfl (show (ns.map FV.int)[k]?=Ψ (.int ns[k]) by simp[hk])]
  simp[h1,h4,h5,big]
  exact⟨.inr (by by_cases hh:1000000000000000000<=(if ns[k]<0 then -ns[k] else ns[k])<;>simp![hh,if_true,if_false]<;>decide),q _ _ ⟨_,_,_,rfl,⋯,⋯⟩⟩
 ·simp[h1,h2,h4,big]
  exact q _ _ ⟨_,_,_,rfl,⋯,⋯⟩
def Sto.bdw {ws:List Int}{cs:List qj}{sz:oz->Int}(h:Sto ws cs sz){x:Int}(hx:x∈ws):0<x/\x<=2000000000:=by
 let(m,hm,rfl):=cI.mp hx
 rw[<- h.w m hm]
 exact h.p _ (cK _ (k6.mpr ⟨m,jv.mpr hm,rfl⟩))
def Sto.bdc {ws:List Int}{cs:List qj}{sz:oz->Int}(h:Sto ws cs sz){c:qj}(hc:c∈cs):0<c.2.2/\c.2.2<=2000000000:=by
 rw[<- h.c c hc]
 exact h.p _ (cm _ (k6.mpr ⟨c,hc,rfl⟩))
def Pls.bd {n:Nat}{ws:List Int}{cs:List qj}{ls:List (Option Nat)}{ps:List Prc}(h:Pls n ws cs ls ps):∀ e∈qh ws.length cs,zg ws cs e<=1000000000:=λe he=>by
 let hn:=h.le
 let hpl:=h.p.len
 let dl:=xy h.p.pos e
 let hwl:=h.w.l
 rcases iF.mp he with he|he
 ·let(m,hm,rfl):=k6.mp he
  let hm:=jv.mp hm
  have:=h.w.w m _ (bo hm)
  rw[show zg ws cs (Φ,m)=ws[m] by show ws.getD m 0=_;simp[hm]]
  lia
 ·let(c,g,rfl):=k6.mp he
  rw[CF h.s.k g]
  have:=(h.s.c c g).2.2.2.2
  lia
abbrev Bhd (os:List Nat)(ls:List (Option Nat)):Prop:=∀ m a:Nat,ls[m]?=Ψ (Ψ a)->∃ i j:Nat,i<j/\os[i]?=Ψ a/\os[j]?=Ψ m
def DL (m:Int)(ks:List Int)(R:Bool->Prop):wp (vF (.int m) (.lst (ks.map .int))) R↔R (Δ (m∈ks)):=by
 let h:FV.lst (ks.map .int)=dF (.lst (ks.map .int)):=by show _=FV.lst (dFs _);rw[tU,k9];rfl
 let hd:∀ xs:List Int,deps (xs.map D.int)=0:=λxs=>by induction xs with|nil=>rfl|cons x r ih=>exact (by show max 0 _=0;rw[ih];rfl)
 let e:vF (.int m) (.lst (ks.map .int))=Ψ (Δ (m∈ks)):=by
  unfold vF
  rw[h,show FV.int m=dF (.int m) from rfl,wn (.int m) oJ (show 0<oJ by decide),wn _ oJ (by show deps _+1<_;rw[hd];decide)]
  show Ψ (List.any _ _)=Ψ _
  congr 1
  clear h
  induction ks with
  | nil=>simp
  | cons x r ih =>
   simp![kn,kr,D.eqv_int,ih,kj]
   rw[iW];simp;constructor<;>(rintro (h|h)<;>first|exact .inl h.symm|exact .inr h)
 rw[e];exact m6
def Jq (as:List Int)(R:Bool->Prop):wp (sJ (.lst (as.map .int)) (.lst [])) R↔R as.isEmpty:=by
 let h:FV.lst (as.map .int)=dF (.lst (as.map .int)):=by show _=FV.lst (dFs _);rw[tU,k9];rfl
 let hd:∀ xs:List Int,deps (xs.map D.int)=0:=λxs=>by induction xs with|nil=>rfl|cons x r ih=>exact (by show max 0 _=0;rw[ih];rfl)
 rw[h,show FV.lst []=dF (.lst []) from rfl,GP (by show deps _+1<_;rw[hd];decide) (·)]
 cases as with
 | nil=>exact m6
 | cons x r=>exact m6
def JK {os:List Nat}{ls:List (Option Nat)}(hp:os.Perm (mm ls.length))(h:Bhd os ls):Rk ls os.idxOf:=by
 let nd:os.Nodup:=hp.nodup_iff.mpr gv
 let ix:∀ (i a:Nat),os[i]?=Ψ a->os.idxOf a=i:=λi a e=>by
  let(hi,e):=aR.mp e
  rw[<- e];exact List.Nodup.idxOf_getElem nd i hi
 exact⟨λm hm=>?_,λm a hm e=>?_⟩
 ·have:=ax (hp.mem_iff.mpr (jv.mpr hm))
  rwa [hp.length_eq,ft] at this
 ·rw[aF] at e
  let(i,j,hij,h1,h2):=h m a (by
   rw[bo hm] at e ⊢
   exact congrArg Ψ e)
  rw[ix i a h1,ix j m h2]
  exact⟨jv.mp (hp.mem_iff.mp (cH h1)),hij⟩
def Ei (d:Nat){n:Int}{v:FV}{ws:List Int}{cs:List qj}{Q:FV×FV->Prop}(h:Gs ws cs)(hs:Lf n v)(h0:0<=n)(hn:n<10000)(q:∀ (ls:List (Option Nat)) v',ls.length=ws.length->Sm cs ls->(∃ r,Rk ls r)->Lf (n+40) v'->Q (.tup (ls.map nV),v')):callW tb (d+3) 27 [v,pi ws cs] Q:=by
 let hw:=h.n
 let hcl:=h.l
 exact oq (fd:=IZ) rfl rfl ?_
 simp[IZ,JT,qA,big]
 exact⟨n9 ⋯ ⋯,?_⟩
 exact oO (I:=λk L=>∃ v' x,∃ os:List Nat,L=[Ψ v',Ψ (pi ws cs),Ψ (.int ws.length),Ψ (.lst (os.map λi:Nat=>.int i)),x,Φ,Φ,Φ,Φ]/\os.Perm (mm k)/\Lf (n+k) v') ws.length 0 _ ⟨v,_,[],rfl,∅,hs.mono ⋯⟩ ?_ ?_
 ·rintro k L K-hk ⟨v',x,os,rfl,hp,lf⟩ kk
  simp
  exact ot (d) lf ⋯ ⋯ ⋯ λu v1 u0 u1 l1=>?_
  let hol:os.length<=12:=by rw[hp.length_eq,ft];lia
  simp[big]
  let a1:u<4611686018427387904:=⋯
  let a2:os.length<100000:=⋯
  exact And.intro (And.intro u0 (And.intro a1 a2)) ?_
  generalize hu:u.toNat=ut
  apply kk
  exact⟨v1,Ψ (.int k),sD os ut k,?_,?_,l1.mono ⋯⟩
  ·rw[ins_map (λi:Nat=>FV.int i)]
  ·rw[iA]
   exact (tK os ut k).trans ((hp.cons k).trans (cj (l₁:=[k])))
 ·intro L hL
  let(v1,hL):=hL
  let(x,hL):=hL
  let(os,hL):=hL
  let hp:=hL.2.1
  let lf:=hL.2.2
  let eL:=hL.1
  clear hL
  subst eL
  rw[kR] at hp lf
  let hol:os.length=ws.length:=by rw[hp.length_eq,ft]
  simp
  exact⟨⟨⋯,by simp![big];lia⟩,?_⟩
  let e0:pO (uq 0 os.length) (os.map λi:Nat=>FV.int i)=((mm os.length).zip os).map λp:Nat×Nat=>FV.tup [.int p.1,.int p.2]:=by rw[pH,tD]
  let e1:jt ws.length FV.non=(jt ws.length (Φ:Option Nat)).map nV:=by simp[nV]
  rw[e0,e1]
  let nd:os.Nodup:=hp.nodup_iff.mpr gv
  exact pf (f:=λp:Nat×Nat=>FV.tup [.int p.1,.int p.2]) (I:=λe L=>∃ v' a b c,∃ ls:List (Option Nat),L=[Ψ v',Ψ (pi ws cs),Ψ (.int ws.length),Ψ (.lst (os.map λi:Nat=>FV.int i)),x,Ψ (.lst (ls.map nV)),a,b,c]/\(ls.length=ws.length/\Sm cs ls/\Bhd os ls)/\Lf (n+12+2*e.length) v') ((mm os.length).zip os) ((mm os.length).zip os) [] _ rfl ⟨v1,_,_,_,_,rfl,⟨∅,?_,?_⟩,lf.mono (by simp;lia)⟩ ?_ ?_
  ·intro m a e
   simp[bA] at e
  ·intro m a e
   simp[bA] at e
  ·rintro e ⟨at',m⟩ r L K ez ⟨v2,a,b,c,ls,eL,⟨hl,hr,hb⟩,lf⟩ k
   subst eL
   let hm:(at',m)∈(mm os.length).zip os:=by rw[ez];simp
   let hel:e.length<os.length:=by have:=congrArg lK ez;simp at this;lia
   let hat:os[at']?=Ψ m:=by
    let(j,hj):=ck.mp hm
    let(h1,h2):=aQ.mp hj
    let hi:at'=j:=by have:=(aR.mp h1).2;simpa using this.symm
    rw[hi];exact h2
   let hmw:m<ws.length:=by
    have:m∈os:=cH hat
    exact jv.mp (hp.mem_iff.mp this)
   simp[qA]
   exact⟨by simp[big];lia,?_⟩
   exact oP (f:=qc) (g:=λc=>.int c.1) (p:=λc=>Δ (c.2.1=m) && Δ (c.1∈os.take at')) cs [] (λc hc K N y n'=>?_) ?_
   ·let em:((c.2.1:Int) == (m:Int))=Δ (c.2.1=m):=by rw[iW,beq_iff_eq,decide_eq_true_eq];lia
    let ei:((c.1:Int)∈(os.take at').map λi:Nat=>(i:Int))↔c.1∈os.take at':=by
     rw[k6]
     exact⟨λ⟨x,hx,e⟩=>(show x=c.1 by lia) ▸ hx,λhx=>⟨_,hx,rfl⟩⟩
    let ec:qi (os.map λi:Nat=>FV.int i) Φ (Ψ (at':Int))=((os.take at').map λi:Nat=>(i:Int)).map .int:=by
     rw[D6,k9,<- kl];rfl
    simp[qc]
    exact pq (λh1=>?_) (λh1=>?_)
    ·let h1':c.2.1=m:=by lia
     rw[ec,DL]
     simp![ei]
     exact pq (λh2=>?_) (λh2=>?_)
     ·exact y (by simpa[h1'] using h2)
     ·exact n' (by simpa[h1'] using h2)
    ·exact n' (by simp;intro z;lia)
   ·let eas:(cs.filter λc=>Δ (c.2.1=m) && Δ (c.1∈os.take at')).map (λc=>FV.int (c.1:Int))=((cs.filter λc=>Δ (c.2.1=m) && Δ (c.1∈os.take at')).map λc=>(c.1:Int)).map .int:=by simp
    let hsome:∀ i∈(cs.filter λc=>Δ (c.2.1=m) && Δ (c.1∈os.take at')).map (λc=>(c.1:Int)),∃ a:Nat,i=a/\[(a:Int),(m:Int)]∈cs.map keyH/\∃ i j:Nat,i<j/\os[i]?=Ψ a/\os[j]?=Ψ m:=by
     intro i hi
     let(c,hc,rfl):=k6.mp hi
     let(hc,hp'):=iE.mp hc
     simp![gR,decide_eq_true_eq] at hp'
     exact⟨c.1,rfl,k6.mpr ⟨c,hc,by rw[<- hp'.1];rfl⟩,?_⟩
     let(j,hj):=ck.mp hp'.2
     rw[dQ] at hj
     split at hj
     ·rename_i hlt;exact⟨j,at',hlt,hj,hat⟩
     ·cases hj
    let hlen:((cs.filter λc=>Δ (c.2.1=m) && Δ (c.1∈os.take at')).map λc=>(c.1:Int)).length<=144:=by
     rw[iK]
     have:=cq (λc:qj=>Δ (c.2.1=m) && Δ (c.1∈os.take at')) cs
     lia
    rw[iD,eas]
    generalize ((cs.filter λc=>Δ (c.2.1=m) && Δ (c.1∈os.take at')).map λc=>(c.1:Int))=as at hsome hlen
    let on:∀ v',Lf (n+12+2*e.length+2) v'->K [Ψ v',Ψ (pi ws cs),Ψ (.int ws.length),Ψ (.lst (os.map λi:Nat=>FV.int i)),x,Ψ (.lst (ls.map nV)),Ψ (.int at'),Ψ (.int m),Ψ (.lst (as.map .int))]:=λv' l=>k _ ⟨v',_,_,_,ls,rfl,⟨hl,hr,hb⟩,l.mono (by simp;lia)⟩
    simp[Jq]
    exact pq (λhne=>?_) (λhne=>?_)
    ·exact on v2 (lf.mono ⋯)
    ·exact ot d lf ⋯ (·) (·) λu v3 u0 u1 l3=>?_
     simp
     exact pq (λhu=>?_) (λhu=>on v3 (l3.mono ⋯))
     let hpos:0<as.length:=by
      cases as with
      | nil=>exact absurd rfl hne
      | cons y r=>simp
     exact ot d l3 ⋯ ⋯ ⋯ λw v4 w0 w1 l4=>?_
     simp
     exact t8 w0 (by simpa using w1) ?_
     intro f hf
     let(i,hi,rfl):=k6.mp hf
     let(a,rfl,ha,hbh):=hsome i hi
     let ex:ixN ls.length (m:Int)=Ψ m:=by
      unfold ixN
      rw[if_pos ⋯,if_pos ⋯,fG]
     rw[ex,pA]
     exact k _ ⟨v4,_,_,_,ls.set m (Ψ a),by rw[k7];rfl,⟨by simp[hl],?_,?_⟩,l4.mono (by simp;lia)⟩
     ·intro m' a' e'
      rw[fv] at e'
      split at e'
      ·rename_i hmm;subst hmm
       split at e'
       ·cases e'; exact ha
       ·cases e'
      ·exact hr m' a' e'
     ·intro m' a' e'
      rw[fv] at e'
      split at e'
      ·rename_i hmm;subst hmm
       split at e'
       ·cases e'; exact hbh
       ·cases e'
      ·exact hb m' a' e'
  ·rintro L ⟨v2,a,b,c,ls,eL,⟨hl,hr,hb⟩,lf⟩
   subst eL
   have:=q ls v2 hl hr ⟨_,JK (by rw[hl];exact hp) hb⟩ (lf.mono (by simp;lia))
   simpa using this
def GsB.sto {ws:List Int}{cs:List qj}(h:GsB 1000000100 ws cs):Sto ws cs (zg ws cs):=by
 let hw:∀ m (g:m<ws.length),zg ws cs (Φ,m)=ws[m]:=λm g=>by
  show ws.getD m 0=_
  simp[g]
 let hc:=λc hc=>CF (ws:=ws) h.d (c:=c) hc
 exact⟨h.n,h.l,hw,hc,λc g=>?_,h.d,λe he=>?_⟩
 ·have:=h.c c g;exact⟨this.1,this.2.1,this.2.2.1⟩
 ·rcases iF.mp he with he|he
  ·let(m,hm,rfl):=k6.mp he
   let hm:=jv.mp hm
   rw[hw m hm]
   have:=h.w _ (gD hm)
   lia
  ·let(c,g,rfl):=k6.mp he
   rw[hc c g]
   have:=h.c c g
   lia
def Vl.tup3 {k1 k2 k3 p:Nat}{x y z:FV}(hx:Vl k1 p x)(hy:Vl k2 p y)(hz:Vl k3 p z):Vl (k1+k2+k3+3) (p+1) (.tup [x,y,z]):=by
 let(d1,rfl,a1,a2,a3):=hx
 let(d2,rfl,b1,b2,b3):=hy
 let(d3,rfl,c1,c2,c3):=hz
 exact⟨.tup [d1,d2,d3],rfl,by show max (yM _) (max (yM _) (max (yM _) 0))+1<=_;lia,by show (_ && (_ && (_ && Ω)))=Ω;rw[a2,b2,c2];rfl,?_⟩
 simp![D.wt,D.wts];lia
def LS {ls:List (Option Nat)}{n:Nat}(hl:ls.length<=12)(h:∀ a,Ψ a∈ls->a<12):Vl 504 1 (.tup (ls.map nV)):=by
 exact (Vl.tup (k:=41) (p:=0) (m:=12) (λx hx=>?_) (by simpa using hl)).mono (·) (·)
 let(o,ho,rfl):=k6.mp hx
 cases o with
 | none=>exact Vl.non.mono (·) (·)
 | some a=>have:=h a ho;exact Vl.int ⋯ ⋯
abbrev KD (q:Prc):D:=.tup [.tup (q.S.map λi:Nat=>.int i),.int q.p]
def yP {α:Type}{f:α->D}{g:α->FV}(h:∀ x,dF (f x)=g x)(l:List α):dFs (l.map f)=l.map g:=by
 rw[tU,k9]
 exact c8 λx _=>h x
def DR (d:Nat)(ns:List Int){Q:FV×FV->Prop}(q:∀ ms:List Int,ms.length<=5->Q (.lst (ms.map .int),.non)):callW tb (d+1) 23 [.scr ns,.int 5] Q:=by
 exact oq (fd:=Jd) rfl rfl ?_
 simp[Jd,JX]
 rw[show ∀ Q:List FV->Prop,wp (pX (.scr ns)) Q↔Q (ns.map .int) from λ_=>m6,show ∀ Q:List FV->Prop,wp (pX (.scr ns)) Q↔Q (ns.map .int) from λ_=>m6]
 let c6:qi ns Φ (Ψ 5)=ns.take 5:=(show qi ns Φ (Ψ 5)=qi ns (Ψ (0:Nat)) (Ψ (5:Nat)) by simp[qi,sIx]).trans (xC ns (i:=0) (j:=5) ⋯)
 rw[xD,xD,show qi ns (Ψ 5) (Ψ 63)=(ns.drop 5).take 58 from xC ns (i:=5) (j:=63) ⋯,c6,iK]
 rw[show pO (uq 0 ((ns.drop 5).take 58).length) (((ns.drop 5).take 58).map FV.int)=((mm ((ns.drop 5).take 58).length).zip ((ns.drop 5).take 58)).map λp:Nat×Int=>FV.tup [.int p.1,.int p.2] by rw[pH,tD]]
 exact pf (f:=λp:Nat×Int=>FV.tup [.int p.1,.int p.2]) (I:=λ_ L=>∃ (ms:List Int)(x y:Option FV),ms.length=(ns.take 5).length/\L=[Ψ (.scr ns),Ψ (.int 5),Ψ (.lst (ms.map .int)),x,y]) _ _ [] _ rfl ⟨ns.take 5,_,_,rfl,rfl⟩ (λdd c r L K e hI hK=>?_) λL hI=>?_
 ·let(ms,x,y,hl,rfl):=hI
  let hc:c∈(mm ((ns.drop 5).take 58).length).zip ((ns.drop 5).take 58):=by rw[iD] at e;rw[e];simp
  let h1:c.1<((ns.drop 5).take 58).length:=jv.mp (iB hc).1
  let h2:c.1<58/\5<ns.length:=by simp at h1;lia
  let h6:ms.length=5:=by rw[hl];simp;lia
  obtain⟨j,hj,ej⟩:∃ j:Nat,j<5/\(c.1:Int) % 5=j:=⟨c.1 % 5,⋯,⋯⟩
  simp
  rw[ej,p9 rfl (v:=.int (ms.getD j 0)) (by rw[fw,bo ⋯];simp[show j<ms.length by lia])]
  exact⟨.inr (qF ⋯ ⋯),?_⟩
  simp
  rw[vd rfl ⋯,<- k7]
  exact hK _ ⟨_,_,_,by rw[iI];exact hl,rfl⟩
 ·let(ms,x,y,hl,rfl):=hI
  simp
  exact q ms (by rw[hl];simp;lia)
abbrev IsI (os:List Nat) (a e:Nat)(S:List Nat):Prop:=∀ m,m∈S↔∃ t,a<=t/\t<e/\os[t]?=Ψ m
def sU {os:List Nat}(nd:os.Nodup){t u m:Nat}(h:os[t]?=Ψ m)(g:os[u]?=Ψ m):t=u:=by
 let(h1,h2):=aR.mp h
 let(g1,g2):=aR.mp g
 exact (gE nd).mp (h2.trans g2.symm)
def IsI.sub {os:List Nat}(nd:os.Nodup){a e a' e':Nat}{S:List Nat}(h:IsI os a e S)(h':IsI os a' e' S)(ha:a<e)(he:e<=os.length):a'<=a/\e<=e':=by
 let(t,t1,t2,t3):=(h' os[a]).mp ((h os[a]).mpr ⟨a,lJ _,ha,bo ⋯⟩)
 let(u,u1,u2,u3):=(h' os[e-1]).mp ((h os[e-1]).mpr ⟨e-1,⋯,⋯,bo ⋯⟩)
 have:=sU nd t3 (bo (show a<os.length by lia))
 have:=sU nd u3 (bo (show e-1<os.length by lia))
 lia
def IsI.ne {os:List Nat}{a e:Nat}{S:List Nat}(h:IsI os a e S)(ha:a<e)(he:e<=os.length):S≠[]:=λz=>by
 have:=(h os[a]).mpr ⟨a,lJ _,ha,bo ⋯⟩
 rw[z] at this;cases this
structure Rwp (os:List Nat) (k j:Nat)(ps:List Prc):Prop where
 all:∀ q∈ps,∃ a e,a<e/\e<=os.length/\(a<k ∨ a=k/\e<j)/\IsI os a e q.S
 up:∀ q∈ps,q.S.Pairwise (· < ·)
 pos:∀ q∈ps,0<q.p/\q.p<=10000000
 dst:(ps.map (·.S)).Nodup
 len:ps.length<=8*k+(j-k-1)
 sgl:∀ t m,(t<k ∨ t=k/\k+1<j)->os[t]?=Ψ m->∃ q∈ps,q.S=[m]
def GX {S:List Nat}{m:Nat}(hu:S.Pairwise (· < ·))(h:∀ x,x∈S↔x=m):S=[m]:=by
 cases S with
 | nil=>have:=(h m).mpr rfl;cases this
 | cons x r =>
  let hx:=(h x).mp ∅
  cases r with
  | nil=>rw[hx]
  | cons y r =>
   let hy:=(h y).mp ∅
   have:=List.rel_of_pairwise_cons hu (a':=y) ∅
   lia
def Rwp.add {os:List Nat}{k j:Nat}{ps:List Prc}(nd:os.Nodup)(h:Rwp os k j ps){S:List Nat}{p:Int}(hk:k<j)(hj:j<=os.length)(hS:IsI os k j S)(hu:S.Pairwise (· < ·))(hp:0<p/\p<=10000000):Rwp os k (j+1) (ps++[⟨S,p,0⟩]):=by
 let cs:∀ {P:Prc->Prop},(∀ q∈ps,P q)->P ⟨S,p,0⟩->∀ q∈ps++[⟨S,p,0⟩],P q:=λa b q hq=>by
  rcases iF.mp hq with hq|hq
  ·exact a q hq
  ·simp at hq;subst hq;exact b
 exact⟨cs (λq hq=>?_) ⟨k,j,hk,hj,.inr ⟨rfl,⋯⟩,hS⟩,cs h.up hu,cs h.pos hp,?_,by have:=h.len;simp;lia,λt m ht hm=>?_⟩
 ·let(a,e,h1,h2,h3,h4):=h.all q hq
  exact⟨a,e,h1,h2,⋯,h4⟩
 ·rw[iG]
  exact fq.mpr ⟨h.dst,∅,λx hx y hy z=>?_⟩
  simp at hy
  let(q,hq,rfl):=k6.mp hx
  let(a,e,h1,h2,h3,h4):=h.all q hq
  rw[z,hy] at h4
  have:=h4.sub nd hS h1 h2
  have:=hS.sub nd h4 hk hj
  lia
 ·by_cases c:t<k ∨ t=k/\k+1<j
  ·let(q,g1,g2):=h.sgl t m c hm
   exact⟨q,by simp[g1],g2⟩
  ·exact⟨⟨S,p,0⟩,∅,GX hu λx=>?_⟩
   rw[hS x]
   constructor
   ·rintro⟨u,u1,u2,u3⟩
    rw[show u=t by lia,hm] at u3
    exact (ip u3).symm
   ·rintro rfl
    exact⟨t,⋯,⋯,hm⟩
def Rwp.next {os:List Nat}{k:Nat}{ps:List Prc}(h:Rwp os k (os.length+1) ps)(h8:os.length<=8)(hk:k<os.length):Rwp os (k+1) (k+2) ps :=
 ⟨λq hq=>by
  let(a,e,h1,h2,h3,h4):=h.all q hq
  exact⟨a,e,h1,h2,⋯,h4⟩,h.up,h.pos,h.dst,by have:=h.len;lia,λt m ht hm=>h.sgl t m ⋯ hm⟩
abbrev Chn (os:List Nat) (k:Nat)(ls:List (Option Nat)):Prop:=ls.length=os.length/\(∀ t m,t<k->os[t]?=Ψ m->ls[m]?=Ψ (if t=0 then Φ else os[t-1]?))/\∀ t m,k<=t->os[t]?=Ψ m->ls[m]?=Ψ Φ
def Chn.one {os:List Nat}{n:Nat}{ls:List (Option Nat)}(hp:os.Perm (mm n))(h:Chn os n ls){a e:Nat}{S:List Nat}(hS:IsI os a e S)(ha:a<e)(he:e<=n):(rH ls).countP (ent S)=1:=by
 let hl:os.length=n:=by simpa using hp.length_eq
 let nd:os.Nodup:=hp.nodup_iff.mpr gv
 let la:=bo (l:=os) (i:=a) ⋯
 exact xt (m:=os[a]) (Nat.lt_of_lt_of_eq (jv.mp (hp.mem_iff.mp (gD _))) (hl.symm.trans h.1.symm)) λb hb=>?_
 rw[h.1,hl] at hb
 let(t,ht):=ck.mp (hp.mem_iff.mpr (jv.mpr hb))
 let htn:=(aR.mp ht).1
 let hon:ls.getD b Φ=if t=0 then Φ else os[t-1]?:=by rw[aF,h.2.1 t b ⋯ ht];rfl
 rw[hon,iW,ent_iff,decide_eq_true_eq,hS b]
 constructor
 ·rintro⟨⟨u,u1,u2,u3⟩,hn⟩
  let eu:=sU nd u3 ht
  subst eu
  by_cases c:u=a
  ·subst c
   rw[la] at ht
   exact (ip ht).symm
  ·exfalso
   let l1:=bo (l:=os) (i:=u-1) ⋯
   rw[if_neg ⋯,l1] at hn
   exact hn _ rfl ((hS _).mpr ⟨u-1,⋯,⋯,l1⟩)
 ·intro z
  let et:t=a:=sU nd (by rw[ht,z]) la
  exact⟨⟨t,⋯,⋯,ht⟩,λx hx hxS=>?_⟩
  by_cases c:t=0
  ·rw[if_pos c] at hx;cases hx
  ·rw[if_neg c] at hx
   let(u,u1,u2,u3):=(hS x).mp hxS
   have:=sU nd u3 hx
   lia
def Chn.ord {os:List Nat}{n:Nat}{ls:List (Option Nat)}(hp:os.Perm (mm n))(h:Chn os n ls):Ord n os ls:=by
 let hl:os.length=n:=by simpa using hp.length_eq
 let nd:os.Nodup:=hp.nodup_iff.mpr gv
 exact⟨h.1.trans hl,λm a e=>?_⟩
 let hm:m<n:=by have:=(aR.mp e).1;rw[h.1] at this;lia
 let(t,ht):=ck.mp (hp.mem_iff.mpr (jv.mpr hm))
 let htn:=(aR.mp ht).1
 let e2:=h.2.1 t m ⋯ ht
 rw[e] at e2
 let e2:=ip e2
 by_cases c:t=0
 ·rw[if_pos c] at e2;cases e2
 ·rw[if_neg c] at e2
  let(h1,h2):=aR.mp e2.symm
  let(h3,h4):=aR.mp ht
  exact⟨jv.mp (hp.mem_iff.mp (h2 ▸ gD _)),?_⟩
  rw[<- h2,<- h4,nd.idxOf_getElem _ h1,nd.idxOf_getElem _ h3]
  lia
def Rwp.pln {os:List Nat}{n:Nat}{ls:List (Option Nat)}{ps:List Prc}(hp:os.Perm (mm n))(hn:n<=8)(hc:Chn os n ls)(h:Rwp os n (n+1) ps):Pln ls 64 (· < n) ps:=by
 let hl:os.length=n:=by simpa using hp.length_eq
 exact⟨λq hq=>?_,λq hq=>?_,λq hq m hm=>?_,h.pos,by have:=h.len;lia,λm hm=>?_,h.up,h.dst⟩
 ·let(a,e,h1,h2,h3,h4):=h.all q hq
  exact hc.one hp h4 h1 ⋯
 ·let(a,e,h1,h2,h3,h4):=h.all q hq
  exact h4.ne h1 h2
 ·let(a,e,h1,h2,h3,h4):=h.all q hq
  let(t,t1,t2,t3):=(h4 m).mp hm
  rw[hc.1,hl]
  exact jv.mp (hp.mem_iff.mp (cH t3))
 ·let(t,ht):=ck.mp (hp.mem_iff.mpr (jv.mpr hm))
  have:=(aR.mp ht).1
  exact h.sgl t m ⋯ ht
def FP (os:List Nat){a e:Nat}(he:e<=os.length) (m:Nat):m∈(os.drop a).take (e-a)↔∃ t,a<=t/\t<e/\os[t]?=Ψ m:=by
 rw[ck]
 constructor
 ·rintro⟨i,hi⟩
  rw[dQ,dR] at hi
  split at hi
  ·exact⟨a+i,⋯,⋯,hi⟩
  ·cases hi
 ·rintro⟨t,h1,h2,h3⟩
  exact⟨t-a,by rw[dQ,dR,if_pos ⋯,show a+(t-a)=t by lia];exact h3⟩
abbrev bdR (call:CW):SW:=rT (rN um 4 (o9 (nR (oH pQ (vq (B8 2 (rf (nQ 6)) (rf (nQ 7))))) (nR (n6 pG (eC (.int 1)) (og call 22 0 (nR (eC (.int 3)) nU))) nU))))
def At (d:Nat){N:Int}{v:FV}{os:List Nat}{k n:Nat}{ps:List Prc}(nd:os.Nodup)(hl:os.length=n)(hn:n<=8)(hk:k<n)(h:Rwp os k (k+1) ps)(hv:Lf N v)(h0:0<=N)(hN:N<20000){l3 x x7 y8 y9 y10 y11:Option FV}{Q:FFl->nT->Prop}
  (q:∀ ps' v' x7',Rwp os k (n+1) ps'->Lf (N+8) v'->Q .next [Ψ v',Ψ (.int n),Ψ (.lst (pE os)),l3,Ψ (.lst (ps'.map oj)),x,Ψ (.int k),x7',y8,y9,y10,y11]) :
  yE (Tg.nm 7) (bdR (callW tb (d+3))) (uq ((k+1:Nat):Int) (n-k)) [Ψ v,Ψ (.int n),Ψ (.lst (pE os)),l3,Ψ (.lst (ps.map oj)),x,Ψ (.int k),x7,y8,y9,y10,y11] Q:=by
 exact oO (I:=λj L=>∃ ps' v' x7',Rwp os k j ps'/\Lf (N+(j-k-1:Nat)) v'/\L=[Ψ v',Ψ (.int n),Ψ (.lst (pE os)),l3,Ψ (.lst (ps'.map oj)),x,Ψ (.int k),x7',y8,y9,y10,y11]) (n-k) (k+1) _ ⟨ps,v,x7,h,hv.mono ⋯,rfl⟩ (λj L K hj1 hj2 hI hK=>?_) λL hI=>?_
 ·let(ps,v,x7,hR,hv,rfl):=hI
  let hlen:=hR.len
  simp[bdR]
  rw[pE,xD,xC _ ⋯]
  let ndS:((os.drop k).take (j-k)).Nodup:=(nd.sublist (fy _ _)).sublist (fj _ _)
  let lS:((os.drop k).take (j-k)).length<=8:=by rw[gz,gB];lia
  let mS:=FP os (a:=k) (e:=j) ⋯
  generalize (os.drop k).take (j-k)=S at ndS lS mS ⊢
  rw[yB,pA]
  exact⟨by simp;lia,λms hp hs=>?_⟩
  let(T,rfl,hu,hm):=xW ndS hp hs
  exact ot (d+1) hv ⋯ ⋯ ⋯ λu v' u0 u1 hv'=>?_
  simp
  refine⟨(·),by simp![big];lia,hK _ ⟨ps++[⟨T,1+u,0⟩],v',Ψ (.int j),hR.add nd ⋯ ⋯ (λm=>(hm m).trans (mS m)) hu ⟨by show 0<1+u;lia,by show 1+u<=_;lia⟩,hv'.mono ⋯,by simp[oj,pE]⟩⟩
 ·let(ps,v,x7,hR,hv,rfl):=hI
  rw[show k+1+(n-k)=n+1 by lia] at hR hv
  exact q ps v x7 hR (hv.mono ⋯)
def E2 (d:Nat){N:Int}{v:FV}{n:Nat}(hs:Lf N v)(h0:0<=N)(hN:N<10000)(h1n:1<=n)(hn:n<=8){Q:FV×FV->Prop}(q:∀ ws cs ls ps v',Pls n ws cs ls ps->Lf (N+500) v'->Q (.tup [pi ws cs,.tup (ls.map nV),.lst (ps.map oj)],v')):callW tb (d+4) 36 [v,.int n] Q:=by
 exact oq (fd:=IT) rfl rfl ?_
 simp[IT,JO]
 exact⟨(·),⟨⋯,by simp![big];lia⟩,(·),n9 ⋯ ⋯,?_⟩
 rw[show jt n FV.non=(jt n (Φ:Option Nat)).map nV by simp[nV]]
 exact oO (I:=λk L=>∃ os v x,os.Perm (mm k)/\Lf (N+k) v/\L=[Ψ v,Ψ (.int n),Ψ (.lst (pE os)),Ψ (.lst ((jt n (Φ:Option Nat)).map nV)),Ψ (.lst []),x,Φ,Φ,Φ,Φ,Φ,Φ]) n 0 _ ⟨[],v,Φ,∅,by simpa using hs,rfl⟩ (λk L K _ hk hI hK=>?_) λL hI=>?_
 ·let(os,v,x,hp,hv,rfl):=hI
  let hol:=hp.length_eq
  simp at hol
  simp
  exact ot (d+1) hv ⋯ ⋯ ⋯ λu v' u0 u1 hv'=>?_
  simp
  exact⟨⟨u0,⋯,by simp[pE,big];lia⟩,hK _ ⟨sD os u.toNat k,v',Ψ (.int k),?_,hv'.mono (by push_cast;lia),by simp[pE,ins_map (λi:Nat=>FV.int i)]⟩⟩
  rw[iA]
  exact ((tK os _ k).trans (hp.cons k)).trans (aD k (mm k)).symm
 ·let(os,v,x,hp,hv,rfl):=hI
  rw[kR] at hp hv
  let hol:=hp.length_eq
  simp at hol
  let ndo:os.Nodup:=hp.nodup_iff.mpr gv
  let ltO:∀ a∈os,a<n:=λa ha=>jv.mp (hp.mem_iff.mp ha)
  simp
  exact⟨n9 ⋯ ⋯,?_⟩
  rw[show jt n (nV Φ)=(jt n (Φ:Option Nat)).map nV by simp]
  exact oO (I:=λk L=>∃ ls ps v x6 x7,Chn os k ls/\Rwp os k (k+1) ps/\Lf (N+n+8*k) v/\L=[Ψ v,Ψ (.int n),Ψ (.lst (pE os)),Ψ (.lst (ls.map nV)),Ψ (.lst (ps.map oj)),x,x6,x7,Φ,Φ,Φ,Φ]) n 0 _ ⟨_,[],v,Φ,Φ,⟨by simp[hol],λt m ht=>⋯,λt m _ hm=>?_⟩,⟨∅,∅,∅,∅,∅,λt m ht=>⋯⟩,hv.mono ∅,rfl⟩ (λk L K _ hk hI hK=>?_) λL hI=>?_
  ·rw[bA,if_pos (ltO m (cH hm))]
  ·let(ls,ps,v,x6,x7,hC,hR,hv,rfl):=hI
   rw[kR] at hk
   obtain⟨p,hpi⟩:∃ p,os[k]?=Ψ p:=⟨_,bo ⋯⟩
   let hpl:p<ls.length:=by rw[hC.1,hol];exact ltO p (cH hpi)
   let fin:Chn os (k+1) (ls.set p (if k=0 then Φ else os[k-1]?)):=by
    exact⟨by rw[iI];exact hC.1,λt m ht hm=>?_,λt m ht hm=>?_⟩
    ·rw[fv]
     by_cases c:t=k
     ·subst c
      rw[hpi] at hm
      cases hm
      rw[if_pos rfl,if_pos hpl]
     ·rw[if_neg λz=>c (sU ndo hm (by rw[<- z];exact hpi))]
      exact hC.2.1 t m ⋯ hm
    ·rw[fv,if_neg λz=>by have:=sU ndo hm (by rw[<- z];exact hpi);lia]
     exact hC.2.2 t m ⋯ hm
   let nx:∀ ls',Chn os (k+1) ls'->∀ ps' v' x7',Rwp os k (n+1) ps'->Lf (N+n+8*k+8) v'->K [Ψ v',Ψ (.int n),Ψ (.lst (pE os)),Ψ (.lst (ls'.map nV)),Ψ (.lst (ps'.map oj)),x,Ψ (.int k),x7',Φ,Φ,Φ,Φ]:=λls' h' ps' v' x7' hR' hv'=>hK _ ⟨ls',ps',v',_,_,h',(show Rwp os k (os.length+1) ps' by rw[hol];exact hR').next ⋯ ⋯,hv'.mono (by push_cast;lia),rfl⟩
   simp
   exact pq (λg=>?_) (λg=>?_)
   ·obtain⟨o,ho⟩:∃ o,os[k-1]?=Ψ o:=⟨_,bo ⋯⟩
    rw[if_neg ⋯,ho] at fin
    rw[show ((k:Int)-1)=((k-1:Nat):Int) by lia,p9 rfl (v:=nV (Ψ o)) (by rw[pE,fw,ho];rfl),p9 rfl (v:=FV.int (p:Int)) (by rw[pE,fw,hpi];rfl)]
    simp
    rw[vd rfl (by simpa using hpl),<- k7]
    generalize ls.set p (Ψ o)=ls' at fin ⊢
    exact⟨⟨n9 ⋯ ⋯,n9 ⋯ ⋯⟩,?_⟩
    rw[show ((k:Int)+1)=((k+1:Nat):Int) by simp,show ((n:Int)+1-((k+1:Nat):Int)).toNat=n-k by lia]
    exact At d ndo hol hn hk hR hv ⋯ ⋯ λps' v' x7' hR' hv'=>nx ls' fin ps' v' x7' hR' hv'
   ·rw[if_pos ⋯] at fin
    rw[p9 rfl (v:=FV.int (p:Int)) (by rw[pE,fw,hpi];rfl)]
    simp
    rw[show FV.non=nV Φ from rfl,vd rfl (by simpa using hpl),<- k7]
    generalize ls.set p Φ=ls' at fin ⊢
    exact⟨⟨n9 ⋯ ⋯,n9 ⋯ ⋯⟩,?_⟩
    rw[show ((k:Int)+1)=((k+1:Nat):Int) by simp,show ((n:Int)+1-((k+1:Nat):Int)).toNat=n-k by lia]
    exact At d ndo hol hn hk hR hv ⋯ ⋯ λps' v' x7' hR' hv'=>nx ls' fin ps' v' x7' hR' hv'
  ·let(ls,ps,v,x6,x7,hC,hR,hv,rfl):=hI
   rw[kR] at hC hR hv
   let hr:=(hC.ord hp).rk hp
   let hll:ls.length=n:=hC.1.trans hol
   let hP:=hR.pln hp hn hC
   let hpl:=hP.len
   let dl:∀ e,due ps e<=640000000:=λe=>by have:=xy hP.pos e;lia
   let dnn:∀ e,0<=due ps e:=zV λq hq=>(hP.pos q hq).1
   let hpb:∀ q∈ps,0<=q.p/\q.p<=100000000000:=λq hq=>by have:=hP.pos q hq;lia
   simp
   exact⟨(·),n9 ⋯ ⋯,?_⟩
   exact oO (I:=λb L=>∃ ws cs v w10 w11,Whs ls ps b ws/\Szp n ls ps (λm _=>m<b) (b*n) cs/\Lf (N+9*n+25*b) v/\L=[Ψ v,Ψ (.int n),Ψ (.lst (pE os)),Ψ (.lst (ls.map nV)),Ψ (.lst (ps.map oj)),x,x6,x7,Ψ (.lst (ws.map .int)),Ψ (.lst (cs.map qc)),w10,w11]) n 0 _ ⟨[],[],v,Φ,Φ,⟨rfl,∅⟩,⟨∅,∅,∅,∅⟩,hv.mono (by simp;lia),rfl⟩ (λb L K _ hb hI hK=>?_) λL hI=>?_
   ·let(ws,cs,v,w10,w11,hW,hS,hv,rfl):=hI
    let hbl:b<ls.length:=⋯
    let hwl:=hW.l
    let hcl:=hS.l
    let hbn:b*n<=12*12:=jq ⋯ ⋯
    simp
    exact uA (ps:=ps) (d+2) (Φ,b) ⋯ hpb ⟨rfl,?_⟩
    rw[sL hbl,GK]
    simp
    exact ot (d+1) hv ⋯ ⋯ ⋯ λs v s0 s1 hv=>?_
    simp
    let(t0,t1,t2):=AX ((ls.getD b Φ).isSome=Ω) s0 (show s<9 by lia)
    rw[aF] at t0 t1 t2
    generalize (if (ls[b]?.getD Φ).isSome=Ω then (1:Int) else 0)=f at t0 t1 t2 ⊢
    exact⟨.inr (qF ⋯ ⋯),by simp![big];lia,n9 ⋯ ⋯,?_⟩
    let hW':Whs ls ps (b+1) (ws++[due ps (Φ,b)+f*s]):=hW.add ⋯ ⋯ λz=>by
     rw[aF] at z
     have:=t2 (by rw[z];simp)
     lia
    rw[show ws.map FV.int++[FV.int (due ps (Φ,b)+f*s)]=(ws++[due ps (Φ,b)+f*s]).map .int by simp]
    exact oO (I:=λj L=>∃ cs v w11,Szp n ls ps (λm x=>m<b ∨ m=b/\x<j) (b*n+j) cs/\Lf (N+9*n+25*b+1+2*j) v/\L=[Ψ v,Ψ (.int n),Ψ (.lst (pE os)),Ψ (.lst (ls.map nV)),Ψ (.lst (ps.map oj)),x,x6,x7,Ψ (.lst ((ws++[due ps (Φ,b)+f*s]).map .int)),Ψ (.lst (cs.map qc)),Ψ (.int b),w11]) n 0 _ ⟨cs,v,w11,hS.mono (λm a h=>.inl h) (λm a h=>.inl ⋯) ⋯,hv.mono ∅,rfl⟩ (λa L K2 _ ha hI hK2=>?_) λL hI=>?_
    ·let(cs,v,w11,hS,hv,rfl):=hI
     let hcl:=hS.l
     let stay:∀ v',Lf (N+9*n+25*b+1+2*a+2) v'->ls.getD b Φ≠Ψ a->K2 [Ψ v',Ψ (.int n),Ψ (.lst (pE os)),Ψ (.lst (ls.map nV)),Ψ (.lst (ps.map oj)),x,x6,x7,Ψ (.lst (ws.map .int++[FV.int (due ps (Φ,b)+f*s)])),Ψ (.lst (cs.map qc)),Ψ (.int b),Ψ (.int a)]:=λv' hv' hne=>hK2 _ ⟨cs,v',Ψ (.int a),hS.mono (λm x h=>⋯) (λm x h=>?_) ⋯,hv'.mono (by push_cast;lia),∅⟩
     ·let put:∀ v',Lf (N+9*n+25*b+1+2*a+1) v'->a≠b->callW tb (d+3) 33 [.lst (ps.map oj),.int a,.int b] λz=>Co z.1=Ω/\wp (Cp (ls.map nV) (b:Int)) λz1=>wp (sJ z1 (.int a)) λr=>callW tb (d+3) 22 [v',.int 3] λz2=>wp (qR (.int (if r=Ξ then 1 else 0)) z2.1) λz3=>wp (pG z.1 z3) λz=>3<=big/\cs.length<big/\K2 [Ψ z2.2,Ψ (.int n),Ψ (.lst (pE os)),Ψ (.lst (ls.map nV)),Ψ (.lst (ps.map oj)),x,x6,x7,Ψ (.lst (ws.map .int++[FV.int (due ps (Φ,b)+f*s)])),Ψ (.lst (cs.map qc++[FV.tup [.int a,.int b,z]])),Ψ (.int b),Ψ (.int a)]:=λv' hv' hab=>by
       exact uA (ps:=ps) (d + 2) (Ψ a,b) ⋯ hpb ⟨rfl,?_⟩
       rw [sL hbl,show sJ (nV (ls.getD b Φ)) (FV.int (a:Int))=sJ (nV (ls.getD b Φ)) (nV (Ψ a)) from rfl,codL.eq]
       exact ot (d + 1) hv' ⋯ ⋯ ⋯ fun s2 v2 s3 s4 hv2=>?_
       obtain ⟨p0,p1,p2⟩:=AX (Δ (ls.getD b Φ=Ψ a)=Ξ) s3 (show s2 < 9 by lia)
       let hd0:=hP.due (e:=(Ψ a,b)) ⋯ (fun z=>hab (ip z))
       let hd1:=dl (Ψ a,b)
       generalize (if Δ (ls.getD b Φ=Ψ a)=Ξ then (1:Int) else 0)=f2 at p0 p1 p2 ⊢
       simp
       exact ⟨.inr (qF ⋯ ⋯),(·),by simp only [big]; lia,hK2 _ ⟨cs++[(a,b,due ps (Ψ a,b) + f2 * s2)],v2,Ψ (.int a),(hS.add (a:=a) (b:=b) (s:=due ps (Ψ a,b) + f2 * s2) ⋯ ⋯ ⋯ hab ⋯ ⋯ ⋯ fun z=>?_).mono (fun m x h=>⋯) (fun m x h=>.inl ⋯) ⋯,hv2.mono (by push_cast; lia),by simp [qc]⟩⟩
       have:=p2 (by simpa using z)
       lia
      simp
      exact pq (λg=>stay v (hv.mono ⋯) λz=>?_) λg=>?_
      ·have:=(hr.on b a hbl z).2
       rw [show a=b by lia] at this; lia
      ·let hab:a≠b:=λz=>g (by rw[z])
       rw [sL hbl,show sJ (nV (ls.getD b Φ)) (FV.int (a:Int))=sJ (nV (ls.getD b Φ)) (nV (Ψ a)) from rfl,codL.eq]
       exact pq (fun g1=>put v (hv.mono ⋯) hab) fun g1=>?_
       exact ot (d + 1) hv ⋯ ⋯ ⋯ fun u1 v1 c0 c1 hv1=>?_
       simp
       refine pq (fun g2=>put v1 (hv1.mono ⋯) hab) fun g2=>stay v1 (hv1.mono ⋯) fun z=>g1 (by simpa using z)
     ·by_cases c:m<b ∨ m=b/\x<a
      ·exact .inl c
      ·let c1:m=b:=by lia
       let c2:x=a:=⋯
       rw [c1,c2]; exact .inr hne
    ·let(cs,v,w11,hS,hv,rfl):=hI
     rw[kR] at hS hv
     exact hK _ ⟨_,cs,v,_,_,hW',hS.mono (λm a h=>⋯) (λm a h=>?_) (by rw[kT];lia),hv.mono (by push_cast;lia),rfl⟩
     by_cases c:ls.getD m Φ=Ψ a
     ·by_cases c2:m=b
      ·exact .inl (.inr ⟨c2,by have:=(hr.on m a ⋯ c).1;lia⟩)
      ·exact .inl (.inl ⋯)
     ·exact .inr c
   ·let(ws,cs,v,w10,w11,hW,hS,hv,rfl):=hI
    rw[kR] at hW hS hv
    simp
    let hcl:=hS.l
    let hbn:n*n<=12*12:=jq ⋯ ⋯
    exact⟨zd _,⋯,λys hy=>⟨(·),(·),?_⟩⟩
    let(cs2,h2,rfl):=tz hy _ rfl
    exact q ws cs2 ls ps v ⟨⋯,⟨_,hr⟩,hll,hP,hW,hS.perm h2⟩ (hv.mono ⋯)
def D7 (d:Nat){ws:List Int}{cs:List qj}{sz:oz->Int}(h:Sto ws cs sz){Q:FV×FV->Prop}(q:Q (.dct (cs.map keyH) (cs.map λc=>.int c.2.2),.non)):callW tb (d+1) 6 [pi ws cs] Q:=by
 let hc:=h.l
 exact oq (fd:=Qq) rfl rfl ?_
 simp[Qq,Oi,pi,big]
 exact⟨⋯,?_⟩
 exact wD (f:=qc) (g:=keyH) (h:=λc=>.int c.2.2) cs [] [] ∅ (by simpa using h.keys) (λx hx K k=>?_) (by simpa using q)
 simp[qc,big]
 exact k
def JA (d:Nat){ls:List (Option Nat)}{r:Nat->Nat}(hr:Rk ls r)(hn:ls.length<=1000){m:Nat}(hm:m<ls.length){Q:FV×FV->Prop}(q:Q (.bl Ω,.non)):callW tb (d+1) 5 [.tup (ls.map nV),.int m] Q:=by
 exact oq (fd:=Qr) rfl rfl ?_
 simp[Qr,Sc]
 rw[sL hm]
 exact⟨n9 ⋯ ⋯,?_⟩
 exact oO (I:=λj L=>∃ a,L=[Ψ (.tup (ls.map nV)),Ψ (.int m),Ψ (nV (Ev ls (Ψ m) (j+1))),a]/\(Ev ls (Ψ m) j).isSome=Ω) ls.length 0 _ ⟨_,rfl,rfl⟩ ?_ ?_
 ·rintro j L K-hj ⟨a,rfl,hs⟩ k
  cases e:Ev ls (Ψ m) (j+1) with
  | none=>simpa[nV] using q
  | some p =>
   let hp:=(zI hr hm _ p e).1
   simp[nV]
   rw[sL hp]
   exact k _ ⟨Ψ (.int j),?_,by rw[e];rfl⟩
   rw[Ev,e];rfl
 ·rintro L ⟨a,rfl,hs⟩
  rw[kR,FK hr hm] at hs
  cases hs
def E5 (d:Nat){ws:List Int}{cs:List qj}{sz:oz->Int}(h:Sto ws cs sz){ls:List (Option Nat)}(hl:Lyg ws cs ls){Q:FV×FV->Prop}(q:Q (.bl Ω,.non)):callW tb (d+2) 4 [pi ws cs,.tup (ls.map nV)] Q:=by
 let hn:=h.n
 let hll:=hl.len
 let(r,hr):=hl.rk
 exact oq (fd:=Qs) rfl rfl ?_
 simp[Qs,Sd,qA,wL,hll]
 exact D7 d h ?_
 simp
 rw[<- hll,<- iK (f:=nV),y0]
 exact pf (f:=λm:Nat=>FV.tup [.int (m:Int),nV (ls.getD m Φ)]) (I:=λ_ L=>∃ a b,L=[Ψ (pi ws cs),Ψ (.tup (ls.map nV)),Ψ (.int (ls.map nV).length),Ψ (.dct (cs.map keyH) (cs.map λc=>.int c.2.2)),a,b]) (mm ls.length) (mm ls.length) [] _ rfl ⟨_,_,rfl⟩ (λdd m r L K e hI hK=>?_) λL hI=>?_
 ·let(x,y,rfl):=hI
  let hm:m<ls.length:=jv.mp (by rw[e];simp)
  cases g:ls.getD m Φ with
  | none =>
   simp[nV]
   exact hK _ ⟨Ψ (.int m),Ψ .non,∅⟩
  | some a =>
   let(_,c,hc,e1,e2):=hl.on hm g
   let hk:[(a:Int),(m:Int)]∈cs.map keyH:=k6.mpr ⟨c,hc,by rw[<- e1,<- e2];rfl⟩
   simp[nV,uw,big]
   rw[if_pos (by simpa using hk)]
   exact hK _ ⟨Ψ (.int m),Ψ (.int a),∅⟩
 ·let(x,y,rfl):=hI
  simp
  exact⟨n9 ⋯ ⋯,?_⟩
  rw[pH]
  exact⟨by simp[big];lia,?_⟩
  exact pC (f:=λi:Nat=>FV.int i) (g:=λ_=>.bl Ω) (mm ls.length) [] (λi hi K k=>?_) ?_
  ·let hi:=jv.mp hi
   simp
   exact JA d hr ⋯ hi k
  ·rw[iD,rB (λ_=>Ω),pA,show (((mm ls.length).map λ_=>Ω).all id)=Ω by simp]
   exact q
def Iu (d:Nat){ws:List Int}{cs:List qj}{sz:oz->Int}(h:Sto ws cs sz){ls:List (Option Nat)}(hl:Lyg ws cs ls){Q:FV×FV->Prop}(q:Q (.lst (((rH ls).map sz).map .int),.non)):callW tb (d+2) 7 [pi ws cs,.tup (ls.map nV)] Q:=by
 let hn:=h.n
 let hll:=hl.len
 exact oq (fd:=Qp) rfl rfl ?_
 simp[Qp,Sb]
 exact D7 d h ?_
 simp[qA]
 rw[<- iK (f:=nV),y0]
 exact⟨by simp[big];lia,?_⟩
 exact pC (f:=λm:Nat=>FV.tup [.int (m:Int),nV (ls.getD m Φ)]) (g:=λm=>.int (sz (ls.getD m Φ,m))) (mm ls.length) [] (λm hm K k=>?_) ?_
 ·let hm:=jv.mp hm
  cases e:ls.getD m Φ with
  | none =>
   rw[e] at k
   simp[nV,qA]
   rw[p9 rfl (v:=.int (sz (Φ,m))) (by rw[fw,bo ⋯,h.w m ⋯];rfl)]
   exact k
  | some a =>
   rw[e] at k
   let(_,c,hc,e1,e2):=hl.on hm e
   let hg:=A2 h hc
   rw[show keyH c=[(c.1:Int),(c.2.1:Int)] from rfl,e1,e2] at hg
   simp[nV,big]
   rw[hg]
   exact k
 ·rw[wo] at q
  simpa[k9,fI] using q
def Js {ws:List Int}{cs:List qj}{sz:oz->Int}(h:Sto ws cs sz){ls:List (Option Nat)}(hl:Lyg ws cs ls):∀ x∈(rH ls).map sz,0<=x/\x<=100000000000:=λx hx=>by
 let(e,he,rfl):=k6.mp hx
 have:=h.p e (hl.ent e he)
 lia
def A6 (ls:List (Option Nat)):(rH ls).length=ls.length:=by simp[rH]
def Hy (d:Nat){ws:List Int}{cs:List qj}{sz:oz->Int}(h:Sto ws cs sz){ls:List (Option Nat)}(hl:Lyg ws cs ls){Q:FV×FV->Prop}(q:Q (.int ((rH ls).map sz).sum,.non)):callW tb (d+3) 8 [pi ws cs,.tup (ls.map nV)] Q:=by
 let hn:=h.n
 let hll:=hl.len
 exact oq (fd:=Qo) rfl rfl ?_
 simp[Qo,Oh]
 exact Iu d h hl ?_
 simp![OP]
 exact so (by simp[A6];lia) (Js h hl) q
structure Ppr (ws:List Int)(cs:List qj)(sz:oz->Int)(ps:List Prc):Prop where
 low:∀ e∈qh ws.length cs,due ps e<=sz e
 pos:∀ q∈ps,0<q.p
 bd:∀ q∈ps,q.p<=2000000000
 ne:∀ q∈ps,q.S≠[]
 up:∀ q∈ps,q.S.Pairwise (· < ·)
 lt:∀ q∈ps,∀ m∈q.S,m<ws.length
 dst:(ps.map (·.S)).Nodup
 pl:ps.length<=144
def GQ (S:List Nat) (m:Nat):ent S (Φ,m)=Δ ((m:Int)∈S.map λj:Nat=>(j:Int)):=by
 have:(-1:Int) ∉ S.map λj:Nat=>(j:Int):=λz=>by
  let(x,_,h2):=k6.mp z
  lia
 rw[tQ]
 simp[Ef,this]
def DX (S:List Nat) (a b:Nat):ent S (Ψ a,b)=(Δ ((b:Int)∈S.map λj:Nat=>(j:Int)) && !Δ ((a:Int)∈S.map λj:Nat=>(j:Int))):=tQ S (Ψ a,b)
def GU {S:List Nat}(h:S.Pairwise (· < ·)){p:Nat×Nat}(hp:p∈S.zip (S.drop 1)):p.1<p.2:=by
 let(j,hj):=ck.mp hp
 let(h1,h2):=aQ.mp hj
 rw[dR] at h2
 let(g1,e1):=aR.mp h1
 let(g2,e2):=aR.mp h2
 rw[<- e1,<- e2]
 exact aO.mp h _ _ g1 g2 ⋯
def BC (d:Nat){q:Prc}{n:Nat}(h0:0<q.p)(hne:q.S≠[])(hup:q.S.Pairwise (· < ·))(hlt:∀ m∈q.S,m<n)(hl:q.S.length<=1000){Q:FV×FV->Prop}(k:Q (.bl Ω,.non)):callW tb (d+4) 11 [oj q,.int n] Q:=by
 exact oq (fd:=Jo) rfl rfl ?_
 simp[Jo,J9,oj,wL,EK,show 1<=q.p by lia]
 exact oq (fd:=Jn) rfl rfl ?_
 simp[Jn,J8,hne]
 exact⟨by simp[big];lia,?_⟩
 exact pC (f:=λi:Nat=>FV.int i) (g:=λ_=>.bl Ω) q.S [] (λm hm K k=>?_) ?_
 ·simp[Fs,hlt m hm]
  exact k
 ·rw[iD,rB (λ_=>Ω),pA,if_neg ∅]
  let c1:∀ xs:List FV,qi xs (Ψ 1) Φ=xs.drop 1:=λxs=>by simpa using yQ xs 1
  simp
  rw[c1,<- km,tD]
  exact⟨by simp[big];lia,?_⟩
  exact pC (g:=λ_=>.bl Ω) (q.S.zip (q.S.drop 1)) [] (λp hp K k=>?_) ?_
  ·have:=GU hup hp
   simp[this]
   exact k
  ·rw[iD,rB (λ_=>Ω),pA,show (((q.S.zip (q.S.drop 1)).map λ_=>Ω).all id)=Ω by simp]
   exact k
def Aj {ps:List Prc}{p:Prc->Bool}(hl:ps.length<=1000)(hb:∀ q∈ps,0<=q.p/\q.p<=100000000000){R:Int->Prop}(q:R ((ps.filter p).map (·.p)).sum):wp (zk ((ps.filter p).map λq=>FV.int q.p)) R:=by
 rw[show ((ps.filter p).map λq=>FV.int q.p)=((ps.filter p).map (·.p)).map .int by rw[k9];rfl]
 exact so (by have:=cq p ps;simp;lia) (λx hx=>?_) q
 let(c,hc,rfl):=k6.mp hx
 exact hb c (iE.mp hc).1
def Ppr.pb {ws:List Int}{cs:List qj}{sz:oz->Int}{ps:List Prc}(t:Ppr ws cs sz ps):∀ q∈ps,0<=q.p/\q.p<=100000000000:=λq hq=>by
 have:=t.pos q hq
 have:=t.bd q hq
 lia
def Ir (d:Nat){ws:List Int}{cs:List qj}{sz:oz->Int}(h:Sto ws cs sz){ps:List Prc}(t:Ppr ws cs sz ps){Q:FV×FV->Prop}(q:Q (.bl Ω,.non)):callW tb (d+1) 13 [pi ws cs,.lst (ps.map oj)] Q:=by
 let hpl:=t.pl
 exact oq (fd:=Jm) rfl rfl ?_
 simp[Jm,J7,qA]
 let ep:pO (uq 0 ws.length) (ws.map .int)=(mm ws.length).map λm:Nat=>FV.tup [.int (m:Int),.int (sz (Φ,m))]:=by
  rw[pH]
  apply gG
  ·simp[pO]
  ·intro i g1 g2
   simp[pO] at g2 ⊢
   exact (h.w i g2).symm
 rw[ep]
 exact pf (f:=λm:Nat=>FV.tup [.int (m:Int),.int (sz (Φ,m))]) (I:=λ_ L=>∃ a b,L=[Ψ (pi ws cs),Ψ (.lst (ps.map oj)),a,b]) (mm ws.length) (mm ws.length) [] _ rfl ⟨_,_,rfl⟩ (λdd m r L K e hI hK=>?_) λL hI=>?_
 ·let(x,y,rfl):=hI
  let hm:m<ws.length:=jv.mp (by rw[e];simp)
  simp
  exact⟨by simp[big];lia,?_⟩
  exact oP (f:=oj) (g:=λq=>.int q.p) (p:=λq=>ent q.S (Φ,m)) ps [] (λc hc K N k1 k2=>?_) ?_
  ·simp[oj]
   rw[vg]
   exact pq (λg=>k1 ?_) λg=>k2 ?_
   ·rw[GQ];exact g
   ·rw[GQ];exact fO.mpr g
  ·rw[iD]
   exact Aj ⋯ t.pb ?_
   have:=t.low (Φ,m) (cK _ (k6.mpr ⟨m,jv.mpr hm,rfl⟩))
   rw[if_neg (by unfold due at this;lia)]
   exact hK _ ⟨_,_,rfl⟩
 ·let(x,y,rfl):=hI
  simpa using q
def Iy (d:Nat){ws:List Int}{cs:List qj}{sz:oz->Int}(h:Sto ws cs sz){ps:List Prc}(t:Ppr ws cs sz ps){Q:FV×FV->Prop}(q:Q (.bl Ω,.non)):callW tb (d+1) 14 [pi ws cs,.lst (ps.map oj)] Q:=by
 let hpl:=t.pl
 exact oq (fd:=Jl) rfl rfl ?_
 simp[Jl,J6,qA]
 exact pf (f:=qc) (I:=λ_ L=>∃ a b c,L=[Ψ (pi ws cs),Ψ (.lst (ps.map oj)),a,b,c]) cs cs [] _ rfl ⟨_,_,_,rfl⟩ (λdd c r L K e hI hK=>?_) λL hI=>?_
 ·let(x,y,z,rfl):=hI
  let hc:c∈cs:=by rw[e];simp
  simp[qc]
  exact⟨by simp[big];lia,?_⟩
  exact oP (f:=oj) (g:=λq=>.int q.p) (p:=λq=>ent q.S (Ψ c.1,c.2.1)) ps [] (λq hq K N k1 k2=>?_) ?_
  ·simp[oj]
   rw[vg]
   exact pq (λg1=>?_) λg1=>?_
   ·rw[vg]
    exact pq (λg2=>k2 ?_) λg2=>k1 ?_
    ·rw[DX,g1,g2];rfl
    ·rw[DX,g1,fO.mpr g2];rfl
   ·exact k2 (by rw[DX,fO.mpr g1];rfl)
  ·rw[iD]
   exact Aj ⋯ t.pb ?_
   have:=t.low (Ψ c.1,c.2.1) (cm _ (k6.mpr ⟨c,hc,rfl⟩))
   rw[h.c c hc] at this
   rw[if_neg (by unfold due at this;lia)]
   exact hK _ ⟨_,_,_,rfl⟩
 ·let(x,y,z,rfl):=hI
  simpa using q
def HN (d:Nat){ws:List Int}{cs:List qj}{sz:oz->Int}(h:Sto ws cs sz){ps:List Prc}(t:Ppr ws cs sz ps){Q:FV×FV->Prop}(q:Q (.bl Ω,.non)):callW tb (d+5) 10 [pi ws cs,.lst (ps.map oj)] Q:=by
 let hn:=h.n
 let hpl:=t.pl
 exact oq (fd:=Jp) rfl rfl ?_
 simp[Jp,Ka]
 exact⟨by simp[big];lia,?_⟩
 exact pC (f:=oj) (g:=λ_=>.bl Ω) ps [] (λc hc K k=>?_) ?_
 ·let hlen:c.S.length<=12:=by
   have:=ux (n:=ws.length) ((t.up c hc).imp λh=>kU h) (t.lt c hc)
   lia
  simp[qA]
  exact BC d (t.pos c hc) (t.ne c hc) (t.up c hc) (t.lt c hc) ⋯ k
 ·rw[iD,rB (λ_=>Ω),pA,if_neg ∅]
  simp
  let inj:∀ {S T:List Nat},(S.map λi:Nat=>(i:Int))=(T.map λi:Nat=>(i:Int))->S=T:=λ{S T} e=>by
   have:=congrArg (mU Int.toNat) e
   simpa[k9,fI] using this
  exact Cf (f:=oj) (g:=λq:Prc=>q.S.map λi:Nat=>(i:Int)) ps [] ?_ (by simp;lia) (λc hc K k=>?_) ?_
  ·have:=t.dst
   rw[iD]
   rw[mq,fo] at this ⊢
   exact this.imp λh e=>h (inj e)
  ·simp[oj]
   simpa[k9,fI] using k
  ·simp
   exact Ir (d+3) h t ?_
   simp
   exact Iy (d+3) h t q
def CM (d:Nat){ws:List Int}{cs:List qj}{sz:oz->Int}(h:Sto ws cs sz){ps:List Prc}{ls:List (Option Nat)}(t:Ppr ws cs sz ps)(hl:Lyg ws cs ls){i:Int}{Q:FV×FV->Prop}(q:Q (.bl (Δ (((rH ls).map sz).sum=i/\(ps.map (·.p)).sum=i)),.non)):callW tb (d+6) 9 [pi ws cs,.tup [.int i,.tup (ls.map nV),.lst (ps.map oj)]] Q:=by
 let hpl:=t.pl
 exact oq (fd:=Qn) rfl rfl ?_
 simp[Qn,Sa,wL,uw]
 exact E5 (d+3) h hl ?_
 simp
 exact HN d h t ?_
 simp
 exact Hy (d+2) h hl ?_
 simp
 by_cases e1:((rH ls).map sz).sum=i
 ·simp[e1]
  exact⟨by simp[big];lia,?_⟩
  exact pC (f:=oj) (g:=λq=>.int q.p) ps [] (λq hq K k=>?_) ?_
  ·simp[oj]
   exact k
  ·rw[iD,show (ps.map λq=>FV.int q.p)=(ps.map (·.p)).map .int by rw[k9];rfl]
   exact so (by simp;lia) (λx hx=>?_) ?_
   ·let(c,hc,rfl):=k6.mp hx
    exact t.pb c hc
   ·rw[e1] at q
    simp at q ⊢
    exact q
 ·rw[show Δ (((rH ls).map sz).sum=i/\(ps.map (·.p)).sum=i)=Ξ from decide_eq_false λz=>e1 z.1] at q
  rw[if_neg e1,show (((rH ls).map sz).sum == i)=Ξ by simpa using e1]
  exact q
def Vl.tup2 {k1 k2 p:Nat}{x y:FV}(hx:Vl k1 p x)(hy:Vl k2 p y):Vl (k1+k2+2) (p+1) (.tup [x,y])/\Vl (k1+k2+2) (p+1) (.lst [x,y]):=by
 let(d1,rfl,a1,a2,a3):=hx
 let(d2,rfl,b1,b2,b3):=hy
 exact⟨⟨.tup [d1,d2],rfl,by show max (yM _) (max (yM _) 0)+1<=_;lia,by show (_ && (_ && Ω))=Ω;rw[a2,b2];rfl,?_⟩,⟨.lst [d1,d2],rfl,by show max (yM _) (max (yM _) 0)+1<=_;lia,by show (_ && (_ && Ω))=Ω;rw[a2,b2];rfl,?_⟩⟩<;>(simp![D.wt,D.wts];lia)
section
variable {ws:List Int}{cs:List qj}{sz:oz->Int}{ps:List Prc}{ls:List (Option Nat)}
def Sto.l2 (h:Sto ws cs sz):cs.length<=132:=by
 let hn:=h.n
 have:=h.k.length_le_of_subset (l₂:=((mm 12).flatMap λa=>(mm 12).map λb=>(a,b)).filter λp=>Δ (p.1≠p.2)) λp hp=>by
  let(c,hc,rfl):=k6.mp hp
  have:=h.r c hc
  refine iE.mpr ⟨List.mem_flatMap.mpr ⟨c.1,jv.mpr ⋯,k6.mpr ⟨c.2.1,jv.mpr ⋯,rfl⟩⟩,by simpa using this.2.2⟩
 rw[iK] at this
 exact kX this (by nofun)
def Jt (h:Sto ws cs sz):Vl 18000 3 (pi ws cs):=by
 let hn:=h.n
 let hl:=h.l2
 exact (Vl.tup2 (k1:=504) (k2:=16896) (p:=2) ?_ ?_).1.mono (·) (·)
 ·exact (Vl.tup (k:=41) (p:=0) (m:=12) (λx hx=>?_) (by simpa using hn)).mono (·) (·)
  let(y,hy,rfl):=k6.mp hx
  have:=h.bdw hy
  exact Vl.int ⋯ ⋯
 ·exact (Vl.tup (k:=127) (p:=1) (m:=132) (λx hx=>?_) (by simpa using hl)).mono (·) (·)
  let(c,hc,rfl):=k6.mp hx
  let h1:=h.r c hc
  let h2:=h.bdc hc
  exact (Vl.tup (k:=41) (p:=0) (m:=3) (λy hy=>?_) ∅).mono (·) (·)
  simp![kj,gu,or_false] at hy
  rcases hy with rfl|rfl|rfl<;>exact Vl.int ⋯ ⋯
def EG (h:Sto ws cs sz)(t:Ppr ws cs sz ps)(hl:Lyg ws cs ls){i:Int}(h1:-10<i)(h2:i<1000000000000):Vl 100000 5 (.lst [pi ws cs,.tup [.int i,.tup (ls.map nV),.lst (ps.map oj)]]):=by
 let hn:=h.n
 exact (Vl.tup2 (k1:=18000) (k2:=79460) (p:=4) ((Jt h).mono (·) (·)) ((Vl.tup3 (k1:=41) (k2:=504) (k3:=78912) (p:=3) ((Vl.int ⋯ ⋯).mono (·) (·)) ((LS (n:=0) (by rw[hl.len];lia) λa ha=>?_).mono (·) (·)) ?_).mono (·) (·))).2.mono (·) (·)
 ·let(m,hm):=ck.mp ha
  let hml:=(aR.mp hm).1
  have:=(hl.on hml (by rw[aF,hm];rfl)).1
  rw[hl.len] at this
  lia
 ·exact (Vl.lst (k:=547) (p:=2) (m:=144) (λx hx=>?_) (by simpa using t.pl)).mono (·) (·)
  let(q,hq,rfl):=k6.mp hx
  let h3:=t.pos q hq
  let h4:=t.bd q hq
  let hlen:q.S.length<=12:=by
   have:=ux (n:=ws.length) ((t.up q hq).imp λh=>kU h) (t.lt q hq)
   lia
  exact (Vl.tup2 (k1:=504) (k2:=41) (p:=1) ((Vl.tup (k:=41) (p:=0) (m:=12) (λy hy=>?_) (by simpa using hlen)).mono (·) (·)) ((Vl.int ⋯ ⋯).mono (·) (·))).1.mono (·) (·)
  let(m,hm,rfl):=k6.mp hy
  have:=t.lt q hq m hm
  exact Vl.int ⋯ ⋯
def su (d:Nat)(h:Sto ws cs sz)(t:Ppr ws cs sz ps)(hl:Lyg ws cs ls){i:Int}(h1:-10<i)(h2:i<1000000000000){b:Bool}(hb:b=Δ (((rH ls).map sz).sum=i/\(ps.map (·.p)).sum=i)){Q:FV×FV->Prop}(q:Q (.bl Ω,.non)):callW tb (d+7) 37 [pi ws cs,.tup [.int i,.tup (ls.map nV),.lst (ps.map oj)],.bl b] Q:=by
 let(y,ey,hy):=G8 (EG h t hl h1 h2) (·) (·)
 exact oq (fd:=IS) rfl rfl ?_
 simp[IS,JN,ey]
 exact⟨(·),CM d h t hl ?_⟩
 rw[<- hb]
 simp[ey]
 exact⟨(·),by rw[hy];exact q⟩
def DY {ps':List Prc}(hp:ps'.Perm ps)(e:oz):due ps' e=due ps e:=uK ((hp.filter _).map _)
def Ppr.perm (t:Ppr ws cs sz ps){ps':List Prc}(hp:ps'.Perm ps):Ppr ws cs sz ps' :=
 ⟨λe he=>by rw[DY hp];exact t.low e he,λq hq=>t.pos q (hp.mem_iff.mp hq),λq hq=>t.bd q (hp.mem_iff.mp hq),λq hq=>t.ne q (hp.mem_iff.mp hq),λq hq=>t.up q (hp.mem_iff.mp hq),λq hq=>t.lt q (hp.mem_iff.mp hq),(hp.map _).nodup_iff.mpr t.dst,by rw[hp.length_eq];exact t.pl⟩
def Ii (hl:ls.length=ws.length)(hr:Sm cs ls)(hk:∃ r,Rk ls r):Lyg ws cs ls:=by
 exact⟨hl,hk,λe he=>?_⟩
 let(h1,h2):=mem_ens.mp he
 let(on,m):=e
 cases on with
 | none=>exact cK _ (k6.mpr ⟨m,jv.mpr (by rw[<- hl];exact h1),rfl⟩)
 | some a =>
  dsimp only at h1 h2
  rw[aF,bo h1] at h2
  let(c,g,e):=k6.mp (hr m a (by rw[bo h1];exact congrArg Ψ h2))
  simp[keyH] at e
  exact cm _ (k6.mpr ⟨c,g,by rw[show c.1=a by lia,show c.2.1=m by lia]⟩)
def MD (q:Prc):yM (KD q)<=2:=by
 have:∀ l:List Nat,deps (l.map λi:Nat=>D.int i)=0:=λl=>by induction l with|nil=>rfl|cons x r ih=>exact (by show max 0 _=0;rw[ih];rfl)
 simp[KD,yM,deps,this]
def MH (q:Prc):dF (KD q)=oj q:=by simp[KD,dF,tU,oj,dFs,fI]
def DV (ps:List Prc)(R:Bool->Prop):wp (sJ (.lst (ps.map oj)) (.lst [])) R↔R ps.isEmpty:=by
 let e1:FV.lst (ps.map oj)=dF (.lst (ps.map KD)):=by show _=FV.lst (dFs _);rw[yP MH]
 let e2:deps (ps.map KD)<=2:=by
  induction ps with
  | nil=>exact lH _
  | cons q r ih =>
   have:=MD q
   have:=ih (by show _=FV.lst (dFs _);rw[yP MH])
   show max (yM _) (deps _)<=_;lia
 rw[e1,show FV.lst []=dF (.lst []) from rfl,GP (by show deps _+1<_;lia) (·),pA]
 cases ps<;>rfl
def uF (A B:List Prc)(e:oz):due (A++B) e=due A e+due B e:=by simp[due,dU,iG,iz]
def vy (q:Prc)(B:List Prc)(e:oz):due (q :: B) e=(if ent q.S e=Ω then q.p else 0)+due B e:=by
 unfold due
 rw[gF]
 split<;>simp
def Ppr.less {A B:List Prc}{q0:Prc}(t:Ppr ws cs sz (A++q0 :: B)):Ppr ws cs sz (A++(if 1<q0.p then [(⟨q0.S,q0.p-1,0⟩:Prc)] else [])++B)/\((A++(if 1<q0.p then [(⟨q0.S,q0.p-1,0⟩:Prc)] else [])++B).map λq:Prc=>q.p).sum=((A++q0 :: B).map λq:Prc=>q.p).sum-1:=by
 let p0:=t.pos q0 ∅
 let b0:=t.bd q0 ∅
 let hl:=t.pl
 let hd:=t.dst
 by_cases c:1<q0.p
 ·rw[if_pos c]
  let cs':∀ {P:Prc->Prop},(∀ q∈A++q0 :: B,P q)->P ⟨q0.S,q0.p-1,0⟩->∀ q∈A++[⟨q0.S,q0.p-1,0⟩]++B,P q:=λa b q hq=>by
   simp![iF,kj,gu,or_false] at hq
   rcases hq with (hq|hq)|hq
   ·exact a q (by simp[hq])
   ·rw[hq];exact b
   ·exact a q (by simp[hq])
  exact⟨⟨λe he=>?_,cs' t.pos (by show 0<q0.p-1;lia),cs' t.bd (by show q0.p-1<=_;lia),cs' t.ne (t.ne q0 ∅),cs' t.up (t.up q0 ∅),cs' t.lt (t.lt q0 ∅),by simpa using hd,by simpa using hl⟩,by simp;lia⟩
  have:=t.low e he
  rw[uF,vy] at this
  rw[fE,uF,cg,vy]
  dsimp only
  by_cases c2:ent q0.S e=Ω
  ·rw[if_pos c2] at this ⊢;lia
  ·rw[if_neg c2] at this ⊢;lia
 ·rw[if_neg c,iQ]
  let cs':∀ {P:Prc->Prop},(∀ q∈A++q0 :: B,P q)->∀ q∈A++B,P q:=λa q hq=>a q (by
   rcases iF.mp hq with hq|hq<;>simp[hq])
  exact⟨⟨λe he=>?_,cs' t.pos,cs' t.bd,cs' t.ne,cs' t.up,cs' t.lt,?_,by simp at hl ⊢;lia⟩,by simp;lia⟩
  ·have:=t.low e he
   rw[uF,vy] at this
   rw[uF]
   split at this<;>lia
  ·exact hd.sublist ?_
   rw[iG,iG]
   exact List.Sublist.append (fF _) (List.sublist_cons_self _ _)
def uN (d:Nat){N:Int}{v:FV}(h:Sto ws cs sz)(g:Gs ws cs)(t:Ppr ws cs sz ps)(hl:Lyg ws cs ls){i:Int}(hr:((rH ls).map sz).sum=i)(hm:(ps.map (·.p)).sum=i)(hs:Lf N v)(h0:0<=N)(hN:N<9900){Q:FV×FV->Prop}(q:∀ v',Lf (N+50) v'->Q (.bl Ω,v')):callW tb (d+8) 38 [v,pi ws cs,.int i,.tup (ls.map nV),.lst (ps.map oj)] Q:=by
 let hpl:=t.pl
 let hi:0<=i/\i<=600000000000:=by
  have:=zj (xs:=ps.map (·.p)) λx hx=>by
   let(c,hc,rfl):=k6.mp hx
   have:=t.pos c hc
   have:=t.bd c hc
   lia
  rw[iK,hm] at this
  lia
 exact oq (fd:=IR) rfl rfl ?_
 simp[IR,JM]
 rw[DV]
 exact⟨.inl (·),n9 (by split<;>lia) (by split<;>lia),?_⟩
 generalize hcnt:(3*if ps.isEmpty=Ξ then (1:Int) else 0).toNat=cnt
 let hc3:cnt<=3:=by rw[<- hcnt];split<;>lia
 let hc0:0<cnt->0<ps.length:=λz=>by
  cases ps with
  | nil=>simp at hcnt;lia
  | cons a r=>simp
 exact oO (I:=λk L=>∃ ps' v x6,ps'.Perm ps/\Lf (N+k) v/\L=[Ψ v,Ψ (pi ws cs),Ψ (.int i),Ψ (.tup (ls.map nV)),Ψ (.lst (ps.map oj)),Ψ (.lst (ps'.map oj)),x6,Φ,Φ,Φ,Φ,Φ,Φ]) cnt 0 _ ⟨ps,v,Φ,.refl _,by simpa using hs,rfl⟩ (λk L K _ hk hI hK=>?_) λL hI=>?_
 ·let(ps',v,x6,hp,hv,rfl):=hI
  let hlen:=hp.length_eq
  have:=hc0 ⋯
  obtain⟨qs,x,rfl⟩:∃ qs x,ps'=qs++[x]:=by
   let hne:ps'≠[]:=λz=>by rw[z] at hlen;simp at hlen;lia
   exact⟨ps'.dropLast,ps'.getLast hne,(List.dropLast_concat_getLast hne).symm⟩
  rw[dP,cn] at hlen
  simp
  exact ot (d+5) hv ⋯ ⋯ ⋯ λu v1 u0 u1 hv1=>?_
  simp
  refine⟨⟨u0,⋯,by simp![big];lia⟩,hK _ ⟨sD qs u.toNat x,v1,Ψ (.int k),((tK qs _ x).trans (aD x qs).symm).trans hp,hv1.mono (by push_cast;lia),by simp[ins_map oj]⟩⟩
 ·let(ps',v,x6,hp,hv,rfl):=hI
  let hm':(ps'.map (·.p)).sum=i:=by rw[<- hm];exact uK (hp.map _)
  simp
  exact⟨(·),su d h t hl ⋯ ⋯ (b:=Ω) (by simp[hr,hm]) ?_⟩
  simp
  exact⟨(·),su d h (t.perm hp) hl ⋯ ⋯ (b:=Ω) (by simp[hr,hm']) ?_⟩
  simp
  exact⟨(·),?_⟩
  rw[show [FV.int (-1),FV.int 1]=([-1,1]:List Int).map FV.int from rfl]
  exact pf (f:=FV.int) (I:=λ_ L=>∃ x7,L=[Ψ v,Ψ (pi ws cs),Ψ (.int i),Ψ (.tup (ls.map nV)),Ψ (.lst (ps.map oj)),Φ,x6,x7,Φ,Φ,Φ,Φ,Φ]) [-1,1] [-1,1] [] _ rfl ⟨Φ,rfl⟩ (λdd o r L K e hI hK=>?_) λL hI=>?_
  ·let(x7,rfl):=hI
   let ho:o = -1 ∨ o=1:=by
    have:o∈([-1,1]:List Int):=by rw[e];simp
    simpa using this
   simp
   exact⟨(·),su d h t hl ⋯ ⋯ (b:=Ξ) (by rw[hr];exact (decide_eq_false ⋯).symm) ?_⟩
   simp
   exact hK _ ⟨_,rfl⟩
  ·let(x7,rfl):=hI
   simp
   exact Ei (d+4) g hv ⋯ ⋯ λl2 v2 hl2 hrs hrk hv2=>?_
   let hL2:=Ii hl2 hrs hrk
   let hn:=h.n
   let rb:=zj (xs:=(rH l2).map sz) λx hx=>by
    let(e,he,rfl):=k6.mp hx
    have:=h.p e (hL2.ent e he)
    lia
   rw[iK,A6,hl2] at rb
   simp
   exact⟨(·),u4 (d+5) h hL2 ?_⟩
   generalize hR:((rH l2).map sz).sum=R2 at rb ⊢
   rw[codI.eq]
   exact su d h t hL2 ⋯ ⋯ (b:=Δ (R2=i)) (by rw[hR,hm];simp) ?_
   simp
   exact u4 (d+5) h hL2 ⟨(·),u4 (d+5) h hL2 ?_⟩
   rw[hR,codI.eq]
   exact su d h t hL2 ⋯ ⋯ (b:=Δ (R2=i)) (by rw[hR,hm];simp[eq_comm]) ?_
   simp
   rw[DV]
   exact pq (λe=>q v2 (hv2.mono ⋯)) λe=>?_
   exact ot (d+5) hv2 ⋯ (by cases ps with|nil=>simp at e|cons a r=>simp) ⋯ λu v3 u0 u1 hv3=>?_
   obtain⟨j,rfl⟩:∃ j:Nat,u=j:=⟨u.toNat,⋯⟩
   let hj:j<ps.length:=⋯
   obtain⟨A,q0,B,hA,eps⟩:∃ A q0 B,A.length=j/\ps=A++q0 :: B:=⟨ps.take j,ps[j],ps.drop (j+1),by rw[gz];lia,by rw[<- aW hj,cb]⟩
   subst eps
   subst hA
   let(tl,sl):=t.less
   let ct:qi (A.map oj++oj q0 :: B.map oj) Φ (Ψ (A.length:Int))=A.map oj:=by
    rw[D6];simp
   let cf:qi (A.map oj++oj q0 :: B.map oj) (Ψ ((A.length:Int)+1)) Φ=B.map oj:=by
    rw[show ((A.length:Int)+1)=((A.length+1:Nat):Int) by push_cast;rfl,yQ,gH]
    simp
   rw[hm] at sl
   let sw:∀ (R:List Prc) (k:Int)(P:FV×FV->Prop),Ppr ws cs sz R->(R.map λq:Prc=>q.p).sum=i-1->-10<k->k<1000000000000->P (.bl Ω,.non)->callW tb (d+7) 37 [pi ws cs,.tup [.int k,.tup (ls.map nV),.lst (R.map oj)],.bl Ξ] P:=λR k P tR sR k1 k2 hP =>
    su d h tR hl k1 k2 (b:=Ξ) (by rw[hr,sR];exact (decide_eq_false ⋯).symm) hP
   let hAB:A.length+B.length<144:=by simp at hpl;lia
   simp
   rw[p9 rfl (v:=oj q0) ∅]
   by_cases c1:1<q0.p
   ·rw[if_pos c1] at tl sl
    simp[oj] at ct cf ⊢
    rw[if_pos c1,ct,cf]
    have:=λk P=>sw _ k P tl sl
    simp[oj] at this
    exact⟨(·),(·),by simp[big];lia,by simp[big];lia,(·),this i _ ⋯ ⋯ ?_⟩
    simp
    exact⟨(·),this (i-1) _ ⋯ ⋯ (q v3 (hv3.mono ⋯))⟩
   ·rw[if_neg c1] at tl sl
    simp[oj] at ct cf ⊢
    rw[if_neg c1,ct,cf]
    have:=λk P=>sw _ k P tl sl
    simp[oj] at this
    exact⟨by simp[big];lia,by simp[big];lia,(·),this i _ ⋯ ⋯ ?_⟩
    simp
    exact⟨(·),this (i-1) _ ⋯ ⋯ (q v3 (hv3.mono ⋯))⟩
end
def vQ (d:Nat){ws:List Int}{cs:List qj}{sz:oz->Int}(h:Sto ws cs sz){Q:FV×FV->Prop}(q:∀ ps ls,Told ws cs sz ps ls->ps.length<=144->Q (.tup [.int (ps.map (·.p)).sum,.tup (ls.map nV),.lst (ps.map oj)],.non)):callW tb (d+3) 15 [pi ws cs] Q:=by
 let G:=h.est
 let hn:=h.n
 let hl:=h.l2
 exact EN d ⋯ ⋯ h.w h.c G λfr ps us ls H c hall hls hat hp=>q ps ls ?_ (by simp[qh] at hp;lia)
 let rg:Kf ws.length fr:=λe he=>G.rg e (H.sub e he)
 let(hr,hperm):=c.lay rg hls hat
 exact⟨hls,hr,λe he=>H.sub e (c.sub e (hperm.mem_iff.mp he)),?_,H.low,H.pos,λq hq=>?_,H.ne,H.up,H.lt,H.dst,by simp[qh] at hp;lia⟩
 ·rw[uK (hperm.map sz)]
  exact c.room H hall
 ·let(e,g1,g2):=H.hit q hq
  have:=xz g2 H.pos hq
  have:=(H.free e (H.sub e g1)).mp g1
  have:=(h.p e (H.sub e g1)).2
  lia
def Told.ppr {ws:List Int}{cs:List qj}{sz:oz->Int}{ps:List Prc}{ls:List (Option Nat)}(t:Told ws cs sz ps ls)(h:ps.length<=144):Ppr ws cs sz ps:=⟨t.low,t.pos,t.bd,t.ne,t.up,t.lt,t.dst,h⟩
def Pls.ppr {n:Nat}{ws:List Int}{cs:List qj}{ls:List (Option Nat)}{ps:List Prc}(h:Pls n ws cs ls ps):Ppr ws cs (zg ws cs) ps :=
 ⟨h.sto.2.2.1,λq hq=>(h.p.pos q hq).1,λq hq=>by have:=(h.p.pos q hq).2;lia,h.p.ne,h.p.up,λq hq m hm=>by have:=h.p.lt q hq m hm;rw[h.l] at this;rw[h.w.l];exact this,h.p.dst,by have:=h.p.len;lia⟩
def Pls.gs {n:Nat}{ws:List Int}{cs:List qj}{ls:List (Option Nat)}{ps:List Prc}(h:Pls n ws cs ls ps):Gs ws cs:=by
 let(hS,_,_,_):=h.sto
 let hb:=h.bd
 exact⟨hS.n,λx hx=>?_,λc hc=>?_,hS.l,hS.k⟩
 ·let(m,hm,rfl):=cI.mp hx
  let he:(Φ,m)∈qh ws.length cs:=cK _ (k6.mpr ⟨m,jv.mpr hm,rfl⟩)
  let h1:=hS.p _ he
  let h2:=hb _ he
  rw[hS.w m hm] at h1 h2
  lia
 ·let he:(Ψ c.1,c.2.1)∈qh ws.length cs:=cm _ (k6.mpr ⟨c,hc,rfl⟩)
  let h1:=hS.p _ he
  let h2:=hb _ he
  rw[hS.c c hc] at h1 h2
  have:=hS.r c hc
  exact⟨this.1,this.2.1,this.2.2,⋯,⋯⟩
def law_val (ns:List Int):callW tb 14 39 [.scr ns] λz=>z.1=.bl Ω:=by
 exact oq (fd:=IQ) rfl rfl ?_
 simp[IQ,JL]
 exact DR 12 ns λms hm=>?_
 simp
 let e0:∃ k:Nat,(if (2:Int)<(ms.length:Int) then (ms.length:Int) else 2)=k/\k<=6:=by
  by_cases z:(2:Int)<(ms.length:Int)
  ·exact⟨ms.length,by rw[if_pos z],⋯⟩
  ·exact⟨2,by rw[if_neg z];rfl,⋯⟩
 let(k0,ek,hk0):=e0
 rw[ek,fG]
 exact⟨n9 ⋯ ⋯,?_⟩
 exact oO (I:=λ_ L=>∃ a b c d e f g h i j,L=[Ψ (FV.scr ns),Ψ (FV.lst (ms.map FV.int)),a,b,c,d,e,f,g,h,i,j]) k0 0 _ ⟨_,_,_,_,_,_,_,_,_,_,rfl⟩ (λk L K _ hk hI hK=>?_) λL hI=>?_
 ·let(x2,x3,x4,x5,x6,x7,x8,x9,x10,x11,rfl):=hI
  simp
  exact Dw 12 ms k λv y hv=>?_
  let(b0,b1,b2,rfl,hc0,hc1):=hv
  simp
  let hv:Lf 0 (.lst [.int b0,.int (b1+300),.int b2]):=⟨_,_,_,rfl,hc0,hc1⟩
  rw[vd (n:=3) (i:=1) (j:=1) rfl ⋯]
  simp
  exact AC 10 hv ⋯ λn v hn hv=>?_
  simp
  exact zx 9 hv ⋯ ⋯ hn λws cs ls ps v hp hv=>?_
  let(hS,hL,hlow,ZV):=hp.sto
  let tp:=hp.ppr
  let room0:=vV ZV hp.p.one
  simp
  exact vQ 10 hS λqs ts t ht=>?_
  let hlen:ws.length=n:=hp.w.l
  let(r0,hr0):=hL.rk
  let(r1,hr1):=t.rk
  let hT:Lyg ws cs ts:=⟨t.len,t.rk,t.ent⟩
  let eN:(qs.map (·.p)).sum=(ps.map (·.p)).sum:=by
   let h1:=t.least hL.len hr0 hL.ent
   rw[room0] at h1
   let h2:=vW (λe he=>hlow e (t.ent e he)) (λq hq=>(hp.p.pos q hq).1) λq hq=>hr1.enter (hp.p.ne q hq) λm hm=>by have:=hp.p.lt q hq m hm;rw[t.len,hlen,<- hp.l];exact this
   rw[t.sum] at h2
   lia
  simp
  let tq:=t.ppr ht
  exact⟨(·),?_⟩
  rw[show [FV.tup (ls.map nV),FV.tup (ts.map nV)]=[ls,ts].map (λl=>FV.tup (l.map nV)) from rfl]
  exact pf (f:=λl:List (Option Nat)=>FV.tup (l.map nV)) (I:=λdd L=>∃ v x10 x11,Lf (2100+100*(dd.length:Int)) v/\L=[Ψ (FV.scr ns),Ψ (FV.lst (ms.map FV.int)),Ψ (FV.int k),Ψ v,Ψ (pi ws cs),Ψ (FV.tup (ls.map nV)),Ψ (FV.lst (ps.map oj)),Ψ (FV.int (qs.map (·.p)).sum),Ψ (FV.tup (ts.map nV)),Ψ (FV.lst (qs.map oj)),x10,x11]) [ls,ts] [ls,ts] [] _ rfl ⟨v,x10,x11,hv.mono ∅,rfl⟩ (λdd l r L K2 e hI hK2=>?_) λL hI=>?_
  ·let(v,x10,x11,hv,rfl):=hI
   let hdl:dd.length<=1:=by
    have:=congrArg lK e
    simp at this;lia
   let hl:Lyg ws cs l/\((rH l).map (zg ws cs)).sum=(qs.map (·.p)).sum:=by
    have:l∈[ls,ts]:=by rw[e];simp
    simp![kj,gu,or_false] at this
    rcases this with rfl|rfl
    ·exact⟨hL,by rw[room0,eN]⟩
    ·exact⟨hT,t.sum⟩
   simp
   exact⟨(·),?_⟩
   rw[show [FV.lst (ps.map oj),FV.lst (qs.map oj)]=[ps,qs].map (λl=>FV.lst (l.map oj)) from rfl]
   exact pf (f:=λl:List Prc=>FV.lst (l.map oj)) (I:=λd2 L=>∃ v x11,Lf (2100+100*(dd.length:Int)+50*(d2.length:Int)) v/\L=[Ψ (FV.scr ns),Ψ (FV.lst (ms.map FV.int)),Ψ (FV.int k),Ψ v,Ψ (pi ws cs),Ψ (FV.tup (ls.map nV)),Ψ (FV.lst (ps.map oj)),Ψ (FV.int (qs.map (·.p)).sum),Ψ (FV.tup (ts.map nV)),Ψ (FV.lst (qs.map oj)),Ψ (FV.tup (l.map nV)),x11]) [ps,qs] [ps,qs] [] _ rfl ⟨v,x11,hv.mono ∅,rfl⟩ (λd2 m r L K3 e hI hK3=>?_) λL hI=>?_
   ·let(v,x11,hv,rfl):=hI
    let hdl:d2.length<=1:=by
     have:=congrArg lK e
     simp at this;lia
    let hm:Ppr ws cs (zg ws cs) m/\(m.map (·.p)).sum=(qs.map (·.p)).sum:=by
     have:m∈[ps,qs]:=by rw[e];simp
     simp![kj,gu,or_false] at this
     rcases this with rfl|rfl
     ·exact⟨tp,eN.symm⟩
     ·exact⟨tq,rfl⟩
    simp
    exact uN 5 hS hp.gs hm.1 hl.1 hl.2 hm.2 hv ⋯ ⋯ λv' hv'=>?_
    simp
    exact hK3 _ ⟨v',_,hv'.mono (by simp;lia),rfl⟩
   ·let(v,x11,hv,rfl):=hI
    exact hK2 _ ⟨v,_,_,hv.mono (by simp;lia),rfl⟩
  ·let(v,x10,x11,hv,rfl):=hI
   simp at hv
   simp
   exact AC 10 hv ⋯ λn v hn hv=>?_
   exact BP 9 hv ⋯ ⋯ hn λws cs v hG hw hv=>?_
   let hS:=hG.sto
   simp
   exact vQ 10 hS λqs ts t ht=>?_
   simp
   exact uN 5 hS (hG.mono ⋯) (t.ppr ht) ⟨t.len,t.rk,t.ent⟩ t.sum rfl hv ⋯ ⋯ λv hv=>?_
   simp
   exact ot 11 hv ⋯ ⋯ ⋯ λu v u0 u1 hv=>?_
   obtain⟨j,rfl⟩:∃ j:Nat,u=j:=⟨u.toNat,⋯⟩
   simp
   rw[show (4:Int)+(j:Int)=((4+j:Nat):Int) by push_cast;rfl]
   exact E2 9 hv ⋯ ⋯ ⋯ ⋯ λws cs ls ps v hp hv=>?_
   let(hS,hL,hlow,ZV):=hp.sto
   let tp:=hp.ppr
   let room0:=vV ZV hp.p.one
   let hpl:=hp.p.len
   simp
   exact⟨by simp![big];lia,?_⟩
   exact pC (f:=oj) (g:=λq=>.int q.p) ps [] (λq hq K k=>?_) ?_
   ·simp[oj]
    exact k
   ·rw[iD,show (ps.map λq=>FV.int q.p)=(ps.map (·.p)).map .int by rw[k9];rfl]
    exact so (by simp;lia) (λx hx=>?_) ?_
    ·let(c,hc,rfl):=k6.mp hx
     exact tp.pb c hc
    ·simp
     exact uN 5 hS hp.gs tp hL room0 rfl hv ⋯ ⋯ λv hv=>?_
     simp
     exact hK _ ⟨_,_,_,_,_,_,_,_,_,_,rfl⟩
 ·let(x2,x3,x4,x5,x6,x7,x8,x9,x10,x11,rfl):=hI
  simp
end Kq
set_option maxRecDepth 100000
set_option maxHeartbeats 4000000
namespace Kq
open PySem PySem.Spec PyProof.Rows L2 PySem.W
abbrev top (i:Nat):nL:=PySem.Challenge.pw_keepwhole_k17_least_room_shown.main.body.getD i (.Pass ⟨0,0,0,0⟩)
abbrev d0:Df:=⟨"is_number",top 1,["thing"],["thing"],[]⟩
abbrev d1:Df:=⟨"is_tuple_of",top 2,["thing","many"],["thing","many"],[]⟩
abbrev d2:Df:=⟨"is_size",top 4,["thing"],["thing"],[]⟩
abbrev d3:Df:=⟨"is_make",top 5,["thing","makes"],["thing","makes"],[]⟩
abbrev d4:Df:=⟨"is_laying",top 6,["stock","thing"],["stock","thing","makes","sizes","make","on"],[]⟩
abbrev d5:Df:=⟨"comes_from_whole",top 7,["laying","make"],["laying","make","on","step"],[]⟩
abbrev d6:Df:=⟨"change_sizes",top 8,["stock"],["stock"],[]⟩
abbrev d7:Df:=⟨"kept_sizes",top 9,["stock","laying"],["stock","laying","sizes"],[]⟩
abbrev d8:Df:=⟨"room",top 10,["stock","laying"],["stock","laying"],[]⟩
abbrev d9:Df:=⟨"shows_least_room",top 12,["stock","thing"],["stock","thing","number","laying","paper"],[]⟩
abbrev R9:Df:=⟨"is_paper",top 13,["stock","thing"],["stock","thing"],[]⟩
abbrev R8:Df:=⟨"is_priced",top 14,["thing","many"],["thing","many","makes","price"],[]⟩
abbrev R7:Df:=⟨"are_makes",top 15,["thing","many"],["thing","many"],[]⟩
abbrev R6:Df:=⟨"keeps_to_wholes",top 16,["stock","paper"],["stock","paper","make","size"],[]⟩
abbrev R5:Df:=⟨"keeps_to_changes",top 17,["stock","paper"],["stock","paper","a","b","size"],[]⟩
abbrev R4:Df:=⟨"least_room",top 19,["stock"],["stock","many","left","free","paper","makes","entering","price","entry"],[.imm,.imm,.own,.own,.own]⟩
abbrev R3:Df:=⟨"entry_sizes",top 20,["stock"],["stock","sizes","a","b","size"],[.imm,.own]⟩
abbrev R0:Df:=⟨"next_makes",top 21,["many","free"],["many","free","fewest","make","found"],[]⟩
abbrev RZ:Df:=⟨"leading_to",top 22,["free","make"],["free","make","found","at"],[.imm,.imm,.own]⟩
abbrev RY:Df:=⟨"laid_by",top 23,["many","free"],["many","free","laid","on","make"],[.imm,.imm,.own]⟩
abbrev RX:Df:=⟨"_law_mix",top 25,["_law_cell","_law_k"],["_law_cell","_law_k","_law_m"],[]⟩
abbrev RW:Df:=⟨"_law_left",top 26,["_law_script","_law_k"],["_law_script","_law_k","_law_cell"],[]⟩
abbrev RT:Df:=⟨"_law_pick",top 27,["_law_left_here","_law_many_here"],["_law_left_here","_law_many_here","_law_digit"],[.own]⟩
abbrev RS:Df:=⟨"_law_folded",top 28,["_law_script","_law_many_here"],["_law_script","_law_many_here","_law_cells","_law_k","_law_cell"],[.imm,.imm,.own]⟩
abbrev RQ:Df:=⟨"_law_size",top 29,["_law_left_here","_law_great"],["_law_left_here","_law_great","_law_way_drawn"],[.own]⟩
abbrev RP:Df:=⟨"_law_many",top 30,["_law_left_here","_law_most"],["_law_left_here","_law_most"],[.own]⟩
abbrev RN:Df:=⟨"_law_stock",top 31,["_law_left_here","_law_many_here"],["_law_left_here","_law_many_here","_law_great","_law_often","_law_wholes","_law_changes","_law_a","_law_b"],[.own,.imm,.imm,.imm,.imm,.own]⟩
abbrev RL:Df:=⟨"_law_a_laying",top 32,["_law_left_here","_law_stock_here"],["_law_left_here","_law_stock_here","_law_many_here","_law_order","_law_k","_law_laid","_law_at","_law_make","_law_some"],[.own,.imm,.imm,.own,.imm,.own]⟩
abbrev RK:Df:=⟨"_law_numbers",top 33,["_law_some"],["_law_some"],[]⟩
abbrev RJ:Df:=⟨"_law_sizes",top 34,["_law_stock_here"],["_law_stock_here"],[]⟩
abbrev RI:Df:=⟨"_law_way",top 35,["_law_laying","_law_make"],["_law_laying","_law_make","_law_found"],[.imm,.imm,.own]⟩
abbrev RG:Df:=⟨"_law_room",top 36,["_law_stock_here","_law_laying"],["_law_stock_here","_law_laying","_law_sizes_here","_law_total","_law_make","_law_on"],[]⟩
abbrev RF:Df:=⟨"_law_is_laying",top 37,["_law_stock_here","_law_laying"],["_law_stock_here","_law_laying","_law_sizes_here","_law_make","_law_here","_law_turn"],[]⟩
abbrev RE:Df:=⟨"_law_into",top 38,["_law_paper","_law_begin","_law_make"],["_law_paper","_law_begin","_law_make"],[]⟩
abbrev RD:Df:=⟨"_law_is_paper",top 39,["_law_stock_here","_law_paper"],["_law_stock_here","_law_paper","_law_met","_law_pair","_law_makes","_law_price"],[.imm,.imm,.own]⟩
abbrev RC:Df:=⟨"_law_planted",top 40,["_law_left_here","_law_many_here"],["_law_left_here","_law_many_here","_law_laid","_law_order","_law_k","_law_at","_law_make","_law_paper","_law_below","_law_some","_law_price","_law_wholes","_law_changes","_law_b","_law_more","_law_a","_law_size_here"],[.own,.imm,.own,.own,.imm,.imm,.imm,.own,.imm,.imm,.imm,.own,.own]⟩
abbrev Rz:Df:=⟨"_law_planted_row",top 41,["_law_left_here","_law_many_here"],["_law_left_here","_law_many_here","_law_order","_law_laid","_law_paper","_law_k","_law_at","_law_end","_law_wholes","_law_changes","_law_b","_law_a"],[.own,.imm,.own,.own,.own,.imm,.imm,.imm,.own,.own]⟩
abbrev Ry:Df:=⟨"_law_says",top 42,["_law_stock_here","_law_thing","_law_due"],["_law_stock_here","_law_thing","_law_due","_law_kept","_law_found"],[]⟩
abbrev Rx:Df:=⟨"_law_shown_right",top 43,["_law_left_here","_law_stock_here","_law_number","_law_laid","_law_paper"],["_law_left_here","_law_stock_here","_law_number","_law_laid","_law_paper","_law_turned","_law_turn","_law_off","_law_other","_law_at","_law_makes","_law_price","_law_less"],[.own,.imm,.imm,.imm,.imm,.own]⟩
abbrev d39:Df:=⟨"law",top 44,["_law_script"],["_law_script","_law_cells","_law_k","_law_left_here","_law_stock_here","_law_laid","_law_paper","_law_number","_law_own","_law_prices","_law_one","_law_other"],[.imm,.imm,.imm,.own]⟩
abbrev fns:Fns:=⟨[kL "is_number",kL "is_tuple_of",kL "is_size",kL "is_make",kL "is_laying",kL "comes_from_whole",kL "change_sizes",kL "kept_sizes",kL "room",kL "shows_least_room",kL "is_paper",kL "is_priced",kL "are_makes",kL "keeps_to_wholes",kL "keeps_to_changes",kL "least_room",kL "entry_sizes",kL "next_makes",kL "leading_to",kL "laid_by",kL "_law_mix",kL "_law_left",kL "_law_pick",kL "_law_folded",kL "_law_size",kL "_law_many",kL "_law_stock",kL "_law_a_laying",kL "_law_numbers",kL "_law_sizes",kL "_law_way",kL "_law_room",kL "_law_is_laying",kL "_law_into",kL "_law_is_paper",kL "_law_planted",kL "_law_planted_row",kL "_law_says",kL "_law_shown_right",kL "law"],[],[]⟩
noncomputable abbrev DB (d:Df)(fr:Bool)(b:CW->SW):Prop:=∀ (X:Cx)(call:CW) (n:Nat),Good X (d.cc fns) n (Hb tb call)->Bp X (d.cc fns) fr (pV d.st) (b call)
local macro_rules | `(tactic| ac_rfl)=>do
 let g:=Lean.mkIdent `G
 let mut ts:Array (Lean.TSyntax ``Lean.Parser.Tactic.tacticSeq):=#[]
 for r in ("§PP 12210;N6 03110;QI 00010;Qe 00010;or 02010;Px 11110;rG 01010;Mf 12110;Pu 01010;Ms 18710;N3 16510;fe_ix 03110;NP 00010;Pv 00010;fs_if 03010;Pt 14310;fe_bl 00010;PQ 01010;Mg 11110;Ql 02010;CompOk.mk 05110;GO 11010;QB 01010;Qc 13210;Qb 13210;NC 00010;Qa 01010;Pp 02010;NA 01010;NE 14310;PN 01010;fw_or 02010;NH 02110;Ml 13210;Qj 02010;Mv 03110;P7 02010;Qd 15410;P2 01010;fb_eq 12010;QF 13010;Po 01010;NB 01010;fb_gt 02010;NL 01010;Qh 15410;fe_eq 12010;QD 02010;N5 13210;QC 13010;Mt 16510;P8 02010;Mn 13210;fs_ix 15310;Qk 13210;PR 13210;P4 00010;fb_ne 12010;fe_if 03010;NM 00010;PU 02010;Qf 15410;N4 01010;QE 01010;NS 16510;Pq 02010;NQ 13310;NF 12210;P6 01010;fe_ge 02010;fe_sl 03010;PY 02010;PL 02010;NU 01010;fe_ne 12010;Py 04210;P3 01010;N2 12010;P9 02010;N1 13210;NK 13210;Mq 13210;Qm 13210;NZ 02010;PX 03010;NR 13210;PV 13110;Qi 13210;NX 13210;NW 15310;L8 14210;Mp 13210;Mm 13210;Mr 04010;NT 13210;Ps 12110;NV 13210;NJ 15310;L9 15310;Pw 13210;Mi 00010;NY 13210;NI 15310;Qg 13210;ND 14210;N0 13210;P5 13010;Mj 16510;Pz 00010;L7 13210;PZ 13310;Pr 14210;QG 01010;NG 01010;fr_of 01010;QA 02110;fb_w 01010;NQ 13311;NS 16511;Mj 16511;PF 01000;PJ 13200;NO 13200;PK 12200;Me 13300;PB 15300;Mc 12200;NN 15300;Qe 00000;fe_bl 00000;P4 00000".drop 1).toString.splitOn ";" do
  let [n,c]:=r.splitOn " " | continue
  let [a,k,s,w,e]:=c.toList.map λx=>x.toNat-48|continue
  let f:=Lean.mkIdent n.toName
  let mut as:Array Lean.Term:=if a=1 then #[g] else #[]
  for _ in [0:k] do as:=as.push (<- `(?_))
  let mut t <- if as.isEmpty then `(tactic| exact $f) else `(tactic| refine $f $as*)
  if w=1 then t <- `(tactic| with_reducible $t:tactic)
  if e=1 then t <- `(tactic| ((with_reducible exact pJ ?_); $t:tactic))
  for _ in [0:s] do t <- `(tactic| (($t:tactic); first | decide +kernel | rfl))
  ts:=ts.push (<- `(Lean.Parser.Tactic.tacticSeq| $t:tactic))
 ts:=ts.push (<- `(Lean.Parser.Tactic.tacticSeq| first | decide +kernel))
 `(tactic| repeat' first $[| $ts]*)
local macro_rules | `(tactic| ac_nf)=>do
 let g:=Lean.mkIdent `G
 `(tactic| (intro _ $g:ident; ac_rfl))
local macro_rules | `(tactic| eq_refl)=>do
 let g:=Lean.mkIdent `G
 `(tactic| (intro $g:ident; ac_rfl))
local macro_rules | `(tactic| exists $e)=>`(tactic| (refine $e; ac_rfl))
local macro_rules | `(tactic| exists $e,$g:ident)=>`(tactic| (intro X call n $g:ident; refine $e; ac_rfl))
def db0:DB d0 Ξ On:=by
 delta On
 exists rG ?_,G
def db1:DB d1 Ξ Om:=by
 delta Om
 exists rG ?_,G
def db2:DB d2 Ξ Ol:=by
 delta Ol
 exists rG ?_,G
def db3:DB d3 Ξ Oj:=by
 delta Oj
 exists rG ?_,G
def db4:DB d4 Ξ Sd:=by
 exists or ?_ ?_,G
 exists oC G (md':=[]) ?_ ?_ ?_ ?_
 eq_refl
 exists pJ (oE G (own:=["make"]) (md':=[]) ?_)
 ac_nf
 ac_nf
 ac_nf
def db5:DB d5 Ξ Sc:=by
 exists or ?_ ?_,G
 exists oC G (md':=[]) ?_ ?_ ?_ ?_
 eq_refl
def db6:DB d6 Ξ Oi:=by
 delta Oi
 exists rG ?_,G
 exists DS G (own:=["a","b","size"]) (md':=[]) ?_ ?_
 ac_nf
 ac_nf
 ac_nf
 ac_nf
def db7:DB d7 Ξ Sb:=by
 exists or ?_ ?_,G
 exists pJ (oE G (own:=["make","on"]) (md':=[]) ?_)
 ac_nf
 ac_nf
 ac_nf
def db8:DB d8 Ξ Oh:=by
 delta Oh
 exists rG ?_,G
def db9:DB d9 Ξ Sa:=by
 exists or ?_ ?_,G
 exists pJ (oE G (own:=["makes","price"]) (md':=[]) ?_)
 ac_nf
 ac_nf
 ac_nf
def Rw:DB R9 Ξ Ka:=by
 exists or ?_ ?_,G
 exists pJ (oE G (own:=["pair"]) (md':=[]) ?_)
 ac_nf
 ac_nf
 ac_nf
 exists B6 G (own:=["makes","price"]) (md':=[]) ?_ ?_
 ac_nf
 ac_nf
 ac_nf
def Rv:DB R8 Ξ J9:=by
 exists or ?_ ?_,G
def Ru:DB R7 Ξ J8:=by
 exists or ?_ ?_,G
 exists pJ (oE G (own:=["make"]) (md':=[]) ?_)
 ac_nf
 ac_nf
 ac_nf
 exists pJ (oE G (own:=["ahead","behind"]) (md':=[]) ?_)
 ac_nf
 ac_nf
 ac_nf
def Rt:DB R6 Ξ J7:=by
 exists or ?_ ?_,G
 exists oC G (md':=[]) ?_ ?_ ?_ ?_
 eq_refl
 exists pJ (oE G (own:=["makes","price"]) (md':=[]) ?_)
 ac_nf
 ac_nf
 ac_nf
def Rs:DB R5 Ξ J6:=by
 exists or ?_ ?_,G
 exists oC G (md':=[]) ?_ ?_ ?_ ?_
 eq_refl
 exists pJ (oE G (own:=["makes","price"]) (md':=[]) ?_)
 ac_nf
 ac_nf
 ac_nf
def Rr:DB R4 Ξ J5:=by
 exists or ?_ ?_,G
 eq_refl
 exists xq G (own:=["on","make"]) (md':=[.imm,.imm,.frz,.own,.own]) ?_ ?_ ?_
 ac_nf
 ac_nf
 ac_nf
 exists pJ (oE G (own:=["entry"]) (md':=[.imm,.imm,.own,.own,.own]) ?_)
 ac_nf
 ac_nf
 ac_nf
 exists oC G (md':=[.imm,.imm,.own,.own,.own]) ?_ ?_ ?_ ?_
 eq_refl
 exists pJ (oE G (own:=["entry"]) (md':=[.imm,.imm,.own,.own,.own]) ?_)
 ac_nf
 ac_nf
 ac_nf
 exists pJ (oE G (own:=["pair"]) (md':=[.imm,.imm,.own,.own,.frz]) ?_)
 ac_nf
 ac_nf
 ac_nf
def Rp:DB R3 Ω J4:=by
 exists or ?_ ?_,G
 exists DP G (own:=["make","size"]) (md':=[.imm,.own]) ?_ ?_ ?_ ?_
 ac_nf
 ac_nf
 ac_nf
 ac_nf
 exists oC G (md':=[.imm,.own]) ?_ ?_ ?_ ?_
 eq_refl
def Ro:DB R0 Ξ J3:=by
 exists or ?_ ?_,G
 exists oC G (md':=[]) ?_ ?_ ?_ ?_
 eq_refl
def Rn:DB RZ Ω J2:=by
 exists or ?_ ?_,G
 exists pJ (oE G (own:=["on","to"]) (md':=[.imm,.imm,.own]) ?_)
 ac_nf
 ac_nf
 ac_nf
def Rm:DB RY Ξ J1:=by
 exists or ?_ ?_,G
 exists pJ (oE G (own:=["entry"]) (md':=[.imm,.imm,.own]) ?_)
 ac_nf
 ac_nf
 ac_nf
 exists pJ (oE G (own:=["make"]) (md':=[.imm,.imm,.own]) ?_)
 ac_nf
 ac_nf
 ac_nf
def Rl:DB RX Ξ JZ:=by
 exists or ?_ ?_,G
def Rj:DB RW Ω JY:=by
 exists or ?_ ?_,G
def Rh:DB RT Ξ Gj:=by
 exists or ?_ ?_,G
def Rg:DB RS Ω JX:=by
 exists or ?_ ?_,G
 exists oC G (md':=[.imm,.imm,.own]) ?_ ?_ ?_ ?_
 eq_refl
def Rf:DB RQ Ξ JW:=by
 exists or ?_ ?_,G
def Re:DB RP Ξ JV:=by
 exists or ?_ ?_,G
def Rb:DB RN Ξ JU:=by
 exists or ?_ ?_,G
 exists pJ (oE G (own:=["_law_k"]) (md':=[.own,.imm,.imm,.imm,.imm,.own]) ?_)
 ac_nf
 ac_nf
 ac_nf
 exists oC G (md':=[.own,.imm,.imm,.imm,.imm,.own]) ?_ ?_ ?_ ?_
 eq_refl
 exists oC G (md':=[.own,.imm,.imm,.imm,.imm,.own]) ?_ ?_ ?_ ?_
 eq_refl
def Ra:DB RL Ξ JT:=by
 exists or ?_ ?_,G
 exists oC G (md':=[.own,.imm,.imm,.own,.imm,.own]) ?_ ?_ ?_ ?_
 eq_refl
 exists oC G (md':=[.own,.imm,.imm,.frz,.imm,.own]) ?_ ?_ ?_ ?_
 eq_refl
 exists xq G (own:=["_law_a","_law_b","_law_size_here"]) (md':=[.own,.imm,.imm,.frz,.imm,.own]) ?_ ?_ ?_
 ac_nf
 ac_nf
 ac_nf
def Q9:DB RK Ξ JS:=by
 delta JS
 exists rG ?_,G
 exists pJ (oE G (own:=["_law_one"]) (md':=[]) ?_)
 ac_nf
 ac_nf
 ac_nf
def Q8:DB RJ Ξ Gi:=by
 delta Gi
 exists rG ?_,G
 exists pJ (oE G (own:=["_law_a","_law_b","_law_size_here"]) (md':=[]) ?_)
 ac_nf
 ac_nf
 ac_nf
def Q7:DB RI Ω JR:=by
 exists or ?_ ?_,G
def Q6:DB RG Ξ JQ:=by
 exists or ?_ ?_,G
 exists oC G (md':=[]) ?_ ?_ ?_ ?_
 eq_refl
def Q5:DB RF Ξ MQ:=by
 exists or ?_ ?_,G
 exists pJ (oE G (own:=["_law_make","_law_on"]) (md':=[]) ?_)
 ac_nf
 ac_nf
 ac_nf
 exists oC G (md':=[]) ?_ ?_ ?_ ?_
 eq_refl
 exists oC G (md':=[]) ?_ ?_ ?_ ?_
 eq_refl
def Q4:DB RE Ξ Gh:=by
 delta Gh
 exists rG ?_,G
 exists pJ (oE G (own:=["_law_makes","_law_price"]) (md':=[]) ?_)
 ac_nf
 ac_nf
 ac_nf
def Q3:DB RD Ξ MP:=by
 exists or ?_ ?_,G
 exists oC G (md':=[.imm,.imm,.own]) ?_ ?_ ?_ ?_
 eq_refl
 exists pJ (oE G (own:=["_law_make"]) (md':=[.imm,.imm,.own]) ?_)
 ac_nf
 ac_nf
 ac_nf
 exists pJ (oE G (own:=["_law_make","_law_size_here"]) (md':=[.imm,.imm,.own]) ?_)
 ac_nf
 ac_nf
 ac_nf
 exists pJ (oE G (own:=["_law_a","_law_b","_law_size_here"]) (md':=[.imm,.imm,.own]) ?_)
 ac_nf
 ac_nf
 ac_nf
def Q2:DB RC Ξ JP:=by
 exists or ?_ ?_,G
 exists oC G (md':=[.own,.imm,.own,.own,.imm,.imm,.imm,.own,.imm,.imm,.imm,.own,.own]) ?_ ?_ ?_ ?_
 eq_refl
 exists oC G (md':=[.own,.imm,.own,.frz,.imm,.imm,.imm,.own,.imm,.imm,.imm,.own,.own]) ?_ ?_ ?_ ?_
 eq_refl
 exists oC G (md':=[.own,.imm,.own,.own,.imm,.imm,.imm,.own,.imm,.imm,.imm,.own,.own]) ?_ ?_ ?_ ?_
 eq_refl
 exists xq G (own:=["_law_other"]) (md':=[.own,.imm,.own,.own,.imm,.imm,.imm,.own,.imm,.imm,.imm,.own,.own]) ?_ ?_ ?_
 ac_nf
 ac_nf
 ac_nf
 exists oC G (md':=[.own,.imm,.own,.own,.imm,.imm,.imm,.own,.imm,.imm,.imm,.own,.own]) ?_ ?_ ?_ ?_
 eq_refl
 exists pJ (oE G (own:=["_law_makes","_law_own"]) (md':=[.own,.imm,.own,.own,.imm,.imm,.imm,.frz,.imm,.imm,.imm,.own,.own]) ?_)
 ac_nf
 ac_nf
 ac_nf
 exists oC G (md':=[.own,.imm,.own,.own,.imm,.imm,.imm,.own,.imm,.imm,.imm,.own,.own]) ?_ ?_ ?_ ?_
 eq_refl
 exists oC G (md':=[.own,.imm,.own,.own,.imm,.imm,.imm,.own,.imm,.imm,.imm,.own,.own]) ?_ ?_ ?_ ?_
 eq_refl
def QZ:DB Rz Ξ JO:=by
 exists or ?_ ?_,G
 exists oC G (md':=[.own,.imm,.own,.own,.own,.imm,.imm,.imm,.own,.own]) ?_ ?_ ?_ ?_
 eq_refl
 exists oC G (md':=[.own,.imm,.own,.own,.own,.imm,.imm,.imm,.own,.own]) ?_ ?_ ?_ ?_
 eq_refl
 exists oC G (md':=[.own,.imm,.own,.own,.own,.imm,.imm,.imm,.own,.own]) ?_ ?_ ?_ ?_
 eq_refl
 exists oC G (md':=[.own,.imm,.own,.own,.own,.imm,.imm,.imm,.own,.own]) ?_ ?_ ?_ ?_
 eq_refl
 exists oC G (md':=[.own,.imm,.own,.own,.own,.imm,.imm,.imm,.own,.own]) ?_ ?_ ?_ ?_
 eq_refl
def QY:DB Ry Ξ JN:=by
 exists or ?_ ?_,G
def QX:DB Rx Ξ JM:=by
 exists or ?_ ?_,G
 exists oC G (md':=[.own,.imm,.imm,.imm,.imm,.own]) ?_ ?_ ?_ ?_
 eq_refl
 exists oC G (md':=[.own,.imm,.imm,.imm,.imm,.own]) ?_ ?_ ?_ ?_
 eq_refl
def ME:DB d39 Ξ JL:=by
 exists or ?_ ?_,G
 exists oC G (md':=[.imm,.imm,.imm,.own]) ?_ ?_ ?_ ?_
 eq_refl
 exists oC G (md':=[.imm,.imm,.imm,.own]) ?_ ?_ ?_ ?_
 eq_refl
 exists oC G (md':=[.imm,.imm,.imm,.own]) ?_ ?_ ?_ ?_
 eq_refl
 exists pJ (oE G (own:=["_law_makes","_law_price"]) (md':=[.imm,.imm,.imm,.own]) ?_)
 ac_nf
 ac_nf
 ac_nf
abbrev rc (d:Df):nA:=⟨kL d.name,sA d.st,pV d.st,oN d.st,Jy d.st⟩
abbrev recs:List nA:=[rc d0,rc d1,rc d2,rc d3,rc d4,rc d5,rc d6,rc d7,rc d8,rc d9,rc R9,rc R8,rc R7,rc R6,rc R5,rc R4,rc R3,rc R0,rc RZ,rc RY,rc RX,rc RW,rc RT,rc RS,rc RQ,rc RP,rc RN,rc RL,rc RK,rc RJ,rc RI,rc RG,rc RF,rc RE,rc RD,rc RC,rc Rz,rc Ry,rc Rx,rc d39]
def recs_eq:recs=recsOf view:=by kernel_rfl!
abbrev PD (K:nN)(mg:Str->Option nE) (i:Nat)(x:Str):Prop:=∃ df fd fa fdd,tb[i]?=Ψ fd/\Df.ok df fd.np fd.ns fd.io=Ω/\(∀ X call n,Good X (df.cc fns) n (Hb tb call)->Bp X (df.cc fns) fd.fr (pV df.st) (fd.body call))/\Fun K (kL df.name) (kL df.name) df.st fa fdd/\mg x=Ψ (.ref fa)/\Binds K fdd df.ps []
local macro_rules | `(tactic| exists $d,$b,$j,$u)=>`(tactic| (exact And.intro (have ⟨fa,fd,m,F⟩:=DIn.fn (by assumption) ((by assumption:∀ d∈recs,DIn _ _ d) (rc $d) (cH (i:=$j) rfl)); ⟨$d,_,fa,fd,rfl,by decide +kernel,$b,F,m,F.binds fun _ _ _ _ _ _ us hl=>$u (P:=fun us=>bindArgs _ ⟨us,[]⟩=pure (List.zip _ us)) hl (by intros; first | kernel_rfl! | rfl)⟩) ?_))
def Mw {K:nN}{h:nM}{mg:Str->Option nE}(A:AllIn K h)(D:∀ d∈recs,DIn K mg d):EachI (PD K mg) 0 fns.f:=by
 exists d0,db0,0,EC
 exists d1,db1,1,sZ
 exists d2,db2,2,EC
 exists d3,db3,3,sZ
 exists d4,db4,4,sZ
 exists d5,db5,5,sZ
 exists d6,db6,6,EC
 exists d7,db7,7,sZ
 exists d8,db8,8,sZ
 exists d9,db9,9,sZ
 exists R9,Rw,10,sZ
 exists R8,Rv,11,sZ
 exists R7,Ru,12,sZ
 exists R6,Rt,13,sZ
 exists R5,Rs,14,sZ
 exists R4,Rr,15,EC
 exists R3,Rp,16,EC
 exists R0,Ro,17,sZ
 exists RZ,Rn,18,sZ
 exists RY,Rm,19,sZ
 exists RX,Rl,20,sZ
 exists RW,Rj,21,sZ
 exists RT,Rh,22,sZ
 exists RS,Rg,23,sZ
 exists RQ,Rf,24,sZ
 exists RP,Re,25,sZ
 exists RN,Rb,26,sZ
 exists RL,Ra,27,sZ
 exists RK,Q9,28,EC
 exists RJ,Q8,29,EC
 exists RI,Q7,30,sZ
 exists RG,Q6,31,sZ
 exists RF,Q5,32,sZ
 exists RE,Q4,33,OB
 exists RD,Q3,34,sZ
 exists RC,Q2,35,sZ
 exists Rz,QZ,36,sZ
 exists Ry,QY,37,OB
 exists Rx,QX,38,us5
 exists d39,ME,39,EC
 trivial
def law_fn (w:nC)(K:nN)(mg:Str->Option nE)(fa:nP)(h:nM)(A:AllIn K h)(D:∀ d∈recs,DIn K mg d)(blt:∀ b∈bltNames,mg (kL b)=Φ)(hm:mg (kL "law")=Ψ (.ref fa)) :
  ∃ fd:mV,(∀ (s:nh)(u:nE),m8 s fd ⟨[u],[]⟩ [(kL "_law_script",u)])/\∀ base:nM,FnOk aa w K mg base Et 14 fa fd [kL "_law_script"] (spT K tb (callW tb 14) 39):=by
 let(fa2,fd,m,F):=DIn.fn A (D (rc d39) (cH (i:=39) rfl))
 let e:=hm.symm.trans m
 cases e
 let E:∀ (f:Nat)(x:Str),fns.f[f]?=Ψ x->PD K mg f x:=λf x hx=>by
  have:=EachI.get (Mw A D) f x hx
  rwa [kR] at this
 let EM:∀ (k:Nat)(c:Str)(Ca:nP)(m:Str),fns.ms[k]?=Ψ (c,Ca,m)->∃ df fd fa fdd nm qu,tb[fns.f.length+k]?=Ψ fd/\Df.ok df fd.np fd.ns fd.io=Ω/\(∀ X call n,Good X (df.cc fns) n (Hb tb call)->Bp X (df.cc fns) fd.fr (pV df.st) (fd.body call))/\Fun K nm qu df.st fa fdd/\mg c=Ψ (.ref Ca)/\Cls K Ca/\(m=("__init__":Str)->Mk K Ca fa)/\(m≠("__init__":Str)->Meth K Ca m fa)/\Binds K fdd df.ps []:=λk c Ca m hx=>by cases hx
 let FL:∀ p∈fns.fl,Cls K p.1/\xM K p.1 p.2:=λp hp=>by cases hp
 exact⟨fd,?_,λbase=>?_⟩
 ·let(oc,od,kV,doc,pm,an,cdv,ct,osl,rfl,lk,hcd):=F.ex
  exact λs v=>.of_eq rfl
 ·let(R1,R2):=Bm (P:=aa) (w:=w) (base:=base) blt FL E EM 13
  exact xr (df:=d39) F rfl (by nofun) ME R1 blt R2 FL
end Kq
set_option maxHeartbeats 0
section
open PySem PySem.W PyProof.Rows





def Kq.hdef : defOf Kq.view PySem.Challenge.rw_keepwhole_k17_least_room_shown.name = Ψ (Kq.rc Kq.d39, []) := by kernel_rfl!
def Kq.hp : PySem.Challenge.rw_keepwhole_k17_least_room_shown.prog.theDef PySem.Challenge.rw_keepwhole_k17_least_room_shown.name = Ψ ((Kq.rc Kq.d39).params, (Kq.rc Kq.d39).body, (Kq.rc Kq.d39).scope) := by kernel_rfl!
def Kq.okq : (chainsOk Kq.view && opensWell PySem.Challenge.rw_keepwhole_k17_least_room_shown.prog && (frees PySem.Challenge.rw_keepwhole_k17_least_room_shown.row.toRowW && PySem.Challenge.rw_keepwhole_k17_least_room_shown.row.within.isEmpty)) = Ω := by nofun
def Kq.prom : PySem.Challenge.rw_keepwhole_k17_least_room_shown.row.toRowW.promised := ⟨[.list []], by nofun, by nofun⟩
theorem PySem.Challenge.cw_keepwhole_k17_least_room_shown_holds : PySem.Challenge.rw_keepwhole_k17_least_room_shown.Holds :=
  Kq.row_holds Kq.said Kq.left Kq.hdef Kq.hp rfl rfl Kq.okq ⟨rfl, rfl, rfl, rfl, rfl, by nofun⟩ Kq.prom (Kq.walk2 (n := 63) (k := 14) (ds := Kq.recs) (x := Str.ofString "_law_script") (sp := fun K => Kq.spT K Kq.tb (Kq.callW Kq.tb 14) 39) rfl (·) rfl ⟨rfl, by decide, by decide, rfl⟩ Kq.recs_eq Kq.freeAll Kq.law_fn fun _ _ a ns hl hO hS => Kq.law_sp rfl rfl rfl hO hS (Kq.law_val ns))
end
